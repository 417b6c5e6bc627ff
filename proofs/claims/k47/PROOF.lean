import PyProof.Rows.All
import Wide.All
import OpenK.AllK
import Wide.FinOn
import Lean
import PyProof.EqAt
import PyProof.EqKinds
import PyProof.TupleCall
import PyProof.P3Eq
import PyProof.NeData
import PyProof.FitsBits
import PyProof.ZipIter
import PyProof.TupleIter
import KE.KRevIter
import PyProof.TupleOfGen
import PyProof.ListRange
import KE.KIsAll
import PyProof.ExcArgsOwn
import OpenK.KDescr
import PyProof.StationsW
import PyProof.ExcBaseAll.ValueError
import OpenK.KOwn
import PyProof.RulesAs
import PyProof.RulesDel
import PyProof.Rows.SortWalk
import PyProof.CompUse
import KE.KDictSum
import PyProof.WalkInts
import KE.KSortTup
import PyProof.Rows.TupDisplay
import KE.KIntText
import PyProof.JoinWalk
import PyProof.ExcInit
import PyProof.ExcClass2
import KE.KRevSl
import KE.KSetAt
import PyProof.DictUpdate
import PySem.Challenge.RW_pebbletoll_k47_no_numbers
set_option Elab.async false
set_option linter.all false
set_option maxRecDepth 100000
def jZ:=@PySem.Around.under_plainId
def fT:=@Array.getElem?_eq_some_iff
def mO:=@Array.getElem?_toList
def ng:=@Array.length_toList
def mD:=@Array.size_push
def cj:=@Bool.and_eq_true
def m8:=@Bool.and_eq_true_iff
def gD:=@Bool.eq_iff_iff
def iV:=@Bool.false_and
def bR:=@Bool.false_eq_true
def bh:=@Bool.false_ne_true
def mX:=@Bool.false_or
def iJ:=@Bool.not_eq_true'
def m3:=@Bool.or_false
def kX:=@Bool.or_true
def iT:=@Bool.true_and
def kC:=@PySem.Calls.Name_function_global
def gB:=@PySem.Calls.spliced_cons
def gI:=@PySem.Calls.spliced_nil
def jS:=@PySem.F.args_tuple_iterator_next_1
def lA:=@PySem.F.entry_min_loop
def kj:=@PySem.F.entry_tuple_iterator_next
def fm:=@PySem.F.plain_min_loop
def fP:=@PySem.F.slot_tuple_iterator_next
def jJ:=@PySem.F.slot_zip_next
def aw:=@PySem.Heap.get?_push_of_some
def ba:=@PySem.Heap.get?_push_size
def bM:=@PySem.Heap.get?_update_other
def dC:=@PySem.Heap.get?_update_self
def aG:=@PySem.Heap.lt_size
def dF:=@PySem.Heap.size_push
def iB:=@Int.add_mul
def nM:=@Int.add_zero
def lU:=@Int.ediv_nonneg
def b7:=@Int.emod_lt_of_pos
def cg:=@Int.emod_nonneg
def kE:=@Int.fdiv_eq_ediv_of_nonneg
def jD:=@Int.le_of_lt
def bA:=@Int.le_refl
def bE:=@Int.le_trans
def dG:=@Int.mul_add
def gN:=@Int.mul_assoc
def hJ:=@Int.mul_comm
def dD:=@Int.mul_le_mul
def cT:=@Int.mul_le_mul_of_nonneg_left
def eY:=@Int.mul_le_mul_of_nonneg_right
def jY:=@Int.mul_nonneg
def iw:=@Int.mul_one
def iz:=@Int.mul_sub
def jC:=@Int.mul_zero
def j5:=@Int.natAbs_mul
def kF:=@Int.natAbs_natCast
def eM:=@Int.natCast_add
def jK:=@Int.natCast_mul
def lN:=@Int.natCast_pow
def lZ:=@Int.natCast_sub
def jv:=@Int.ne_of_gt
def ow:=@Int.neg_mul
def lH:=@Int.one_mul
def lJ:=@Int.pow_add
def bD:=@Int.toNat_natCast
def bH:=@Int.toNat_of_nonneg
def dq:=@Int.zero_add
def mq:=@List.Perm.append_left
def mZ:=@List.all_cons
def fX:=@List.all_eq_true
def gL:=@List.any_cons
def cU:=@List.append_assoc
def bX:=@List.append_nil
def jA:=@List.concat_eq_append
def iR:=@List.cons.inj
def lB:=@List.cons_append
def eJ:=@List.contains_cons
def jH:=@List.drop_append_of_le_length
def eO:=@List.drop_eq_getElem_cons
def lM:=@List.drop_eq_nil_of_le
def jd:=@List.drop_length
def me:=@List.drop_of_length_le
def j2:=@List.drop_succ_cons
def ir:=@List.drop_zero
def dX:=@List.eq_nil_iff_forall_not_mem
def jE:=@List.eq_nil_or_concat
def ik:=@List.eq_of_mem_replicate
def jb:=@List.eraseIdxIfInBounds_toArray
def ja:=@List.eraseIdx_eq_take_drop_succ
def eW:=@List.ext_getElem?
def hV:=@List.filterMap_cons
def c8:=@List.filter_append
def fB:=@List.filter_cons_of_neg
def gi:=@List.filter_cons_of_pos
def lX:=@List.filter_nil
def gf:=@List.find?_cons
def jp:=@List.findSome?_append
def j3:=@List.findSome?_cons
def m6:=@List.flatMap_append
def di:=@List.flatMap_cons
def eR:=@List.flatten_cons
def l9:=@List.forIn_cons
def cf:=@List.getD_eq_getElem?_getD
def dA:=@List.getElem?_append_left
def dc:=@List.getElem?_append_right
def im:=@List.getElem?_cons_succ
def ap:=@List.getElem?_eq_getElem
def bI:=@List.getElem?_eq_none
def aq:=@List.getElem?_eq_some_iff
def fF:=@List.getElem?_inj
def aF:=@List.getElem?_map
def cL:=@List.getElem?_of_mem
def fS:=@List.getElem?_range
def d7:=@List.getElem?_replicate
def jB:=@List.getElem?_replicate_of_lt
def cB:=@List.getElem?_reverse
def cY:=@List.getElem?_set_ne
def dP:=@List.getElem?_set_self
def hZ:=@List.getElem?_take_of_lt
def lF:=@List.getElem_cons_drop
def iH:=@List.getElem_map
def ee:=@List.getElem_mem
def dL:=@List.getElem_of_mem
def fG:=@List.getElem_take
def aP:=@List.length_append
def aE:=@List.length_cons
def dj:=@List.length_drop
def kq:=@List.length_eraseIdx_of_lt
def cA:=@List.length_filter_le
def ah:=@List.length_map
def eD:=@List.length_nil
def bC:=@List.length_range
def bT:=@List.length_replicate
def bj:=@List.length_reverse
def cP:=@List.length_set
def bd:=@List.length_take
def lC:=@List.length_zip
def cH:=@List.lookup_cons
def aD:=@List.map_append
def dM:=@List.map_congr_left
def aH:=@List.map_cons
def gF:=@List.map_drop
def d8:=@List.map_nil
def gb:=@List.map_replicate
def eV:=@List.map_reverse
def d9:=@List.map_set
def iq:=@List.map_take
def bc:=@List.mem_append
def bo:=@List.mem_append_left
def aY:=@List.mem_append_right
def ar:=@List.mem_cons
def aI:=@List.mem_cons_of_mem
def aK:=@List.mem_cons_self
def mn:=@List.mem_erase_of_ne
def b5:=@List.mem_filter
def gH:=@List.mem_flatMap
def bu:=@List.mem_map
def dQ:=@List.mem_nil_iff
def aM:=@List.mem_of_getElem?
def mj:=@List.mem_of_getLast?
def cI:=@List.mem_of_mem_drop
def gJ:=@List.mem_of_mem_take
def fQ:=@List.mem_or_eq_of_mem_set
def b6:=@List.mem_range
def eT:=@List.mem_reverse
def aB:=@List.mem_singleton
def jg:=@List.nil_append
def fI:=@List.nodup_append
def bn:=@List.nodup_cons
def kM:=@List.not_mem_nil
def gQ:=@List.of_mem_zip
def eK:=@List.pairwise_iff_getElem
def kb:=@List.perm_append_singleton
def cZ:=@List.range_succ
def cw:=@List.replicate_succ
def mH:=@List.reverse_append
def dW:=@List.reverse_cons
def mm:=@List.reverse_reverse
def aN:=@List.size_toArray
def eE:=@List.sum_append
def aZ:=@List.sum_cons
def df:=@List.take_add_one
def b8:=@List.take_append_drop
def bp:=@List.take_length
def dh:=@List.take_of_length_le
def bL:=@List.take_succ
def mI:=@List.take_succ_cons
def d6:=@List.take_zero
def fK:=@Nat.add_mul
def iI:=@Nat.le_add_right
def mY:=@Nat.le_of_eq
def iP:=@Nat.le_of_lt
def aA:=@Nat.le_refl
def fe:=@Nat.le_succ
def aU:=@Nat.le_trans
def nJ:=@Nat.log2_lt
def cG:=@Nat.lt_irrefl
def fu:=@Nat.lt_of_le_of_lt
def aW:=@Nat.lt_of_lt_of_le
def fE:=@Nat.lt_succ_of_lt
def eU:=@Nat.lt_succ_self
def nD:=@Nat.mul_add
def iM:=@Nat.mul_comm
def bZ:=@Nat.mul_le_mul
def gW:=@Nat.mul_le_mul_left
def dY:=@Nat.mul_le_mul_right
def eL:=@Nat.ne_of_gt
def aV:=@Nat.ne_of_lt
def nN:=@Nat.one_mul
def eF:=@Nat.pow_add
def gU:=@Nat.pow_le_pow_left
def bF:=@Nat.pow_le_pow_right
def mi:=@Nat.pow_lt_pow_right
def nO:=@Nat.pow_mul
def f7:=@Nat.pow_succ
def fC:=@Nat.sub_self
def kK:=@Nat.sub_zero
def iQ:=@Nat.succ.inj
def bz:=@Nat.zero_le
def eB:=@PySem.Obj.data_mapFields
def gG:=@PySem.Obj.isFreed_of_fields
def iK:=@Option.bind_some
def dU:=@Option.isSome_iff_exists
def gC:=@Option.isSome_map
def eA:=@Option.map_eq_some_iff
def jf:=@Option.map_some
def bq:=@Option.some.inj
def cD:=@PyProof.Rows.callWith_type1
def fU:=@PySem.F.slot_list_insert
def fM:=@PySem.W.any_some
def j0:=@PySem.W.callWith_K
def lD:=@PySem.W.cellsFrom_some
def jw:=@PySem.W.looks_findIn
def jN:=@PySem.W.looks_mroIn
def br:=@PySem.W.mg_of
def dJ:=@PySem.mem_of_lookup
def jT:=@beq_iff_eq
def lg:=@PySem.codeAny_builtin
def iU:=@PySem.codeAny_mono
def aQ:=@decide_eq_false
def bg:=@decide_eq_true
def bK:=@decide_eq_true_eq
def ag:=@if_neg
def aj:=@if_pos
def dE:=@of_decide_eq_true
def fA:=@PySem.wpAny_Call_Name_kw
def j9:=@PySem.wpAny_attempt
def ak:=@PySem.wpAny_bind
def jV:=@PySem.wpAny_call
def iG:=@PySem.wpAny_call_entry
def kL:=@PySem.wpAny_execs_cons
def fW:=@PySem.wpAny_execs_nil
def cC:=@PySem.wpAny_field
def fh:=@PySem.wpAny_holding
def fV:=@PySem.wpAny_ite_split
def fJ:=@PySem.wpAny_letGo
def lK:=@PySem.wpAny_loadPart
def b9:=@PySem.wpAny_mono
def fD:=@PySem.wpAny_newObj_type
def ip:=@PySem.wpAny_onRaise
def fj:=@PySem.wpAny_passesOwn
def aR:=@PySem.wpAny_pure
def gm:=@PySem.wpAny_pyIter_list
def jt:=@PySem.wpAny_pyIter_revIter
def j4:=@PySem.wpAny_pyIter_tuple
def cV:=@PySem.wpAny_seqItems
def gZ:=@PySem.wpAny_setField
def ft:=@PySem.wpAny_setField_rec
def lq:=@PySem.wpAny_specialOf
def iu:=@PySem.wpAny_standAt
def c9:=@PySem.wpAny_truthy_bool
def jF:=@PySem.wpAny_tryCatch
def je:=@PySem.wpAny_updateSeq
def jq:=@PySem.wpAny_updateSeq_pair
namespace Hd
open PySem
def top(i:Nat):Stmt:=PySem.Challenge.pw_pebbletoll_k47_no_numbers.main.body.getD i (.Pass ⟨0,0,0,0⟩)
def inC(s:Stmt)(j:Nat):Stmt:=match s with
 | .ClassDef _ _ _ b _ _ _ _ _ _ _=>b.getD j (.Pass ⟨0,0,0,0⟩)
 | _=>.Pass ⟨0,0,0,0⟩
def kA(s:Stmt):Arguments:=match s with
 | .FunctionDef _ a _ _ _ _ _ _ _ _=>a
 | _=>{ posonlyargs:=[],args:=[],vararg:=none,kwonlyargs:=[],kw_defaults:=[],kwarg:=none,defaults:=[] }
def kB(s:Stmt):List Stmt:=match s with
 | .FunctionDef _ _ b _ _ _ _ _ _ _=>b
 | _=>[]
def kS(s:Stmt):Scope:=match s with
 | .FunctionDef _ _ _ _ _ _ sc _ _ _=>sc
 | _=>{ kind:=.function,names:=[],isGenerator:=false,isCoroutine:=false }
theorem ws:(PySem.Challenge.rw_pebbletoll_k47_no_numbers).wellSaid=true:=by kernel_rfl
open PySem.W PySem.Calls PyProof.Rows
def en(P:Params)(s:Str)(t:Tok)(v:Value):DictEntry:=.mk (PyData.keyHash P s) (.str s t) v
def cO(a b:Str)(t1 t2 t3:Tok)(i1 i2 i3 i4 i5:Int)(r1:Value)(b1:Bool)(i6:Int)(r2 v1 v2 v3 r3:Value)(i7 i8:Int)(t4:Tok):Obj:=.mk (.type "code") none (.fields #[.str a t1,.str b t2,.str "/claim/cut.py" t3,.int i1 0,.int i2 0,.int i3 0,.int i4 0,.int i5 0,r1,.bool b1,.int i6 0,r2,v1,v2,v3,r3,.int i7 0,.int i8 0,.str "/claim/cut.py" t4]) #[]
def fR(a b:Str)(s:Stmt):Obj:=.mk .none none (.func (.mk a b (kA s) (.stmts (kB s)) (kS s) 0 [] .none .none .none .none none .none .none 0)) #[]
def fO(a b:Str)(s:Stmt)(pm cd:Value):Obj:=.mk (.type "function") none (.func (PySem.W.fnOf a b (kA s) (kB s) (kS s) .none .none .none pm none cd .none)) #[]
def tO(xs:Array Value):Obj:=.mk (.type "tuple") none (.seq xs 0) #[]
def fr(a:Str)(s:Stmt):Obj:=fR a a s
def fo(a:Str)(s:Stmt)(pm cd:Value):Obj:=fO a a s pm cd
def cF(a:Str)(t:Nat)(i j k:Int)(n q:Nat):Obj:=cO a a t (t+1) (t+2) i j 0 0 k (.ref n) true 181 (.ref (n+1)) .none (.ref (n+2)) (.ref (n+3)) (.ref (n+4)) q i (q+1)
def sT(t:Nat):List Str->List Value
 | []=>[]
 | s::l=>.str s t::sT (t+1) l
def tS(t:Nat)(l:List Str):Obj:=tO (sT t l).toArray
def tF:List (Int×Nat)->List Value
 | []=>[]
 | (i,a)::l=>.int i 0::.int 0 0::.ref a::tF l
def x0:Obj:=(tO #[])
def x1:Obj:=(.mk .none none (.fields #[]) #[])
def x2:Obj:=(cO "<module>" "<module>" 182 183 184 1 0 0 0 0 (.ref 11) false 181 (.ref 12) .none .none .none .none 185 1 186)
def x3:Obj:=(.mk (.type "frame") none .plain #[(some (.ref 13)),(some (.ref 3)),(some (.ref 3)),none,(some (.str "__main__" 164)),none,(some (.ref 0))])
noncomputable def ha(P:Params):Heap:=.mk (.mk (boot_o_0 P::boot_o_1 P::boot_o_2 P::boot_o_3 P::boot_o_4 P::boot_o_5 P::boot_o_6 P::boot_o_7 P::boot_o_8 P::boot_o_9 P::boot_o_10 P::x0::x1::x2::x3::[])) (.mk [] [] [] 0 [] [] false #[] [] 0 false false false 0 [2000,10,10] false 0 true [] [] 0 false)
noncomputable def hb(P:Params):Heap:=ha P
abbrev st0:List Stmt:=[top 0,top 1,top 2,top 3,top 4,top 5,top 6,top 7,top 8,top 9]
abbrev st1:List Stmt:=[top 10,top 11,top 12,top 13,top 14,top 15,top 16,top 17,top 18,top 19,top 20,top 21,top 22,top 23,top 24,top 25,top 26,top 27,top 28,top 29,top 30,top 31,top 32,top 33,top 34,top 35,top 36,top 37,top 38,top 39,top 40,top 41,top 42,top 43,top 44,top 45,top 46,top 47,top 48,top 49,top 50,top 51,top 52,top 53,top 54,top 55]
abbrev ZC:List Stmt:=[top 56,top 57,top 58,top 59,top 60,top 61,top 62,top 63,top 64,top 65,top 66,top 67,top 68,top 69,top 70,top 71,top 72,top 73,top 74,top 75,top 76,top 77,top 78,top 79,top 80,top 81,top 82,top 83,top 84,top 85,top 86,top 87,top 88,top 89,top 90]
abbrev bb:List Stmt:=st0++(st1++(ZC++([])))
def env:Env:={ scope:=PySem.Challenge.pw_pebbletoll_k47_no_numbers.main.scope,locals:=mainNs,globals:=mainNs,cells:=[],code:=(.ref 13),frame:=some 14 }
abbrev cE:Code:=.body bb env
theorem WS(w:World)(os:OsState):topGo treeTable PySem.Challenge.pw_pebbletoll_k47_no_numbers w 11 (some (.ref 6)) 12 (Shared.mk (boot_heap w.params) (.mk []) boot_drawn boot_toks os) (topStub PySem.Challenge.pw_pebbletoll_k47_no_numbers)=some ((Shared.mk (ha w.params) (.mk []) (.mk 0 0 0 0) 187 os),Thread.mk (denote treeTable cE) cE (.mk 0 0 0 0) [topFrame (.mk 0 0 0 0)]):=by kernel_rfl
theorem V1(w:World)(os:OsState):segRun treeTable PySem.Challenge.pw_pebbletoll_k47_no_numbers w 11 (some (.ref 6)) 1 1 (Shared.mk (ha w.params) (.mk []) (.mk 0 0 0 0) 187 os) (blockOf bb env cE (.mk 0 0 0 0) [topFrame (.mk 0 0 0 0)])=some (.next,(Shared.mk (hb w.params) (.mk []) (.mk 0 0 0 0) 187 os),cE,(.mk 0 0 0 0)):=by kernel_rfl
def x4(P:Params):Obj:=(.mk (.type "dict") none (.dict #[(en P "__name__" 165 (.str "pebbletoll.errors" 187)),(en P "__doc__" 166 .none),(en P "__package__" 167 .none),(en P "__loader__" 168 (.builtin "__main__.__loader__#opaque")),(en P "__spec__" 169 .none),(en P "__annotations__" 170 (.ref 6)),(en P "__builtins__" 171 (.ref 4)),(en P "__file__" 173 (.str "/claim/cut.py" 172)),(en P "__cached__" 174 .none),(en P "TollError" 206 (.ref 24)),(en P "BadWeb" 222 (.ref 37)),(en P "NoPlace" 238 (.ref 49)),(en P "NoRoad" 254 (.ref 61)),(en P "BadLaying" 270 (.ref 73)),(en P "BadWish" 286 (.ref 85)),(en P "TooMany" 302 (.ref 97)),(en P "NoNumber" 318 (.ref 109)),(en P "NoWorst" 334 (.ref 121))] 18) #[])
def x5:Obj:=(.mk .none none (.fields (tF [(2,20),(4,33),(6,45),(8,57),(10,69),(12,81),(14,93),(16,105),(18,117)]).toArray) #[])
def x6:Obj:=(tO #[(.type "ValueError")])
def x7:Obj:=(.mk (.type "builtin_function_or_method") none (.fields #[(.builtin "type.__prepare__"),(.type "type")]) #[])
def x8(P:Params):Obj:=(.mk (.type "dict") none (.dict #[(en P "__module__" 196 (.str "pebbletoll.errors" 187)),(en P "__qualname__" 198 (.str "TollError" 197)),(en P "__firstlineno__" 200 (.int 2 199)),(en P "__static_attributes__" 201 (.ref 22))] 4) #[])
def x9:Obj:=(cO "TollError" "TollError" 191 192 193 2 0 0 0 0 (.ref 18) false 181 (.ref 19) .none .none .none .none 194 2 195)
def x10:Obj:=(.mk (.type "frame") none .plain #[(some (.ref 20)),(some (.ref 3)),(some (.ref 17)),none,(some (.str "pebbletoll.errors" 187)),none,(some (.ref 0))])
def x11(P:Params):Obj:=(.mk (.type "dict") none (.dict #[(en P "__module__" 196 (.str "pebbletoll.errors" 187)),(en P "__firstlineno__" 200 (.int 2 199)),(en P "__static_attributes__" 201 (.ref 22)),(en P "__weakref__" 203 (.ref 25)),(en P "__doc__" 204 .none)] 3) #[])
def x12:Obj:=(.mk (.type "type") none (.cls (.mk "TollError" [(.type "ValueError")] [(.ref 24),(.type "ValueError"),(.type "Exception"),(.type "BaseException"),(.type "object")] 23 "TollError" true [] [(.ref 37),(.ref 49),(.ref 61),(.ref 73),(.ref 85),(.ref 97),(.ref 109),(.ref 121)] false none false)) #[(some (.ref 15)),none,(some (.str "TollError" 189)),(some (.str "TollError" 197)),(some (.builtin "ValueError.__new__")),(some (.bool true))])
def x13:Obj:=(.mk (.type "getset_descriptor") none (.fields #[(.str "__weakref__" 202),(.ref 24),(.builtin "ExceptionGroup.__weakref__"),.none]) #[])
def x14:Obj:=(.mk (.type "super") none (.fields #[(.ref 24),(.ref 24),(.ref 24)]) #[])
def x15:Obj:=(.mk (.type "builtin_function_or_method") none (.fields #[(.builtin "object.__init_subclass__"),(.ref 24)]) #[])
def aT:Obj:=(tO #[(.ref 24)])
def x17(P:Params):Obj:=(.mk (.type "dict") none (.dict #[(en P "__module__" 214 (.str "pebbletoll.errors" 187)),(en P "__qualname__" 216 (.str "BadWeb" 215)),(en P "__firstlineno__" 218 (.int 4 217)),(en P "__static_attributes__" 219 (.ref 35))] 4) #[])
def x18:Obj:=(cO "BadWeb" "BadWeb" 209 210 211 4 0 0 0 0 (.ref 31) false 181 (.ref 32) .none .none .none .none 212 4 213)
def x19:Obj:=(.mk (.type "frame") none .plain #[(some (.ref 33)),(some (.ref 3)),(some (.ref 30)),none,(some (.str "pebbletoll.errors" 187)),none,(some (.ref 0))])
def x20(P:Params):Obj:=(.mk (.type "dict") none (.dict #[(en P "__module__" 214 (.str "pebbletoll.errors" 187)),(en P "__firstlineno__" 218 (.int 4 217)),(en P "__static_attributes__" 219 (.ref 35)),(en P "__doc__" 220 .none)] 2) #[])
def x21:Obj:=(.mk (.type "type") none (.cls (.mk "BadWeb" [(.ref 24)] [(.ref 37),(.ref 24),(.type "ValueError"),(.type "Exception"),(.type "BaseException"),(.type "object")] 36 "BadWeb" true [] [] false none false)) #[(some (.ref 28)),none,(some (.str "BadWeb" 207)),(some (.str "BadWeb" 215)),(some (.builtin "ValueError.__new__")),(some (.bool true))])
def x22:Obj:=(.mk (.type "super") none (.fields #[(.ref 37),(.ref 37),(.ref 37)]) #[])
def x23:Obj:=(.mk (.type "builtin_function_or_method") none (.fields #[(.builtin "object.__init_subclass__"),(.ref 37)]) #[])
def x24(P:Params):Obj:=(.mk (.type "dict") none (.dict #[(en P "__module__" 230 (.str "pebbletoll.errors" 187)),(en P "__qualname__" 232 (.str "NoPlace" 231)),(en P "__firstlineno__" 234 (.int 6 233)),(en P "__static_attributes__" 235 (.ref 47))] 4) #[])
def x25:Obj:=(cO "NoPlace" "NoPlace" 225 226 227 6 0 0 0 0 (.ref 43) false 181 (.ref 44) .none .none .none .none 228 6 229)
def x26:Obj:=(.mk (.type "frame") none .plain #[(some (.ref 45)),(some (.ref 3)),(some (.ref 42)),none,(some (.str "pebbletoll.errors" 187)),none,(some (.ref 0))])
def x27(P:Params):Obj:=(.mk (.type "dict") none (.dict #[(en P "__module__" 230 (.str "pebbletoll.errors" 187)),(en P "__firstlineno__" 234 (.int 6 233)),(en P "__static_attributes__" 235 (.ref 47)),(en P "__doc__" 236 .none)] 2) #[])
def x28:Obj:=(.mk (.type "type") none (.cls (.mk "NoPlace" [(.ref 24)] [(.ref 49),(.ref 24),(.type "ValueError"),(.type "Exception"),(.type "BaseException"),(.type "object")] 48 "NoPlace" true [] [] false none false)) #[(some (.ref 40)),none,(some (.str "NoPlace" 223)),(some (.str "NoPlace" 231)),(some (.builtin "ValueError.__new__")),(some (.bool true))])
def x29:Obj:=(.mk (.type "super") none (.fields #[(.ref 49),(.ref 49),(.ref 49)]) #[])
def x30:Obj:=(.mk (.type "builtin_function_or_method") none (.fields #[(.builtin "object.__init_subclass__"),(.ref 49)]) #[])
def x31(P:Params):Obj:=(.mk (.type "dict") none (.dict #[(en P "__module__" 246 (.str "pebbletoll.errors" 187)),(en P "__qualname__" 248 (.str "NoRoad" 247)),(en P "__firstlineno__" 250 (.int 8 249)),(en P "__static_attributes__" 251 (.ref 59))] 4) #[])
def x32:Obj:=(cO "NoRoad" "NoRoad" 241 242 243 8 0 0 0 0 (.ref 55) false 181 (.ref 56) .none .none .none .none 244 8 245)
def x33:Obj:=(.mk (.type "frame") none .plain #[(some (.ref 57)),(some (.ref 3)),(some (.ref 54)),none,(some (.str "pebbletoll.errors" 187)),none,(some (.ref 0))])
def x34(P:Params):Obj:=(.mk (.type "dict") none (.dict #[(en P "__module__" 246 (.str "pebbletoll.errors" 187)),(en P "__firstlineno__" 250 (.int 8 249)),(en P "__static_attributes__" 251 (.ref 59)),(en P "__doc__" 252 .none)] 2) #[])
def x35:Obj:=(.mk (.type "type") none (.cls (.mk "NoRoad" [(.ref 24)] [(.ref 61),(.ref 24),(.type "ValueError"),(.type "Exception"),(.type "BaseException"),(.type "object")] 60 "NoRoad" true [] [] false none false)) #[(some (.ref 52)),none,(some (.str "NoRoad" 239)),(some (.str "NoRoad" 247)),(some (.builtin "ValueError.__new__")),(some (.bool true))])
def x36:Obj:=(.mk (.type "super") none (.fields #[(.ref 61),(.ref 61),(.ref 61)]) #[])
def x37:Obj:=(.mk (.type "builtin_function_or_method") none (.fields #[(.builtin "object.__init_subclass__"),(.ref 61)]) #[])
def x38(P:Params):Obj:=(.mk (.type "dict") none (.dict #[(en P "__module__" 262 (.str "pebbletoll.errors" 187)),(en P "__qualname__" 264 (.str "BadLaying" 263)),(en P "__firstlineno__" 266 (.int 10 265)),(en P "__static_attributes__" 267 (.ref 71))] 4) #[])
def x39:Obj:=(cO "BadLaying" "BadLaying" 257 258 259 10 0 0 0 0 (.ref 67) false 181 (.ref 68) .none .none .none .none 260 10 261)
def x40:Obj:=(.mk (.type "frame") none .plain #[(some (.ref 69)),(some (.ref 3)),(some (.ref 66)),none,(some (.str "pebbletoll.errors" 187)),none,(some (.ref 0))])
def x41(P:Params):Obj:=(.mk (.type "dict") none (.dict #[(en P "__module__" 262 (.str "pebbletoll.errors" 187)),(en P "__firstlineno__" 266 (.int 10 265)),(en P "__static_attributes__" 267 (.ref 71)),(en P "__doc__" 268 .none)] 2) #[])
def x42:Obj:=(.mk (.type "type") none (.cls (.mk "BadLaying" [(.ref 24)] [(.ref 73),(.ref 24),(.type "ValueError"),(.type "Exception"),(.type "BaseException"),(.type "object")] 72 "BadLaying" true [] [] false none false)) #[(some (.ref 64)),none,(some (.str "BadLaying" 255)),(some (.str "BadLaying" 263)),(some (.builtin "ValueError.__new__")),(some (.bool true))])
def x43:Obj:=(.mk (.type "super") none (.fields #[(.ref 73),(.ref 73),(.ref 73)]) #[])
def x44:Obj:=(.mk (.type "builtin_function_or_method") none (.fields #[(.builtin "object.__init_subclass__"),(.ref 73)]) #[])
def x45(P:Params):Obj:=(.mk (.type "dict") none (.dict #[(en P "__module__" 278 (.str "pebbletoll.errors" 187)),(en P "__qualname__" 280 (.str "BadWish" 279)),(en P "__firstlineno__" 282 (.int 12 281)),(en P "__static_attributes__" 283 (.ref 83))] 4) #[])
def x46:Obj:=(cO "BadWish" "BadWish" 273 274 275 12 0 0 0 0 (.ref 79) false 181 (.ref 80) .none .none .none .none 276 12 277)
def x47:Obj:=(.mk (.type "frame") none .plain #[(some (.ref 81)),(some (.ref 3)),(some (.ref 78)),none,(some (.str "pebbletoll.errors" 187)),none,(some (.ref 0))])
def x48(P:Params):Obj:=(.mk (.type "dict") none (.dict #[(en P "__module__" 278 (.str "pebbletoll.errors" 187)),(en P "__firstlineno__" 282 (.int 12 281)),(en P "__static_attributes__" 283 (.ref 83)),(en P "__doc__" 284 .none)] 2) #[])
def x49:Obj:=(.mk (.type "type") none (.cls (.mk "BadWish" [(.ref 24)] [(.ref 85),(.ref 24),(.type "ValueError"),(.type "Exception"),(.type "BaseException"),(.type "object")] 84 "BadWish" true [] [] false none false)) #[(some (.ref 76)),none,(some (.str "BadWish" 271)),(some (.str "BadWish" 279)),(some (.builtin "ValueError.__new__")),(some (.bool true))])
def x50:Obj:=(.mk (.type "super") none (.fields #[(.ref 85),(.ref 85),(.ref 85)]) #[])
def x51:Obj:=(.mk (.type "builtin_function_or_method") none (.fields #[(.builtin "object.__init_subclass__"),(.ref 85)]) #[])
def x52(P:Params):Obj:=(.mk (.type "dict") none (.dict #[(en P "__module__" 294 (.str "pebbletoll.errors" 187)),(en P "__qualname__" 296 (.str "TooMany" 295)),(en P "__firstlineno__" 298 (.int 14 297)),(en P "__static_attributes__" 299 (.ref 95))] 4) #[])
def x53:Obj:=(cO "TooMany" "TooMany" 289 290 291 14 0 0 0 0 (.ref 91) false 181 (.ref 92) .none .none .none .none 292 14 293)
def x54:Obj:=(.mk (.type "frame") none .plain #[(some (.ref 93)),(some (.ref 3)),(some (.ref 90)),none,(some (.str "pebbletoll.errors" 187)),none,(some (.ref 0))])
def x55(P:Params):Obj:=(.mk (.type "dict") none (.dict #[(en P "__module__" 294 (.str "pebbletoll.errors" 187)),(en P "__firstlineno__" 298 (.int 14 297)),(en P "__static_attributes__" 299 (.ref 95)),(en P "__doc__" 300 .none)] 2) #[])
def x56:Obj:=(.mk (.type "type") none (.cls (.mk "TooMany" [(.ref 24)] [(.ref 97),(.ref 24),(.type "ValueError"),(.type "Exception"),(.type "BaseException"),(.type "object")] 96 "TooMany" true [] [] false none false)) #[(some (.ref 88)),none,(some (.str "TooMany" 287)),(some (.str "TooMany" 295)),(some (.builtin "ValueError.__new__")),(some (.bool true))])
def x57:Obj:=(.mk (.type "super") none (.fields #[(.ref 97),(.ref 97),(.ref 97)]) #[])
def x58:Obj:=(.mk (.type "builtin_function_or_method") none (.fields #[(.builtin "object.__init_subclass__"),(.ref 97)]) #[])
def x59(P:Params):Obj:=(.mk (.type "dict") none (.dict #[(en P "__module__" 310 (.str "pebbletoll.errors" 187)),(en P "__qualname__" 312 (.str "NoNumber" 311)),(en P "__firstlineno__" 314 (.int 16 313)),(en P "__static_attributes__" 315 (.ref 107))] 4) #[])
def x60:Obj:=(cO "NoNumber" "NoNumber" 305 306 307 16 0 0 0 0 (.ref 103) false 181 (.ref 104) .none .none .none .none 308 16 309)
def x61:Obj:=(.mk (.type "frame") none .plain #[(some (.ref 105)),(some (.ref 3)),(some (.ref 102)),none,(some (.str "pebbletoll.errors" 187)),none,(some (.ref 0))])
def x62(P:Params):Obj:=(.mk (.type "dict") none (.dict #[(en P "__module__" 310 (.str "pebbletoll.errors" 187)),(en P "__firstlineno__" 314 (.int 16 313)),(en P "__static_attributes__" 315 (.ref 107)),(en P "__doc__" 316 .none)] 2) #[])
def x63:Obj:=(.mk (.type "type") none (.cls (.mk "NoNumber" [(.ref 24)] [(.ref 109),(.ref 24),(.type "ValueError"),(.type "Exception"),(.type "BaseException"),(.type "object")] 108 "NoNumber" true [] [] false none false)) #[(some (.ref 100)),none,(some (.str "NoNumber" 303)),(some (.str "NoNumber" 311)),(some (.builtin "ValueError.__new__")),(some (.bool true))])
def x64:Obj:=(.mk (.type "super") none (.fields #[(.ref 109),(.ref 109),(.ref 109)]) #[])
def x65:Obj:=(.mk (.type "builtin_function_or_method") none (.fields #[(.builtin "object.__init_subclass__"),(.ref 109)]) #[])
def x66(P:Params):Obj:=(.mk (.type "dict") none (.dict #[(en P "__module__" 326 (.str "pebbletoll.errors" 187)),(en P "__qualname__" 328 (.str "NoWorst" 327)),(en P "__firstlineno__" 330 (.int 18 329)),(en P "__static_attributes__" 331 (.ref 119))] 4) #[])
def x67:Obj:=(cO "NoWorst" "NoWorst" 321 322 323 18 0 0 0 0 (.ref 115) false 181 (.ref 116) .none .none .none .none 324 18 325)
def x68:Obj:=(.mk (.type "frame") none .plain #[(some (.ref 117)),(some (.ref 3)),(some (.ref 114)),none,(some (.str "pebbletoll.errors" 187)),none,(some (.ref 0))])
def x69(P:Params):Obj:=(.mk (.type "dict") none (.dict #[(en P "__module__" 326 (.str "pebbletoll.errors" 187)),(en P "__firstlineno__" 330 (.int 18 329)),(en P "__static_attributes__" 331 (.ref 119)),(en P "__doc__" 332 .none)] 2) #[])
def x70:Obj:=(.mk (.type "type") none (.cls (.mk "NoWorst" [(.ref 24)] [(.ref 121),(.ref 24),(.type "ValueError"),(.type "Exception"),(.type "BaseException"),(.type "object")] 120 "NoWorst" true [] [] false none false)) #[(some (.ref 112)),none,(some (.str "NoWorst" 319)),(some (.str "NoWorst" 327)),(some (.builtin "ValueError.__new__")),(some (.bool true))])
def x71:Obj:=(.mk (.type "super") none (.fields #[(.ref 121),(.ref 121),(.ref 121)]) #[])
def x72:Obj:=(.mk (.type "builtin_function_or_method") none (.fields #[(.builtin "object.__init_subclass__"),(.ref 121)]) #[])
noncomputable def h0(P:Params):Heap:=.mk (.mk (boot_o_0 P::boot_o_1 P::boot_o_2 P::x4 P::boot_o_4 P::boot_o_5 P::boot_o_6 P::boot_o_7 P::boot_o_8 P::boot_o_9 P::boot_o_10 P::x0::x5::x2::x3::x6::x7::x8 P::x0::x1::x9::x10::x0::x11 P::x12::x13::x14::x15::aT::x7::x17 P::x0::x1::x18::x19::x0::x20 P::x21::x22::x23::aT::x7::x24 P::x0::x1::x25::x26::x0::x27 P::x28::x29::x30::aT::x7::x31 P::x0::x1::x32::x33::x0::x34 P::x35::x36::x37::aT::x7::x38 P::x0::x1::x39::x40::x0::x41 P::x42::x43::x44::aT::x7::x45 P::x0::x1::x46::x47::x0::x48 P::x49::x50::x51::aT::x7::x52 P::x0::x1::x53::x54::x0::x55 P::x56::x57::x58::aT::x7::x59 P::x0::x1::x60::x61::x0::x62 P::x63::x64::x65::aT::x7::x66 P::x0::x1::x67::x68::x0::x69 P::x70::x71::x72::[])) (.mk [] [] [] 0 [] [] false #[] [] 0 false false false 0 [2000,10,10] false 0 true [] [] 0 false)
theorem We(w:World)(os:OsState):segRun treeTable PySem.Challenge.pw_pebbletoll_k47_no_numbers w 11 (some (.ref 6)) 1 1900 (Shared.mk (hb w.params) (.mk []) (.mk 0 0 0 0) 187 os) (piecesOf st0 env cE (.mk 0 0 0 0) [topFrame (.mk 0 0 0 0)])=some (.next,(Shared.mk (h0 w.params) (.mk []) (.mk 0 0 0 0) 335 os),cE,(.mk 18 0 19 8)):=by kernel_rfl
def x73(P:Params):Obj:=(.mk (.type "dict") none (.dict #[(en P "__name__" 165 (.str "pebbletoll.worsts" 720)),(en P "__doc__" 166 .none),(en P "__package__" 167 .none),(en P "__loader__" 168 (.builtin "__main__.__loader__#opaque")),(en P "__spec__" 169 .none),(en P "__annotations__" 170 (.ref 6)),(en P "__builtins__" 171 (.ref 4)),(en P "__file__" 173 (.str "/claim/cut.py" 172)),(en P "__cached__" 174 .none),(en P "TollError" 206 (.ref 24)),(en P "BadWeb" 222 (.ref 37)),(en P "NoPlace" 238 (.ref 49)),(en P "NoRoad" 254 (.ref 61)),(en P "BadLaying" 270 (.ref 73)),(en P "BadWish" 286 (.ref 85)),(en P "TooMany" 302 (.ref 97)),(en P "NoNumber" 318 (.ref 109)),(en P "NoWorst" 334 (.ref 121)),(en P "NoDeed" 350 (.ref 133)),(en P "BadStep" 375 (.ref 152)),(en P "BadText" 400 (.ref 171)),(en P "MOST_PLACES" 404 (.int 24 403)),(en P "LEAST_TOLL" 406 (.int 2 405)),(en P "MOST_TOLL" 408 (.int 1000000 407)),(en P "Web" 436 (.ref 188)),(en P "toll" 449 (.ref 199)),(en P "neighbours" 457 (.ref 206)),(en P "check_place" 465 (.ref 213)),(en P "is_place" 473 (.ref 220)),(en P "check_counts" 481 (.ref 227)),(en P "check_ends" 489 (.ref 234)),(en P "check_tolls" 497 (.ref 241)),(en P "check_joined" 509 (.ref 248)),(en P "other_ends" 519 (.ref 255)),(en P "laying_of" 529 (.ref 262)),(en P "is_filled" 535 (.ref 267)),(en P "total" 542 (.ref 274)),(en P "ahead" 557 (.ref 281)),(en P "down" 570 (.ref 288)),(en P "kids" 576 (.ref 293)),(en P "inward" 582 (.ref 298)),(en P "gathered" 596 (.ref 305)),(en P "most" 605 (.ref 312)),(en P "borne" 617 (.ref 319)),(en P "bound_by" 630 (.ref 326)),(en P "check_wanted" 639 (.ref 333)),(en P "least_weights" 650 (.ref 340)),(en P "enough" 659 (.ref 347)),(en P "bearers" 671 (.ref 354)),(en P "is_heavy" 681 (.ref 361)),(en P "differences" 689 (.ref 366)),(en P "value_at" 701 (.ref 373)),(en P "first_values" 707 (.ref 378)),(en P "parted" 713 (.ref 383)),(en P "parted_at" 719 (.ref 388)),(en P "MOST_PEBBLES" 723 (.int 1000000000000 722)),(en P "is_worst" 735 (.ref 395))] 57) #[])
def x74:Obj:=(.mk .none none (.fields (tF [(2,20),(4,33),(6,45),(8,57),(10,69),(12,81),(14,93),(16,105),(18,117),(20,129),(22,141),(27,160),(36,179),(47,198),(56,205),(59,212),(62,219),(64,226),(69,233),(74,240),(78,247),(89,254),(98,261),(102,266),(104,273),(107,280),(118,287),(128,292),(130,297),(134,304),(139,311),(142,318),(144,325),(150,332),(154,339),(159,346),(161,353),(168,360),(171,365),(178,372),(185,377),(187,382),(189,387),(193,394)]).toArray) #[])
def x75:Obj:=(.mk (.type "type") none (.cls (.mk "TollError" [(.type "ValueError")] [(.ref 24),(.type "ValueError"),(.type "Exception"),(.type "BaseException"),(.type "object")] 23 "TollError" true [] [(.ref 37),(.ref 49),(.ref 61),(.ref 73),(.ref 85),(.ref 97),(.ref 109),(.ref 121),(.ref 133),(.ref 152),(.ref 171)] false none false)) #[(some (.ref 15)),none,(some (.str "TollError" 189)),(some (.str "TollError" 197)),(some (.builtin "ValueError.__new__")),(some (.bool true))])
def x76(P:Params):Obj:=(.mk (.type "dict") none (.dict #[(en P "__module__" 342 (.str "pebbletoll.errors" 187)),(en P "__qualname__" 344 (.str "NoDeed" 343)),(en P "__firstlineno__" 346 (.int 20 345)),(en P "__static_attributes__" 347 (.ref 131))] 4) #[])
def x77:Obj:=(cO "NoDeed" "NoDeed" 337 338 339 20 0 0 0 0 (.ref 127) false 181 (.ref 128) .none .none .none .none 340 20 341)
def x78:Obj:=(.mk (.type "frame") none .plain #[(some (.ref 129)),(some (.ref 3)),(some (.ref 126)),none,(some (.str "pebbletoll.errors" 187)),none,(some (.ref 0))])
def x79(P:Params):Obj:=(.mk (.type "dict") none (.dict #[(en P "__module__" 342 (.str "pebbletoll.errors" 187)),(en P "__firstlineno__" 346 (.int 20 345)),(en P "__static_attributes__" 347 (.ref 131)),(en P "__doc__" 348 .none)] 2) #[])
def x80:Obj:=(.mk (.type "type") none (.cls (.mk "NoDeed" [(.ref 24)] [(.ref 133),(.ref 24),(.type "ValueError"),(.type "Exception"),(.type "BaseException"),(.type "object")] 132 "NoDeed" true [] [] false none false)) #[(some (.ref 124)),none,(some (.str "NoDeed" 335)),(some (.str "NoDeed" 343)),(some (.builtin "ValueError.__new__")),(some (.bool true))])
def x81:Obj:=(.mk (.type "super") none (.fields #[(.ref 133),(.ref 133),(.ref 133)]) #[])
def x82:Obj:=(.mk (.type "builtin_function_or_method") none (.fields #[(.builtin "object.__init_subclass__"),(.ref 133)]) #[])
def x83(P:Params):Obj:=(.mk (.type "dict") none (.dict #[(en P "__module__" 358 (.str "pebbletoll.errors" 187)),(en P "__qualname__" 360 (.str "BadStep" 359)),(en P "__firstlineno__" 362 (.int 22 361)),(en P "__init__" 370 (.ref 149)),(en P "__static_attributes__" 372 (.ref 150))] 5) #[])
def x84:Obj:=(.mk .none none (.fields #[(.int 24 0),(.int 4 0),(.ref 148)]) #[])
def x85:Obj:=(cO "BadStep" "BadStep" 353 354 355 22 0 0 0 0 (.ref 139) false 181 (.ref 140) .none .none .none .none 356 22 357)
def x86:Obj:=(.mk (.type "frame") none .plain #[(some (.ref 141)),(some (.ref 3)),(some (.ref 138)),none,(some (.str "pebbletoll.errors" 187)),none,(some (.ref 0))])
def x87:Obj:=(tS 366 ["self","at"])
def x88:Obj:=(fR "__init__" "BadStep.__init__" (inC (top 11) 0))
def x89:Obj:=(cO "__init__" "BadStep.__init__" 363 364 365 24 2 0 0 3 (.ref 143) true 181 (.ref 144) .none (.ref 145) (.ref 146) (.ref 147) 368 24 369)
def x90:Obj:=(fO "__init__" "BadStep.__init__" (inC (top 11) 0) (.str "pebbletoll.errors" 187) (.ref 148))
def x91:Obj:=(tO #[(.str "at" 371)])
def x92(P:Params):Obj:=(.mk (.type "dict") none (.dict #[(en P "__module__" 358 (.str "pebbletoll.errors" 187)),(en P "__firstlineno__" 362 (.int 22 361)),(en P "__init__" 370 (.ref 149)),(en P "__static_attributes__" 372 (.ref 150)),(en P "__doc__" 373 .none)] 2) #[])
def x93:Obj:=(.mk (.type "type") none (.cls (.mk "BadStep" [(.ref 24)] [(.ref 152),(.ref 24),(.type "ValueError"),(.type "Exception"),(.type "BaseException"),(.type "object")] 151 "BadStep" true [] [] false none false)) #[(some (.ref 136)),none,(some (.str "BadStep" 351)),(some (.str "BadStep" 359)),(some (.builtin "ValueError.__new__")),(some (.bool true))])
def x94:Obj:=(.mk (.type "super") none (.fields #[(.ref 152),(.ref 152),(.ref 152)]) #[])
def x95:Obj:=(.mk (.type "builtin_function_or_method") none (.fields #[(.builtin "object.__init_subclass__"),(.ref 152)]) #[])
def x96(P:Params):Obj:=(.mk (.type "dict") none (.dict #[(en P "__module__" 383 (.str "pebbletoll.errors" 187)),(en P "__qualname__" 385 (.str "BadText" 384)),(en P "__firstlineno__" 387 (.int 27 386)),(en P "__init__" 395 (.ref 168)),(en P "__static_attributes__" 397 (.ref 169))] 5) #[])
def x97:Obj:=(.mk .none none (.fields #[(.int 29 0),(.int 4 0),(.ref 167)]) #[])
def x98:Obj:=(cO "BadText" "BadText" 378 379 380 27 0 0 0 0 (.ref 158) false 181 (.ref 159) .none .none .none .none 381 27 382)
def x99:Obj:=(.mk (.type "frame") none .plain #[(some (.ref 160)),(some (.ref 3)),(some (.ref 157)),none,(some (.str "pebbletoll.errors" 187)),none,(some (.ref 0))])
def Uf:Obj:=(tS 391 ["self","at"])
def SJ:Obj:=(fR "__init__" "BadText.__init__" (inC (top 12) 0))
def Po:Obj:=(cO "__init__" "BadText.__init__" 388 389 390 29 2 0 0 3 (.ref 162) true 181 (.ref 163) .none (.ref 164) (.ref 165) (.ref 166) 393 29 394)
def Ob:Obj:=(fO "__init__" "BadText.__init__" (inC (top 12) 0) (.str "pebbletoll.errors" 187) (.ref 167))
def Vx:Obj:=(tO #[(.str "at" 396)])
def P4(P:Params):Obj:=(.mk (.type "dict") none (.dict #[(en P "__module__" 383 (.str "pebbletoll.errors" 187)),(en P "__firstlineno__" 387 (.int 27 386)),(en P "__init__" 395 (.ref 168)),(en P "__static_attributes__" 397 (.ref 169)),(en P "__doc__" 398 .none)] 2) #[])
def NS:Obj:=(.mk (.type "type") none (.cls (.mk "BadText" [(.ref 24)] [(.ref 171),(.ref 24),(.type "ValueError"),(.type "Exception"),(.type "BaseException"),(.type "object")] 170 "BadText" true [] [] false none false)) #[(some (.ref 155)),none,(some (.str "BadText" 376)),(some (.str "BadText" 384)),(some (.builtin "ValueError.__new__")),(some (.bool true))])
def T4:Obj:=(.mk (.type "super") none (.fields #[(.ref 171),(.ref 171),(.ref 171)]) #[])
def S9:Obj:=(.mk (.type "builtin_function_or_method") none (.fields #[(.builtin "object.__init_subclass__"),(.ref 171)]) #[])
def Ts(P:Params):Obj:=(.mk (.type "dict") none (.dict #[(en P "__module__" 416 (.str "pebbletoll.webs" 401)),(en P "__qualname__" 418 (.str "Web" 417)),(en P "__firstlineno__" 420 (.int 36 419)),(en P "__init__" 426 (.ref 185)),(en P "__static_attributes__" 429 (.ref 186))] 5) #[])
def Vh:Obj:=(.mk .none none (.fields #[(.int 38 0),(.int 4 0),(.ref 184)]) #[])
def TN:Obj:=(cO "Web" "Web" 411 412 413 36 0 0 0 0 (.ref 177) false 181 (.ref 178) .none .none .none .none 414 36 415)
def Ta:Obj:=(.mk (.type "frame") none .plain #[(some (.ref 179)),(some (.ref 3)),(some (.ref 176)),none,(some (.str "pebbletoll.webs" 401)),none,(some (.ref 0))])
def Tf:Obj:=(fR "__init__" "Web.__init__" (inC (top 17) 0))
def NB:Obj:=(cO "__init__" "Web.__init__" 421 422 423 38 3 0 0 3 (.ref 181) true 181 (.ref 182) .none .none .none (.ref 183) 424 38 425)
def NL:Obj:=(fO "__init__" "Web.__init__" (inC (top 17) 0) (.str "pebbletoll.webs" 401) (.ref 184))
def Sb:Obj:=(tS 427 ["many","roads"])
def Pg(P:Params):Obj:=(.mk (.type "dict") none (.dict #[(en P "__module__" 416 (.str "pebbletoll.webs" 401)),(en P "__firstlineno__" 420 (.int 36 419)),(en P "__init__" 426 (.ref 185)),(en P "__static_attributes__" 429 (.ref 186)),(en P "__dict__" 431 (.ref 189)),(en P "__weakref__" 433 (.ref 190)),(en P "__doc__" 434 .none)] 4) #[])
def NO:Obj:=(.mk (.type "type") none (.cls (.mk "Web" [(.type "object")] [(.ref 188),(.type "object")] 187 "Web" true [] [] false none false)) #[none,none,(some (.str "Web" 409)),(some (.str "Web" 417)),(some (.builtin "object.__new__")),(some (.bool true))])
def Qk:Obj:=(.mk (.type "getset_descriptor") none (.fields #[(.str "__dict__" 430),(.ref 188),(.builtin "function.__dict__"),(.builtin "function.__dict__#set")]) #[])
def Px:Obj:=(.mk (.type "getset_descriptor") none (.fields #[(.str "__weakref__" 432),(.ref 188),(.builtin "ExceptionGroup.__weakref__"),.none]) #[])
def UW:Obj:=(.mk (.type "super") none (.fields #[(.ref 188),(.ref 188),(.ref 188)]) #[])
def TM:Obj:=(.mk (.type "builtin_function_or_method") none (.fields #[(.builtin "object.__init_subclass__"),(.ref 188)]) #[])
def U9:Obj:=(tS 440 ["web","a","b","one","other","there","back"])
def Se:Obj:=(fr "toll" (top 18))
def PP:Obj:=(cF "toll" 437 47 3 3 193 447)
def PX:Obj:=(fo "toll" (top 18) (.str "pebbletoll.webs" 401) (.ref 198))
def R9:Obj:=(tS 453 ["web","a"])
def TX:Obj:=(fr "neighbours" (top 19))
def NM:Obj:=(cF "neighbours" 450 56 2 3 200 455)
def Qs:Obj:=(fo "neighbours" (top 19) (.str "pebbletoll.webs" 401) (.ref 205))
def Vp:Obj:=(tS 461 ["web","number"])
def Uv:Obj:=(fr "check_place" (top 20))
def Nx:Obj:=(cF "check_place" 458 59 2 3 207 463)
def Na:Obj:=(fo "check_place" (top 20) (.str "pebbletoll.webs" 401) (.ref 212))
def T3:Obj:=(tS 469 ["many","number"])
def Td:Obj:=(fr "is_place" (top 21))
def Oi:Obj:=(cF "is_place" 466 62 2 3 214 471)
def P2:Obj:=(fo "is_place" (top 21) (.str "pebbletoll.webs" 401) (.ref 219))
def Vo:Obj:=(tS 477 ["many","roads"])
def Uj:Obj:=(fr "check_counts" (top 22))
def OT:Obj:=(cF "check_counts" 474 64 2 3 221 479)
def NF:Obj:=(fo "check_counts" (top 22) (.str "pebbletoll.webs" 401) (.ref 226))
def Vr:Obj:=(tS 485 ["many","road"])
def T8:Obj:=(fr "check_ends" (top 23))
def No:Obj:=(cF "check_ends" 482 69 2 3 228 487)
def Ox:Obj:=(fo "check_ends" (top 23) (.str "pebbletoll.webs" 401) (.ref 233))
def RP:Obj:=(tS 493 ["road","number"])
def Va:Obj:=(fr "check_tolls" (top 24))
def Pj:Obj:=(cF "check_tolls" 490 74 1 3 235 495)
def PJ:Obj:=(fo "check_tolls" (top 24) (.str "pebbletoll.webs" 401) (.ref 240))
def S5:Obj:=(tS 501 ["many","roads","reached","waiting","place","end"])
def UQ:Obj:=(fr "check_joined" (top 25))
def Og:Obj:=(cF "check_joined" 498 78 2 3 242 507)
def NC:Obj:=(fo "check_joined" (top 25) (.str "pebbletoll.webs" 401) (.ref 247))
def Ul:Obj:=(tS 513 ["roads","place","ends","road"])
def Us:Obj:=(fr "other_ends" (top 26))
def Of:Obj:=(cF "other_ends" 510 89 2 3 249 517)
def Qh:Obj:=(fo "other_ends" (top 26) (.str "pebbletoll.webs" 401) (.ref 254))
def Tg:Obj:=(tS 525 ["web","numbers"])
def SE:Obj:=(fr "laying_of" (top 28))
def Qr:Obj:=(cF "laying_of" 522 98 2 3 256 527)
def N8:Obj:=(fo "laying_of" (top 28) (.str "pebbletoll.layings" 520) (.ref 261))
def UP:Obj:=(fr "is_filled" (top 29))
def PV:Obj:=(cO "is_filled" "is_filled" 530 531 532 102 2 0 0 3 (.ref 263) true 181 (.ref 264) .none .none .none (.ref 265) 533 102 534)
def Oh:Obj:=(fo "is_filled" (top 29) (.str "pebbletoll.layings" 520) (.ref 266))
def T7:Obj:=(tO #[(.str "numbers" 539)])
def R3:Obj:=(fr "total" (top 30))
def PZ:Obj:=(cF "total" 536 104 1 3 268 540)
def Py:Obj:=(fo "total" (top 30) (.str "pebbletoll.layings" 520) (.ref 273))
def UY:Obj:=(tS 548 ["web","r","nearer","waiting","place","front","kid"])
def Up:Obj:=(fr "ahead" (top 32))
def Nn:Obj:=(cF "ahead" 545 107 2 3 275 555)
def NK:Obj:=(fo "ahead" (top 32) (.str "pebbletoll.ways" 543) (.ref 280))
def So:Obj:=(tS 561 ["web","r","nearer","places","waiting","place","kid"])
def Th:Obj:=(fr "down" (top 33))
def NH:Obj:=(cF "down" 558 118 2 3 282 568)
def Qm:Obj:=(fo "down" (top 33) (.str "pebbletoll.ways" 543) (.ref 287))
def Vw:Obj:=(fr "kids" (top 34))
def Qj:Obj:=(cO "kids" "kids" 571 572 573 128 3 0 0 3 (.ref 289) true 181 (.ref 290) .none .none .none (.ref 291) 574 128 575)
def P8:Obj:=(fo "kids" (top 34) (.str "pebbletoll.ways" 543) (.ref 292))
def Te:Obj:=(fr "inward" (top 35))
def Pa:Obj:=(cO "inward" "inward" 577 578 579 130 2 0 0 3 (.ref 294) true 181 (.ref 295) .none .none .none (.ref 296) 580 130 581)
def P0:Obj:=(fo "inward" (top 35) (.str "pebbletoll.ways" 543) (.ref 297))
def S6:Obj:=(tS 588 ["web","laying","r","counts","place","front"])
def Ug:Obj:=(fr "gathered" (top 37))
def On:Obj:=(cF "gathered" 585 134 3 3 299 594)
def Np:Obj:=(fo "gathered" (top 37) (.str "pebbletoll.bringing" 583) (.ref 304))
def Sz:Obj:=(tS 600 ["web","laying","r"])
def RZ:Obj:=(fr "most" (top 38))
def Op:Obj:=(cF "most" 597 139 3 3 306 603)
def Pq:Obj:=(fo "most" (top 38) (.str "pebbletoll.bringing" 583) (.ref 311))
def TQ:Obj:=(tS 611 ["web","weights","place","front"])
def UX:Obj:=(fr "borne" (top 40))
def Nq:Obj:=(cF "borne" 608 142 4 3 313 615)
def Oc:Obj:=(fo "borne" (top 40) (.str "pebbletoll.enough" 606) (.ref 318))
def SR:Obj:=(tS 621 ["web","r","wanted","weights","bound","place","front"])
def Uy:Obj:=(fr "bound_by" (top 41))
def OM:Obj:=(cF "bound_by" 618 144 4 3 320 628)
def Nh:Obj:=(fo "bound_by" (top 41) (.str "pebbletoll.enough" 606) (.ref 325))
def U7:Obj:=(tS 634 ["web","r","wanted"])
def Sr:Obj:=(fr "check_wanted" (top 42))
def Pr:Obj:=(cF "check_wanted" 631 150 3 3 327 637)
def Od:Obj:=(fo "check_wanted" (top 42) (.str "pebbletoll.enough" 606) (.ref 332))
def TF:Obj:=(tS 643 ["web","r","weights","place","front"])
def Vi:Obj:=(fr "least_weights" (top 43))
def Ps:Obj:=(cF "least_weights" 640 154 2 3 334 648)
def NR:Obj:=(fo "least_weights" (top 43) (.str "pebbletoll.enough" 606) (.ref 339))
def UK:Obj:=(tS 654 ["web","r","wanted"])
def R5:Obj:=(fr "enough" (top 44))
def NY:Obj:=(cF "enough" 651 159 3 3 341 657)
def O9:Obj:=(fo "enough" (top 44) (.str "pebbletoll.enough" 606) (.ref 346))
def UC:Obj:=(tS 663 ["web","r","weights","chosen","place","front"])
def R6:Obj:=(fr "bearers" (top 45))
def Pc:Obj:=(cF "bearers" 660 161 2 3 348 669)
def ON:Obj:=(fo "bearers" (top 45) (.str "pebbletoll.enough" 606) (.ref 353))
def SQ:Obj:=(tS 675 ["web","weights","place","front"])
def UU:Obj:=(fr "is_heavy" (top 46))
def OV:Obj:=(cF "is_heavy" 672 168 4 3 355 679)
def Pe:Obj:=(fo "is_heavy" (top 46) (.str "pebbletoll.enough" 606) (.ref 360))
def UV:Obj:=(fr "differences" (top 48))
def P7:Obj:=(cO "differences" "differences" 684 685 686 171 1 0 0 3 (.ref 362) true 181 (.ref 363) .none .none .none (.ref 364) 687 171 688)
def O0:Obj:=(fo "differences" (top 48) (.str "pebbletoll.polynomials" 682) (.ref 365))
def S8:Obj:=(tS 693 ["found","at","value","choices","k","difference"])
def SO:Obj:=(fr "value_at" (top 49))
def ND:Obj:=(cF "value_at" 690 178 2 3 367 699)
def Qn:Obj:=(fo "value_at" (top 49) (.str "pebbletoll.polynomials" 682) (.ref 372))
def SS:Obj:=(fr "first_values" (top 50))
def NG:Obj:=(cO "first_values" "first_values" 702 703 704 185 2 0 0 3 (.ref 374) true 181 (.ref 375) .none .none .none (.ref 376) 705 185 706)
def Ot:Obj:=(fo "first_values" (top 50) (.str "pebbletoll.polynomials" 682) (.ref 377))
def Sw:Obj:=(fr "parted" (top 51))
def Qi:Obj:=(cO "parted" "parted" 708 709 710 187 2 0 0 3 (.ref 379) true 181 (.ref 380) .none .none .none (.ref 381) 711 187 712)
def Ou:Obj:=(fo "parted" (top 51) (.str "pebbletoll.polynomials" 682) (.ref 382))
def Vg:Obj:=(fr "parted_at" (top 52))
def Oe:Obj:=(cO "parted_at" "parted_at" 714 715 716 189 3 0 0 3 (.ref 384) true 181 (.ref 385) .none .none .none (.ref 386) 717 189 718)
def OH:Obj:=(fo "parted_at" (top 52) (.str "pebbletoll.polynomials" 682) (.ref 387))
def RO:Obj:=(tS 727 ["web","r","wanted","laying","least","counts"])
def Vl:Obj:=(fr "is_worst" (top 55))
def Qo:Obj:=(cF "is_worst" 724 193 4 3 389 733)
def PU:Obj:=(fo "is_worst" (top 55) (.str "pebbletoll.worsts" 720) (.ref 394))
noncomputable def h1(P:Params):Heap:=.mk (.mk (boot_o_0 P::boot_o_1 P::boot_o_2 P::x73 P::boot_o_4 P::boot_o_5 P::boot_o_6 P::boot_o_7 P::boot_o_8 P::boot_o_9 P::boot_o_10 P::x0::x74::x2::x3::x6::x7::x8 P::x0::x1::x9::x10::x0::x11 P::x75::x13::x14::x15::aT::x7::x17 P::x0::x1::x18::x19::x0::x20 P::x21::x22::x23::aT::x7::x24 P::x0::x1::x25::x26::x0::x27 P::x28::x29::x30::aT::x7::x31 P::x0::x1::x32::x33::x0::x34 P::x35::x36::x37::aT::x7::x38 P::x0::x1::x39::x40::x0::x41 P::x42::x43::x44::aT::x7::x45 P::x0::x1::x46::x47::x0::x48 P::x49::x50::x51::aT::x7::x52 P::x0::x1::x53::x54::x0::x55 P::x56::x57::x58::aT::x7::x59 P::x0::x1::x60::x61::x0::x62 P::x63::x64::x65::aT::x7::x66 P::x0::x1::x67::x68::x0::x69 P::x70::x71::x72::aT::x7::x76 P::x0::x1::x77::x78::x0::x79 P::x80::x81::x82::aT::x7::x83 P::x0::x84::x85::x86::x0::x1::x87::x0::x88::x89::x90::x91::x92 P::x93::x94::x95::aT::x7::x96 P::x0::x97::x98::x99::x0::x1::Uf::x0::SJ::Po::Ob::Vx::P4 P::NS::T4::S9::x0::x7::Ts P::x0::Vh::TN::Ta::x0::x1::Tf::NB::NL::Sb::Pg P::NO::Qk::Px::UW::TM::x0::x1::U9::x0::Se::PP::PX::x0::x1::R9::x0::TX::NM::Qs::x0::x1::Vp::x0::Uv::Nx::Na::x0::x1::T3::x0::Td::Oi::P2::x0::x1::Vo::x0::Uj::OT::NF::x0::x1::Vr::x0::T8::No::Ox::x0::x1::RP::x0::Va::Pj::PJ::x0::x1::S5::x0::UQ::Og::NC::x0::x1::Ul::x0::Us::Of::Qh::x0::x1::Tg::x0::SE::Qr::N8::x0::x1::UP::PV::Oh::x0::x1::T7::x0::R3::PZ::Py::x0::x1::UY::x0::Up::Nn::NK::x0::x1::So::x0::Th::NH::Qm::x0::x1::Vw::Qj::P8::x0::x1::Te::Pa::P0::x0::x1::S6::x0::Ug::On::Np::x0::x1::Sz::x0::RZ::Op::Pq::x0::x1::TQ::x0::UX::Nq::Oc::x0::x1::SR::x0::Uy::OM::Nh::x0::x1::U7::x0::Sr::Pr::Od::x0::x1::TF::x0::Vi::Ps::NR::x0::x1::UK::x0::R5::NY::O9::x0::x1::UC::x0::R6::Pc::ON::x0::x1::SQ::x0::UU::OV::Pe::x0::x1::UV::P7::O0::x0::x1::S8::x0::SO::ND::Qn::x0::x1::SS::NG::Ot::x0::x1::Sw::Qi::Ou::x0::x1::Vg::Oe::OH::x0::x1::RO::x0::Vl::Qo::PU::[])) (.mk [] [] [] 0 [] [] false #[] [] 0 false false false 0 [2000,10,10] false 0 true [] [] 0 false)
theorem Wn(w:World)(os:OsState):segRun treeTable PySem.Challenge.pw_pebbletoll_k47_no_numbers w 11 (some (.ref 6)) 1 1975 (Shared.mk (h0 w.params) (.mk []) (.mk 0 0 0 0) 335 os) (piecesOf st1 env cE (.mk 18 0 19 8) [topFrame (.mk 0 0 0 0)])=some (.next,(Shared.mk (h1 w.params) (.mk []) (.mk 0 0 0 0) 736 os),cE,(.mk 193 0 196 71)):=by kernel_rfl
def TK(P:Params):Obj:=(.mk (.type "dict") none (.dict #[(en P "__name__" 165 (.str "law_pebbletoll_k47_no_numbers" 954)),(en P "__doc__" 166 .none),(en P "__package__" 167 .none),(en P "__loader__" 168 (.builtin "__main__.__loader__#opaque")),(en P "__spec__" 169 .none),(en P "__annotations__" 170 (.ref 6)),(en P "__builtins__" 171 (.ref 4)),(en P "__file__" 173 (.str "/claim/cut.py" 172)),(en P "__cached__" 174 .none),(en P "TollError" 206 (.ref 24)),(en P "BadWeb" 222 (.ref 37)),(en P "NoPlace" 238 (.ref 49)),(en P "NoRoad" 254 (.ref 61)),(en P "BadLaying" 270 (.ref 73)),(en P "BadWish" 286 (.ref 85)),(en P "TooMany" 302 (.ref 97)),(en P "NoNumber" 318 (.ref 109)),(en P "NoWorst" 334 (.ref 121)),(en P "NoDeed" 350 (.ref 133)),(en P "BadStep" 375 (.ref 152)),(en P "BadText" 400 (.ref 171)),(en P "MOST_PLACES" 404 (.int 24 403)),(en P "LEAST_TOLL" 406 (.int 2 405)),(en P "MOST_TOLL" 408 (.int 1000000 407)),(en P "Web" 436 (.ref 188)),(en P "toll" 449 (.ref 199)),(en P "neighbours" 457 (.ref 206)),(en P "check_place" 465 (.ref 213)),(en P "is_place" 473 (.ref 220)),(en P "check_counts" 481 (.ref 227)),(en P "check_ends" 489 (.ref 234)),(en P "check_tolls" 497 (.ref 241)),(en P "check_joined" 509 (.ref 248)),(en P "other_ends" 519 (.ref 255)),(en P "laying_of" 529 (.ref 262)),(en P "is_filled" 535 (.ref 267)),(en P "total" 542 (.ref 274)),(en P "ahead" 557 (.ref 281)),(en P "down" 570 (.ref 288)),(en P "kids" 576 (.ref 293)),(en P "inward" 582 (.ref 298)),(en P "gathered" 596 (.ref 305)),(en P "most" 605 (.ref 312)),(en P "borne" 617 (.ref 319)),(en P "bound_by" 630 (.ref 326)),(en P "check_wanted" 639 (.ref 333)),(en P "least_weights" 650 (.ref 340)),(en P "enough" 659 (.ref 347)),(en P "bearers" 671 (.ref 354)),(en P "is_heavy" 681 (.ref 361)),(en P "differences" 689 (.ref 366)),(en P "value_at" 701 (.ref 373)),(en P "first_values" 707 (.ref 378)),(en P "parted" 713 (.ref 383)),(en P "parted_at" 719 (.ref 388)),(en P "MOST_PEBBLES" 723 (.int 1000000000000 722)),(en P "is_worst" 735 (.ref 395)),(en P "worst_many" 744 (.ref 402)),(en P "worst_at" 755 (.ref 409)),(en P "worst_number" 765 (.ref 416)),(en P "check_told" 774 (.ref 423)),(en P "Tally" 806 (.ref 438)),(en P "rests_of" 812 (.ref 447)),(en P "is_free" 821 (.ref 454)),(en P "ways_of" 830 (.ref 461)),(en P "ways_given" 840 (.ref 468)),(en P "held_for" 850 (.ref 475)),(en P "laying_at" 863 (.ref 482)),(en P "handed_down" 879 (.ref 489)),(en P "given_by" 891 (.ref 496)),(en P "last_within" 903 (.ref 503)),(en P "ways_before" 914 (.ref 510)),(en P "course" 928 (.ref 517)),(en P "number_of" 938 (.ref 524)),(en P "number_beneath" 953 (.ref 531)),(en P "_law_cell" 963 (.ref 538)),(en P "_law_mixed" 972 (.ref 545)),(en P "_law_numbers" 983 (.ref 552)),(en P "_law_toll" 990 (.ref 559)),(en P "_law_web" 1007 (.ref 566)),(en P "_law_to_twelve" 1015 (.ref 573)),(en P "_law_tolls" 1027 (.ref 580)),(en P "_law_down" 1033 (.ref 585)),(en P "_law_least" 1044 (.ref 592)),(en P "_law_bound" 1057 (.ref 599)),(en P "_law_spread" 1063 (.ref 604)),(en P "_law_refusal" 1079 (.ref 611)),(en P "_law_due" 1095 (.ref 618)),(en P "_law_spoilt" 1105 (.ref 625)),(en P "_law_wants" 1117 (.ref 632)),(en P "law" 1144 (.ref 639))] 91) #[])
def Wu:Obj:=(.mk .none none (.fields (tF [(2,20),(4,33),(6,45),(8,57),(10,69),(12,81),(14,93),(16,105),(18,117),(20,129),(22,141),(27,160),(36,179),(47,198),(56,205),(59,212),(62,219),(64,226),(69,233),(74,240),(78,247),(89,254),(98,261),(102,266),(104,273),(107,280),(118,287),(128,292),(130,297),(134,304),(139,311),(142,318),(144,325),(150,332),(154,339),(159,346),(161,353),(168,360),(171,365),(178,372),(185,377),(187,382),(189,387),(193,394),(197,401),(200,408),(206,415),(211,422),(214,429),(225,446),(237,453),(239,460),(241,467),(243,474),(245,481),(254,488),(265,495),(272,502),(282,509),(286,516),(293,523),(298,530),(308,537),(312,544),(317,551),(327,558),(331,565),(354,572),(357,579),(363,584),(371,591),(377,598),(382,603),(404,610),(425,617),(438,624),(449,631),(454,638)]).toArray) #[])
def Wm:Obj:=(tS 739 ["web","r","wanted"])
def W6:Obj:=(fr "worst_many" (top 56))
def Su:Obj:=(cF "worst_many" 736 197 3 3 396 742)
def TB:Obj:=(fo "worst_many" (top 56) (.str "pebbletoll.worsts" 720) (.ref 401))
def VU:Obj:=(tS 748 ["web","r","wanted","number","tally"])
def Xe:Obj:=(fr "worst_at" (top 57))
def SM:Obj:=(cF "worst_at" 745 200 4 3 403 753)
def Ub:Obj:=(fo "worst_at" (top 57) (.str "pebbletoll.worsts" 720) (.ref 408))
def WV:Obj:=(tS 759 ["web","r","wanted","laying"])
def V7:Obj:=(fr "worst_number" (top 58))
def Vc:Obj:=(cF "worst_number" 756 206 4 3 410 763)
def Sc:Obj:=(fo "worst_number" (top 58) (.str "pebbletoll.worsts" 720) (.ref 415))
def WI:Obj:=(tS 769 ["web","r","wanted"])
def W0:Obj:=(fr "check_told" (top 59))
def Vd:Obj:=(cF "check_told" 766 211 3 3 417 772)
def Uh:Obj:=(fo "check_told" (top 59) (.str "pebbletoll.worsts" 720) (.ref 422))
def Xj(P:Params):Obj:=(.mk (.type "dict") none (.dict #[(en P "__module__" 782 (.str "pebbletoll.worsts" 720)),(en P "__qualname__" 784 (.str "Tally" 783)),(en P "__firstlineno__" 786 (.int 214 785)),(en P "__init__" 792 (.ref 435)),(en P "__static_attributes__" 799 (.ref 436))] 5) #[])
def Wz:Obj:=(.mk .none none (.fields #[(.int 216 0),(.int 4 0),(.ref 434)]) #[])
def Wh:Obj:=(cO "Tally" "Tally" 777 778 779 214 0 0 0 0 (.ref 427) false 181 (.ref 428) .none .none .none .none 780 214 781)
def WL:Obj:=(.mk (.type "frame") none .plain #[(some (.ref 429)),(some (.ref 3)),(some (.ref 426)),none,(some (.str "pebbletoll.worsts" 720)),none,(some (.ref 0))])
def WE:Obj:=(fR "__init__" "Tally.__init__" (inC (top 60) 0))
def SB:Obj:=(cO "__init__" "Tally.__init__" 787 788 789 216 3 0 0 3 (.ref 431) true 181 (.ref 432) .none .none .none (.ref 433) 790 216 791)
def Ue:Obj:=(fO "__init__" "Tally.__init__" (inC (top 60) 0) (.str "pebbletoll.worsts" 720) (.ref 434))
def Xl:Obj:=(tS 793 ["bearers","down","kids","rests","web","weights"])
def TV(P:Params):Obj:=(.mk (.type "dict") none (.dict #[(en P "__module__" 782 (.str "pebbletoll.worsts" 720)),(en P "__firstlineno__" 786 (.int 214 785)),(en P "__init__" 792 (.ref 435)),(en P "__static_attributes__" 799 (.ref 436)),(en P "__dict__" 801 (.ref 439)),(en P "__weakref__" 803 (.ref 440)),(en P "__doc__" 804 .none)] 4) #[])
def Sn:Obj:=(.mk (.type "type") none (.cls (.mk "Tally" [(.type "object")] [(.ref 438),(.type "object")] 437 "Tally" true [] [] false none false)) #[none,none,(some (.str "Tally" 775)),(some (.str "Tally" 783)),(some (.builtin "object.__new__")),(some (.bool true))])
def Sh:Obj:=(.mk (.type "getset_descriptor") none (.fields #[(.str "__dict__" 800),(.ref 438),(.builtin "function.__dict__"),(.builtin "function.__dict__#set")]) #[])
def SN:Obj:=(.mk (.type "getset_descriptor") none (.fields #[(.str "__weakref__" 802),(.ref 438),(.builtin "ExceptionGroup.__weakref__"),.none]) #[])
def WY:Obj:=(.mk (.type "super") none (.fields #[(.ref 438),(.ref 438),(.ref 438)]) #[])
def WC:Obj:=(.mk (.type "builtin_function_or_method") none (.fields #[(.builtin "object.__init_subclass__"),(.ref 438)]) #[])
def Xd:Obj:=(fr "rests_of" (top 61))
def SU:Obj:=(cO "rests_of" "rests_of" 807 808 809 225 2 0 0 3 (.ref 443) true 181 (.ref 444) .none .none .none (.ref 445) 810 225 811)
def U4:Obj:=(fo "rests_of" (top 61) (.str "pebbletoll.worsts" 720) (.ref 446))
def WF:Obj:=(tS 816 ["tally","place","kid"])
def WT:Obj:=(fr "is_free" (top 62))
def RX:Obj:=(cF "is_free" 813 237 3 3 448 819)
def TD:Obj:=(fo "is_free" (top 62) (.str "pebbletoll.worsts" 720) (.ref 453))
def Wq:Obj:=(tS 825 ["tally","place","held"])
def WN:Obj:=(fr "ways_of" (top 63))
def Sf:Obj:=(cF "ways_of" 822 239 3 3 455 828)
def UR:Obj:=(fo "ways_of" (top 63) (.str "pebbletoll.worsts" 720) (.ref 460))
def WK:Obj:=(tS 834 ["tally","place","kid","given"])
def WG:Obj:=(fr "ways_given" (top 64))
def U6:Obj:=(cF "ways_given" 831 241 4 3 462 838)
def Tc:Obj:=(fo "ways_given" (top 64) (.str "pebbletoll.worsts" 720) (.ref 467))
def Wk:Obj:=(tS 844 ["tally","place","kid","given"])
def Wt:Obj:=(fr "held_for" (top 65))
def SV:Obj:=(cF "held_for" 841 243 4 3 469 848)
def Uu:Obj:=(fo "held_for" (top 65) (.str "pebbletoll.worsts" 720) (.ref 474))
def WR:Obj:=(tS 854 ["tally","held","number","counts","waiting","place","own"])
def V0:Obj:=(fr "laying_at" (top 66))
def U0:Obj:=(cF "laying_at" 851 245 3 3 476 861)
def UM:Obj:=(fo "laying_at" (top 66) (.str "pebbletoll.worsts" 720) (.ref 481))
def WD:Obj:=(tS 867 ["tally","place","held","number","found","left","at","kid","given","ways_behind"])
def V2:Obj:=(fr "handed_down" (top 67))
def UB:Obj:=(cF "handed_down" 864 254 4 3 483 877)
def Tq:Obj:=(fo "handed_down" (top 67) (.str "pebbletoll.worsts" 720) (.ref 488))
def Wy:Obj:=(tS 883 ["tally","place","at","left","number","kid"])
def V4:Obj:=(fr "given_by" (top 68))
def T5:Obj:=(cF "given_by" 880 265 5 3 490 889)
def Tr:Obj:=(fo "given_by" (top 68) (.str "pebbletoll.worsts" 720) (.ref 495))
def W5:Obj:=(tS 895 ["before","top","number","low","high","middle"])
def W4:Obj:=(fr "last_within" (top 69))
def UO:Obj:=(cF "last_within" 892 272 3 3 497 901)
def Sj:Obj:=(fo "last_within" (top 69) (.str "pebbletoll.worsts" 720) (.ref 502))
def Wx:Obj:=(tS 907 ["tally","place","at","left","given"])
def WQ:Obj:=(fr "ways_before" (top 70))
def Vm:Obj:=(cF "ways_before" 904 282 5 3 504 912)
def SF:Obj:=(fo "ways_before" (top 70) (.str "pebbletoll.worsts" 720) (.ref 509))
def VW:Obj:=(tS 918 ["tally","place","at","left","kid","before","given","ways_behind"])
def VX:Obj:=(fr "course" (top 71))
def R4:Obj:=(cF "course" 915 286 4 3 511 926)
def Sx:Obj:=(fo "course" (top 71) (.str "pebbletoll.worsts" 720) (.ref 516))
def VR:Obj:=(tS 932 ["tally","held","numbers","place"])
def Ww:Obj:=(fr "number_of" (top 72))
def U2:Obj:=(cF "number_of" 929 293 2 3 518 936)
def Ti:Obj:=(fo "number_of" (top 72) (.str "pebbletoll.worsts" 720) (.ref 523))
def WU:Obj:=(tS 942 ["tally","place","held","numbers","number","left","at","kid","given"])
def Wj:Obj:=(fr "number_beneath" (top 73))
def Uk:Obj:=(cF "number_beneath" 939 298 4 3 525 951)
def Vb:Obj:=(fo "number_beneath" (top 73) (.str "pebbletoll.worsts" 720) (.ref 530))
def W7:Obj:=(tS 959 ["script","k"])
def Wb:Obj:=(fr "_law_cell" (top 75))
def Um:Obj:=(cF "_law_cell" 956 308 2 3 532 961)
def TL:Obj:=(fo "_law_cell" (top 75) (.str "law_pebbletoll_k47_no_numbers" 954) (.ref 537))
def Wo:Obj:=(tS 967 ["cell","k","m"])
def Wa:Obj:=(fr "_law_mixed" (top 76))
def Tv:Obj:=(cF "_law_mixed" 964 312 2 3 539 970)
def Sl:Obj:=(fo "_law_mixed" (top 76) (.str "law_pebbletoll_k47_no_numbers" 954) (.ref 544))
def Wc:Obj:=(tS 976 ["script","many","rest","numbers","k"])
def V8:Obj:=(fr "_law_numbers" (top 77))
def Sy:Obj:=(cF "_law_numbers" 973 317 2 3 546 981)
def T6:Obj:=(fo "_law_numbers" (top 77) (.str "law_pebbletoll_k47_no_numbers" 954) (.ref 551))
def Wf:Obj:=(tO #[(.str "rest" 987)])
def WB:Obj:=(fr "_law_toll" (top 78))
def Tx:Obj:=(cF "_law_toll" 984 327 1 3 553 988)
def RQ:Obj:=(fo "_law_toll" (top 78) (.str "law_pebbletoll_k47_no_numbers" 954) (.ref 558))
def Wi:Obj:=(tS 994 ["numbers","head","many","names","k","roads","rest","near","there","back","road"])
def Xa:Obj:=(fr "_law_web" (top 79))
def Tp:Obj:=(cF "_law_web" 991 331 1 3 560 1005)
def RT:Obj:=(fo "_law_web" (top 79) (.str "law_pebbletoll_k47_no_numbers" 954) (.ref 565))
def WH:Obj:=(tS 1011 ["numbers","head"])
def Wv:Obj:=(fr "_law_to_twelve" (top 80))
def UT:Obj:=(cF "_law_to_twelve" 1008 354 1 3 567 1013)
def TU:Obj:=(fo "_law_to_twelve" (top 80) (.str "law_pebbletoll_k47_no_numbers" 954) (.ref 572))
def WX:Obj:=(tS 1019 ["roads","tolls","one","other","there","back"])
def VT:Obj:=(fr "_law_tolls" (top 81))
def TJ:Obj:=(cF "_law_tolls" 1016 357 1 3 574 1025)
def Vz:Obj:=(fo "_law_tolls" (top 81) (.str "law_pebbletoll_k47_no_numbers" 954) (.ref 579))
def WP:Obj:=(fr "_law_down" (top 82))
def Vn:Obj:=(cO "_law_down" "_law_down" 1028 1029 1030 363 3 0 0 3 (.ref 581) true 181 (.ref 582) .none .none .none (.ref 583) 1031 363 1032)
def Sa:Obj:=(fo "_law_down" (top 82) (.str "law_pebbletoll_k47_no_numbers" 954) (.ref 584))
def WW:Obj:=(tS 1037 ["tolls","order","weights","place","near"])
def Xf:Obj:=(fr "_law_least" (top 83))
def Uz:Obj:=(cF "_law_least" 1034 371 2 3 586 1042)
def Si:Obj:=(fo "_law_least" (top 83) (.str "law_pebbletoll_k47_no_numbers" 954) (.ref 591))
def V6:Obj:=(tS 1048 ["tolls","order","weights","wanted","bound","place","near"])
def V5:Obj:=(fr "_law_bound" (top 84))
def UE:Obj:=(cF "_law_bound" 1045 377 4 3 593 1055)
def SA:Obj:=(fo "_law_bound" (top 84) (.str "law_pebbletoll_k47_no_numbers" 954) (.ref 598))
def Wg:Obj:=(fr "_law_spread" (top 85))
def Tu:Obj:=(cO "_law_spread" "_law_spread" 1058 1059 1060 382 4 0 0 3 (.ref 600) true 181 (.ref 601) .none .none .none (.ref 602) 1061 382 1062)
def R0:Obj:=(fo "_law_spread" (top 85) (.str "law_pebbletoll_k47_no_numbers" 954) (.ref 603))
def VZ:Obj:=(tS 1067 ["pick","web","case","r","wanted","laying","number","told","e","kinds"])
def Xb:Obj:=(fr "_law_refusal" (top 86))
def SX:Obj:=(cF "_law_refusal" 1064 404 3 3 605 1077)
def Sq:Obj:=(fo "_law_refusal" (top 86) (.str "law_pebbletoll_k47_no_numbers" 954) (.ref 610))
def VY:Obj:=(tS 1083 ["pick","many","case","need","count","good","r","wanted","laying","number"])
def WM:Obj:=(fr "_law_due" (top 87))
def Sv:Obj:=(cF "_law_due" 1080 425 6 3 612 1093)
def TC:Obj:=(fo "_law_due" (top 87) (.str "law_pebbletoll_k47_no_numbers" 954) (.ref 617))
def Wl:Obj:=(tS 1099 ["laying","pick","at","told"])
def Xk:Obj:=(fr "_law_spoilt" (top 88))
def RN:Obj:=(cF "_law_spoilt" 1096 438 3 3 619 1103)
def U3:Obj:=(fo "_law_spoilt" (top 88) (.str "law_pebbletoll_k47_no_numbers" 954) (.ref 624))
def Xh:Obj:=(tS 1109 ["tolls","order","cell","weights","bound","last"])
def Wr:Obj:=(fr "_law_wants" (top 89))
def Sm:Obj:=(cF "_law_wants" 1106 449 3 3 626 1115)
def Uo:Obj:=(fo "_law_wants" (top 89) (.str "law_pebbletoll_k47_no_numbers" 954) (.ref 631))
def Xg:Obj:=(tS 1121 ["script","numbers","many","roads","tolls","r","order","web","cells","cell","wanted","need","count","pick","laying","far","number","place","case","call","due"])
def Xi:Obj:=(fr "law" (top 90))
def Ua:Obj:=(cF "law" 1118 454 1 3 633 1142)
def U5:Obj:=(fo "law" (top 90) (.str "law_pebbletoll_k47_no_numbers" 954) (.ref 638))
noncomputable def h2(P:Params):Heap:=.mk (.mk (boot_o_0 P::boot_o_1 P::boot_o_2 P::TK P::boot_o_4 P::boot_o_5 P::boot_o_6 P::boot_o_7 P::boot_o_8 P::boot_o_9 P::boot_o_10 P::x0::Wu::x2::x3::x6::x7::x8 P::x0::x1::x9::x10::x0::x11 P::x75::x13::x14::x15::aT::x7::x17 P::x0::x1::x18::x19::x0::x20 P::x21::x22::x23::aT::x7::x24 P::x0::x1::x25::x26::x0::x27 P::x28::x29::x30::aT::x7::x31 P::x0::x1::x32::x33::x0::x34 P::x35::x36::x37::aT::x7::x38 P::x0::x1::x39::x40::x0::x41 P::x42::x43::x44::aT::x7::x45 P::x0::x1::x46::x47::x0::x48 P::x49::x50::x51::aT::x7::x52 P::x0::x1::x53::x54::x0::x55 P::x56::x57::x58::aT::x7::x59 P::x0::x1::x60::x61::x0::x62 P::x63::x64::x65::aT::x7::x66 P::x0::x1::x67::x68::x0::x69 P::x70::x71::x72::aT::x7::x76 P::x0::x1::x77::x78::x0::x79 P::x80::x81::x82::aT::x7::x83 P::x0::x84::x85::x86::x0::x1::x87::x0::x88::x89::x90::x91::x92 P::x93::x94::x95::aT::x7::x96 P::x0::x97::x98::x99::x0::x1::Uf::x0::SJ::Po::Ob::Vx::P4 P::NS::T4::S9::x0::x7::Ts P::x0::Vh::TN::Ta::x0::x1::Tf::NB::NL::Sb::Pg P::NO::Qk::Px::UW::TM::x0::x1::U9::x0::Se::PP::PX::x0::x1::R9::x0::TX::NM::Qs::x0::x1::Vp::x0::Uv::Nx::Na::x0::x1::T3::x0::Td::Oi::P2::x0::x1::Vo::x0::Uj::OT::NF::x0::x1::Vr::x0::T8::No::Ox::x0::x1::RP::x0::Va::Pj::PJ::x0::x1::S5::x0::UQ::Og::NC::x0::x1::Ul::x0::Us::Of::Qh::x0::x1::Tg::x0::SE::Qr::N8::x0::x1::UP::PV::Oh::x0::x1::T7::x0::R3::PZ::Py::x0::x1::UY::x0::Up::Nn::NK::x0::x1::So::x0::Th::NH::Qm::x0::x1::Vw::Qj::P8::x0::x1::Te::Pa::P0::x0::x1::S6::x0::Ug::On::Np::x0::x1::Sz::x0::RZ::Op::Pq::x0::x1::TQ::x0::UX::Nq::Oc::x0::x1::SR::x0::Uy::OM::Nh::x0::x1::U7::x0::Sr::Pr::Od::x0::x1::TF::x0::Vi::Ps::NR::x0::x1::UK::x0::R5::NY::O9::x0::x1::UC::x0::R6::Pc::ON::x0::x1::SQ::x0::UU::OV::Pe::x0::x1::UV::P7::O0::x0::x1::S8::x0::SO::ND::Qn::x0::x1::SS::NG::Ot::x0::x1::Sw::Qi::Ou::x0::x1::Vg::Oe::OH::x0::x1::RO::x0::Vl::Qo::PU::x0::x1::Wm::x0::W6::Su::TB::x0::x1::VU::x0::Xe::SM::Ub::x0::x1::WV::x0::V7::Vc::Sc::x0::x1::WI::x0::W0::Vd::Uh::x0::x7::Xj P::x0::Wz::Wh::WL::x0::x1::WE::SB::Ue::Xl::TV P::Sn::Sh::SN::WY::WC::x0::x1::Xd::SU::U4::x0::x1::WF::x0::WT::RX::TD::x0::x1::Wq::x0::WN::Sf::UR::x0::x1::WK::x0::WG::U6::Tc::x0::x1::Wk::x0::Wt::SV::Uu::x0::x1::WR::x0::V0::U0::UM::x0::x1::WD::x0::V2::UB::Tq::x0::x1::Wy::x0::V4::T5::Tr::x0::x1::W5::x0::W4::UO::Sj::x0::x1::Wx::x0::WQ::Vm::SF::x0::x1::VW::x0::VX::R4::Sx::x0::x1::VR::x0::Ww::U2::Ti::x0::x1::WU::x0::Wj::Uk::Vb::x0::x1::W7::x0::Wb::Um::TL::x0::x1::Wo::x0::Wa::Tv::Sl::x0::x1::Wc::x0::V8::Sy::T6::x0::x1::Wf::x0::WB::Tx::RQ::x0::x1::Wi::x0::Xa::Tp::RT::x0::x1::WH::x0::Wv::UT::TU::x0::x1::WX::x0::VT::TJ::Vz::x0::x1::WP::Vn::Sa::x0::x1::WW::x0::Xf::Uz::Si::x0::x1::V6::x0::V5::UE::SA::x0::x1::Wg::Tu::R0::x0::x1::VZ::x0::Xb::SX::Sq::x0::x1::VY::x0::WM::Sv::TC::x0::x1::Wl::x0::Xk::RN::U3::x0::x1::Xh::x0::Wr::Sm::Uo::x0::x1::Xg::x0::Xi::Ua::U5::[])) (.mk [] [] [] 0 [] [] false #[] [] 0 false false false 0 [2000,10,10] false 0 true [] [] 0 false)
theorem Wd(w:World)(os:OsState):segRun treeTable PySem.Challenge.pw_pebbletoll_k47_no_numbers w 11 (some (.ref 6)) 1 1328 (Shared.mk (h1 w.params) (.mk []) (.mk 0 0 0 0) 736 os) (piecesOf ZC env cE (.mk 193 0 196 71) [topFrame (.mk 0 0 0 0)])=some (.next,(Shared.mk (h2 w.params) (.mk []) (.mk 0 0 0 0) 1145 os),cE,(.mk 454 0 481 15)):=by kernel_rfl
noncomputable def hf(P:Params):Heap:=h2 P
theorem Ws(w:World)(os:OsState):topRun treeTable PySem.Challenge.pw_pebbletoll_k47_no_numbers w 11 (some (.ref 6)) 2 (Shared.mk (h2 w.params) (.mk []) (.mk 0 0 0 0) 1145 os) (restOf [] env cE (.mk 454 0 481 15) [topFrame (.mk 0 0 0 0)])=some (Shared.mk (hf w.params) (.mk []) (.mk 0 0 0 0) 1145 os):=by kernel_rfl
theorem run(w:World)(os:OsState):topRun treeTable PySem.Challenge.pw_pebbletoll_k47_no_numbers w 11 (some (.ref 6)) (12+(1+(1900+(1975+(1328+(2)))))) (Shared.mk (boot_heap w.params) (.mk []) boot_drawn boot_toks os) (topStub PySem.Challenge.pw_pebbletoll_k47_no_numbers)=some (Shared.mk (hf w.params) (.mk []) (.mk 0 0 0 0) 1145 os):=go_top (WS w os) (piece_block (V1 w os) (piece_app (We w os) (piece_app (Wn w os) (piece_app (Wd w os) (Ws w os)))))
theorem opn:∀w:World,(fencedOpening treeTable PySem.Challenge.pw_pebbletoll_k47_no_numbers w 10526).map (λs=>(s.heap,s.gens,s.drawn,s.toks))=some (boot_heap w.params,Array.mk [],boot_drawn,boot_toks):=boot_open (by kernel_rfl) (by decide) λs=>by kernel_rfl
theorem siz(w:World):((boot_heap w.params).isNs mainGlobals&&(Array.mk ([]:List GenState)).size==0,(boot_heap w.params).objs.size,(boot_heap w.params).nsMap mainGlobals "__annotations__")=(true,11,(some (.ref 6))):=by kernel_rfl
noncomputable def KK:Params->Frag:=λP=>
 (nat_lit 2,boot_o_2 P)::(nat_lit 3,TK P)::(nat_lit 23,x11 P)::(nat_lit 24,x75)::(nat_lit 25,x13)::(nat_lit 36,x20 P)::(nat_lit 37,x21)::(nat_lit 48,x27 P)::(nat_lit 49,x28)::(nat_lit 60,x34 P)::(nat_lit 61,x35)::(nat_lit 72,x41 P)::(nat_lit 73,x42)::(nat_lit 84,x48 P)::(nat_lit 85,x49)::(nat_lit 96,x55 P)::(nat_lit 97,x56)::(nat_lit 108,x62 P)::(nat_lit 109,x63)::(nat_lit 120,x69 P)::(nat_lit 121,x70)::(nat_lit 132,x79 P)::(nat_lit 133,x80)::(nat_lit 148,x89)::(nat_lit 149,x90)::(nat_lit 151,x92 P)::(nat_lit 152,x93)::(nat_lit 167,Po)::(nat_lit 168,Ob)::(nat_lit 170,P4 P)::(nat_lit 171,NS)::(nat_lit 184,NB)::(nat_lit 185,NL)::(nat_lit 187,Pg P)::(nat_lit 188,NO)::(nat_lit 189,Qk)::(nat_lit 190,Px)::(nat_lit 198,PP)::(nat_lit 199,PX)::(nat_lit 205,NM)::(nat_lit 206,Qs)::(nat_lit 212,Nx)::(nat_lit 213,Na)::(nat_lit 219,Oi)::(nat_lit 220,P2)::(nat_lit 226,OT)::(nat_lit 227,NF)::(nat_lit 233,No)::(nat_lit 234,Ox)::(nat_lit 240,Pj)::(nat_lit 241,PJ)::(nat_lit 247,Og)::(nat_lit 248,NC)::(nat_lit 254,Of)::(nat_lit 255,Qh)::(nat_lit 261,Qr)::(nat_lit 262,N8)::(nat_lit 266,PV)::(nat_lit 267,Oh)::(nat_lit 273,PZ)::(nat_lit 274,Py)::(nat_lit 280,Nn)::(nat_lit 281,NK)::(nat_lit 287,NH)::(nat_lit 288,Qm)::(nat_lit 292,Qj)::(nat_lit 293,P8)::(nat_lit 297,Pa)::(nat_lit 298,P0)::(nat_lit 304,On)::(nat_lit 305,Np)::(nat_lit 311,Op)::(nat_lit 312,Pq)::(nat_lit 318,Nq)::(nat_lit 319,Oc)::(nat_lit 325,OM)::(nat_lit 326,Nh)::(nat_lit 332,Pr)::(nat_lit 333,Od)::(nat_lit 339,Ps)::(nat_lit 340,NR)::(nat_lit 346,NY)::(nat_lit 347,O9)::(nat_lit 353,Pc)::(nat_lit 354,ON)::(nat_lit 360,OV)::(nat_lit 361,Pe)::(nat_lit 365,P7)::(nat_lit 366,O0)::(nat_lit 372,ND)::(nat_lit 373,Qn)::(nat_lit 377,NG)::(nat_lit 378,Ot)::(nat_lit 382,Qi)::(nat_lit 383,Ou)::(nat_lit 387,Oe)::(nat_lit 388,OH)::(nat_lit 394,Qo)::(nat_lit 395,PU)::(nat_lit 401,Su)::(nat_lit 402,TB)::(nat_lit 408,SM)::(nat_lit 409,Ub)::(nat_lit 415,Vc)::(nat_lit 416,Sc)::(nat_lit 422,Vd)::(nat_lit 423,Uh)::(nat_lit 434,SB)::(nat_lit 435,Ue)::(nat_lit 437,TV P)::(nat_lit 438,Sn)::(nat_lit 439,Sh)::(nat_lit 440,SN)::(nat_lit 446,SU)::(nat_lit 447,U4)::(nat_lit 453,RX)::(nat_lit 454,TD)::(nat_lit 460,Sf)::(nat_lit 461,UR)::(nat_lit 467,U6)::(nat_lit 468,Tc)::(nat_lit 474,SV)::(nat_lit 475,Uu)::(nat_lit 481,U0)::(nat_lit 482,UM)::(nat_lit 488,UB)::(nat_lit 489,Tq)::(nat_lit 495,T5)::(nat_lit 496,Tr)::(nat_lit 502,UO)::(nat_lit 503,Sj)::(nat_lit 509,Vm)::(nat_lit 510,SF)::(nat_lit 516,R4)::(nat_lit 517,Sx)::(nat_lit 523,U2)::(nat_lit 524,Ti)::(nat_lit 530,Uk)::(nat_lit 531,Vb)::(nat_lit 537,Um)::(nat_lit 538,TL)::(nat_lit 544,Tv)::(nat_lit 545,Sl)::(nat_lit 551,Sy)::(nat_lit 552,T6)::(nat_lit 558,Tx)::(nat_lit 559,RQ)::(nat_lit 565,Tp)::(nat_lit 566,RT)::(nat_lit 572,UT)::(nat_lit 573,TU)::(nat_lit 579,TJ)::(nat_lit 580,Vz)::(nat_lit 584,Vn)::(nat_lit 585,Sa)::(nat_lit 591,Uz)::(nat_lit 592,Si)::(nat_lit 598,UE)::(nat_lit 599,SA)::(nat_lit 603,Tu)::(nat_lit 604,R0)::(nat_lit 610,SX)::(nat_lit 611,Sq)::(nat_lit 617,Sv)::(nat_lit 618,TC)::(nat_lit 624,RN)::(nat_lit 625,U3)::(nat_lit 631,Sm)::(nat_lit 632,Uo)::(nat_lit 638,Ua)::(nat_lit 639,U5)::[]
abbrev qq:Program:=PySem.W.view PySem.Challenge.pw_pebbletoll_k47_no_numbers [1,2,3,4,5,6,7,8,9,10,11,12,14,15,16,17,18,19,20,21,22,23,24,25,26,28,29,30,32,33,34,35,37,38,40,41,42,43,44,45,46,48,49,50,51,52,54,55,56,57,58,59,60,61,62,63,64,65,66,67,68,69,70,71,72,73,75,76,77,78,79,80,81,82,83,84,85,86,87,88,89,90]
abbrev asK:List Addr:=[2,3,23,24,25,36,37,48,49,60,61,72,73,84,85,96,97,108,109,120,121,132,133,148,149,151,152,167,168,170,171,184,185,187,188,189,190,198,199,205,206,212,213,219,220,226,227,233,234,240,241,247,248,254,255,261,262,266,267,273,274,280,281,287,288,292,293,297,298,304,305,311,312,318,319,325,326,332,333,339,340,346,347,353,354,360,361,365,366,372,373,377,378,382,383,387,388,394,395,401,402,408,409,415,416,422,423,434,435,437,438,439,440,446,447,453,454,460,461,467,468,474,475,481,482,488,489,495,496,502,503,509,510,516,517,523,524,530,531,537,538,544,545,551,552,558,559,565,566,572,573,579,580,584,585,591,592,598,599,603,604,610,611,617,618,624,625,631,632,638,639]
theorem Ϝ:∀P,asK=(KK P).map (·.1):=λ_=>by kernel_rfl
theorem VJ(w:World):(λos=>((staticsOk (importedModules PySem.Challenge.pw_pebbletoll_k47_no_numbers.main.body) (boot_heap w.params) (hf w.params)&&namesBound PySem.Challenge.pw_pebbletoll_k47_no_numbers (hf w.params)&&gensDone (Shared.mk (Hd.hf w.params) (.mk []) (.mk 0 0 0 0) 1145 os)&&laidKept (boot_heap w.params) (hf w.params)),openSeen qq [] (importedModules PySem.Challenge.pw_pebbletoll_k47_no_numbers.main.body) (λs=>PySem.W.xlAt Hd.qq [] s&&PySem.W.recOk (PySem.W.RowW.records (PySem.W.OpenRow.toRowW (PySem.Challenge.rw_pebbletoll_k47_no_numbers).row)) s) true (Shared.mk (Hd.hf w.params) (.mk []) (.mk 0 0 0 0) 1145 os),Hook.obs (PySem.W.kHook Hd.KK Hd.asK Hd.Ϝ) (Shared.mk (Hd.hf w.params) (.mk []) (.mk 0 0 0 0) 1145 os)))=λ_=>(true,openGood qq [],Hook.val (PySem.W.kHook Hd.KK Hd.asK Hd.Ϝ) w):=by kernel_rfl
theorem left:PySem.W.LeftO (PySem.Challenge.rw_pebbletoll_k47_no_numbers).row.prog qq [] (λs=>PySem.W.xlAt Hd.qq [] s&&PySem.W.recOk (PySem.W.RowW.records (PySem.W.OpenRow.toRowW (PySem.Challenge.rw_pebbletoll_k47_no_numbers).row)) s) (PySem.W.Hook.obs (PySem.W.kHook Hd.KK Hd.asK Hd.Ϝ)) (PySem.W.Hook.val (PySem.W.kHook Hd.KK Hd.asK Hd.Ϝ)) 10526:=LeftO.of_pieces opn siz run (by decide) VJ
end Hd
namespace L2
open PySem PySem.Spec PyProof.Rows
abbrev Key:=Sum Int Str
def xV:Key->Value->Bool
 | .inl k,v=>Value.isInt k v
 | .inr x,v=>Value.isStrOf x v
def VS(w:World):Key->Int
 | .inl k=>hashInt k
 | .inr x=>hashStr w x
theorem jh:∀{k:Key}{v:Value},xV k v=true->(∃i t,k=Sum.inl i/\v=Value.int i t)\/(∃x t,k=Sum.inr x/\v=Value.str x t)
 | .inl i,v,h=>by
   obtain⟨t,e⟩:=Value.isInt_shape (k:=i) (v:=v) h;exact .inl ⟨i,t,rfl,e⟩
 | .inr x,v,h=>by
   obtain⟨t,e⟩:=Value.isStrOf_shape (x:=x) (v:=v) h;exact .inr ⟨x,t,rfl,e⟩
theorem MX(i:Int)(t:Tok):xV (.inl i) (.int i t)=true:=by simp[xV,Value.isInt]
theorem LK(x:Str)(t:Tok):xV (.inr x) (.str x t)=true:=by simp[xV,Value.isStrOf]
theorem Uc(a b:Int):decide ((Sum.inl a:Key)=Sum.inl b)=(a==b):=by
 by_cases e:a=b
 .subst e;simp
 .have h:¬(Sum.inl a:Key)=Sum.inl b:=λq=>e (Sum.inl.inj q);rw[aQ h];exact(beq_eq_false_iff_ne.mpr e).symm
theorem S4(a b:Str):decide ((Sum.inr a:Key)=Sum.inr b)=decide (a=b):=by
 by_cases e:a=b
 .subst e;simp
 .have h:¬(Sum.inr a:Key)=Sum.inr b:=λq=>e (Sum.inr.inj q);rw[aQ h,aQ e]
theorem Tz(a:Int)(b:Str):decide ((Sum.inl a:Key)=Sum.inr b)=false:=aQ (λq=>nomatch q)
theorem TY(a:Str)(b:Int):decide ((Sum.inr a:Key)=Sum.inl b)=false:=aQ (λq=>nomatch q)
def g6(prog:Program)(w:World):PySem.KeyKind prog w Key where
 is:=xV
 hash:=VS w
 inj:=λv a b ha hb=>by
  rcases jh ha with⟨i,t,rfl,rfl⟩|⟨x,t,rfl,rfl⟩
  .rcases jh hb with⟨j,u,rfl,e⟩|⟨y,u,rfl,e⟩
   .injection e with e1 _;rw[e1]
   .exact nomatch e
  .rcases jh hb with⟨j,u,rfl,e⟩|⟨y,u,rfl,e⟩
   .exact nomatch e
   .injection e with e1 _;rw[e1]
 byValue:=λk v h=>by
  rcases jh h with⟨i,t,rfl,rfl⟩|⟨x,t,rfl,rfl⟩<;>rfl
 pyHash:=λhv h=>by
  rcases jh hv with⟨i,t,rfl,rfl⟩|⟨x,t,rfl,rfl⟩
  .exact wpAny_pyHash_int h
  .exact wpAny_pyHash_str h
 eqBool:=λhu hv h=>by
  rcases jh hu with⟨i,t,rfl,rfl⟩|⟨x,t,rfl,rfl⟩
  .rcases jh hv with⟨j,u,rfl,rfl⟩|⟨y,u,rfl,rfl⟩
   .rw[Uc]at h;exact wpAny_eqBool_int h
   .rw[Tz]at h;exact SeqAt.EqAt.int_str i t y u _ _ _ _ h
  .rcases jh hv with⟨j,u,rfl,rfl⟩|⟨y,u,rfl,rfl⟩
   .rw[TY]at h;exact SeqAt.EqAt.str_int x t j u _ _ _ _ h
   .rw[S4]at h;exact wpAny_eqBool_str h
 «strs»:=λk x t v h=>by
  rcases jh h with⟨i,u,rfl,e⟩|⟨y,u,rfl,e⟩
  .exact nomatch e
  .injection e with e1 _
   subst e1;cases v<;>rfl
theorem HA(prog:Program)(w:World)(i:Int)(t:Tok):(g6 prog w).is (.inl i) (.int i t)=true:=MX i t
theorem HR(prog:Program)(w:World)(x:Str)(t:Tok):(g6 prog w).is (.inr x) (.str x t)=true:=LK x t
inductive V where
 | ο|bl (b:Bool)|int (i:Int)|str (x:Str)|YY (b:Array UInt8)|flt (b:UInt64)|ref (a:Addr)|ty (n:String)
 deriving DecidableEq
def RelV:V->Value->Prop
 | .ο,u=>u=Value.none
 | .bl b,u=>u=Value.bool b
 | .int i,u=>∃t,u=Value.int i t
 | .str x,u=>∃t,u=Value.str x t
 | .YY b,u=>∃t,u=Value.bytes b t
 | .flt b,u=>∃t,u=Value.float b t
 | .ref a,u=>u=Value.ref a
 | .ty n,u=>u=Value.type n
abbrev Vals:List V->List Value->Prop:=Paired RelV
theorem Vals.length{xs:List V}{us:List Value}(r:Vals xs us):xs.length=us.length:=Paired.length r
theorem Vals.get:∀{xs:List V}{us:List Value}{i:Nat}{x:V},Vals xs us->xs[i]?=some x->∃u,us[i]?=some u/\RelV x u
 | _,_,_,_,.nil,e=>by simp at e
 | _,_,0,_,.cons r _,e=>by simp at e;subst e;exact⟨_,rfl,r⟩
 | _,_,i+1,x,.cons _ t,e=>by
   obtain⟨u,h1,h2⟩:=Vals.get (i:=i) (x:=x) t (by simpa using e);exact⟨u,by simpa using h1,h2⟩
theorem Vals.set{x:V}{u:Value}(r:RelV x u):∀{xs:List V}{us:List Value}(i:Nat),Vals xs us->Vals (xs.set i x) (us.set i u)
 | _,_,_,.nil=>.nil
 | _,_,0,.cons _ t=>.cons r t
 | _,_,i+1,.cons q t=>.cons q (Vals.set r i t)
theorem Vals.append:∀{xs ys:List V}{us ws:List Value},Vals xs us->Vals ys ws->Vals (xs++ys) (us++ws)
 | _,_,_,_,.nil,s=>s
 | _,_,_,_,.cons r t,s=>.cons r (Vals.append t s)
theorem Vals.take:∀{xs:List V}{us:List Value}(n:Nat),Vals xs us->Vals (xs.take n) (us.take n)
 | _,_,0,_=>.nil
 | _,_,_+1,.nil=>.nil
 | _,_,n+1,.cons r t=>.cons r (Vals.take n t)
theorem Vals.drop:∀{xs:List V}{us:List Value}(n:Nat),Vals xs us->Vals (xs.drop n) (us.drop n)
 | _,_,0,r=>r
 | _,_,_+1,.nil=>.nil
 | _,_,n+1,.cons _ t=>Vals.drop n t
def iF:Option V->Option Value->Prop
 | some v,some u=>RelV v u
 | none,none=>True
 | _,_=>False
def KV{κ:Type}:List (κ×V)->List (κ×Value)->Prop:=Paired λ(p:κ×V)(q:κ×Value)=>p.1=q.1/\RelV p.2 q.2
def kV:Key->V
 | .inl i=>.int i
 | .inr x=>.str x
inductive HO where
 /-- a list -/
 | lst (xs:List V)
 /-- a tuple (never changes) -/
 | tup (xs:List V)
 /-- a dict abK keys are ints and texts;one abK keys are tuples of ints and texts (XJ empty one is both) -/
 | dK (η:List (Key×V))|dT (η:List (List Key×V))
 /-- a set of ints: its members,its size -/
 | set (S:Int->Bool) (n:Nat)
 /-- an instance of XJ class at C,its dict at dx,its attributes -/
 | ins (C dx:Addr) (fs:List (Str×V))
 /-- XJ dict of XJ instance at x -/
 | own (x:Addr)
 /-- XJ dict of an exception -/
 | xd (fs:List (Str×V))
 /-- a bound method,f of x -/
 | met (f x:Addr)
 /-- a range object lo,lo+1,.. cR hi -/
 | Μ (lo hi:Int)
 /-- a thing aec is known to XJ object (XJ script;a dict while a loop walks it): read,never written while it is so -/
 | Z2 (o:Obj) (u:HO)
 /-- a code aed table -/
 | tbl (ps:Array Value)
 /-- any other thing,by ZD is true of its one object (a def of alm own: aok a S n:=HO.ext λh=>..) -/
 | ext (φ:Heap->Prop)
abbrev Hp:=Addr->Option HO
def upd(H:Hp)(a:Addr)(o:HO):Hp:=λb=>if b=a then some o else H b
theorem ax{H:Hp}{a:Addr}{o:HO}:upd H a o a=some o:=by unfold upd;rw[aj rfl]
theorem aO{H:Hp}{a b:Addr}{o:HO}(h:b≠a):upd H a o b=H b:=by unfold upd;rw[ag h]
theorem sI{H:Hp}{a:Addr}{o u:HO}:upd (upd H a o) a u=upd H a u:=by
 funext b;unfold upd;split<;>rfl
theorem hW{H:Hp}{a b:Addr}{o u:HO}(h:H a=some o)(h':H b=some u)(d:o≠u):a≠b:=by
 intro e;subst e;rw[h]at h';exact d (bq h')
theorem bQ{H:Hp}{a b:Addr}{o:HO}(h:H a=some o)(h':H b=none):a≠b:=by
 intro e;subst e;rw[h]at h';cases h'
section
variable(P:Program)(w:World)
def Γ(H:Hp)(h:Heap)(a:Addr):HO->Prop
 | .lst xs=>xs.length<=sizeLine/\∃(its:List Value)(n:Nat),Vals xs its/\h.get? a=some { cls:=.type "list",data:=.seq its.toArray n }
 | .tup xs=>xs.length<=sizeLine/\∃its:List Value,Vals xs its/\IsTup h a its.toArray
 | .dK η=>η.length<=sizeLine/\(a==sysModules)=false/\∃vs,KV η vs/\h.DictOf (g6 P w) a vs
 | .dT η=>η.length<=sizeLine/\(a==sysModules)=false/\∃xs:List (List Key×Addr×Value),Paired (λ(p:List Key×V)(q:List Key×Addr×Value)=>p.1=q.1/\H q.2.1=some (.tup (p.1.map kV))/\RelV p.2 q.2.2) η xs/\∃o es ep,h.get? a=some o/\o.ExactDict/\o.data=.dict es ep/\es.toList=xs.map (entryOfKey (tupleKind (g6 P w)))/\(xs.map (·.1)).Nodup
 | .set S n=>h.SetOf (intKind P w) a S n
 | .ins C dx fs=>H dx=some (.own a)/\fs.length<=1000/\dx≠a/\h.get? a=some (PySem.W.instObj C dx)/\∃mA,h.Ns1 dx mA/\(∀f,iF (fs.lookup f) (mA f))/\PySem.Within mA (fs.map (·.1))
 | .own _=>∃o,h.get? a=some o
 | .xd fs=>∃mA,h.Ns1 a mA/\∀f,iF (fs.lookup f) (mA f)
 | .Μ lo hi=>∃t u v,h.get? a=some { cls:=.type "range",data:=.fields #[.int lo t,.int hi u,.int 1 v] }
 | .Z2 o u=>h.get? a=some o/\Γ H h a u
 | .tbl ps=>h.get? a=some { cls:=.none,data:=.fields ps }
 | .met f x=>h.get? a=some (PySem.W.methodObj (.ref f) (.ref x))
 | .ext φ=>φ h/\(∃o,h.get? a=some o)/\∀h1 h2:Heap,φ h1->(∀o,h1.get? a=some o->h2.get? a=some o)->φ h2
def Ϥ(H:Hp)(h:Heap):Prop:=∀a o,H a=some o->Γ P w H h a o
end
section
variable{P:Program}{w:World}{H H':Hp}{h h':Heap}{a:Addr}{o:HO}
theorem Γ.lt(x:Γ P w H h a o):a<h.objs.size:=by
 cases o with
 | lst xs=>obtain⟨_,_,_,_,e⟩:=x;exact aG e
 | tup xs=>obtain⟨_,_,_,p⟩:=x;exact p.lt
 | dK η=>obtain⟨_,_,_,_,o,_,_,e,_⟩:=x;exact aG e
 | dT η=>obtain⟨_,_,_,_,o,_,_,e,_⟩:=x;exact aG e
 | set S n=>obtain⟨o,_,_,_,e,_⟩:=x;exact aG e
 | ins C dx fs=>obtain⟨_,_,_,e,_⟩:=x;exact aG e
 | own y=>obtain⟨_,e⟩:=x;exact aG e
 | xd fs=>obtain⟨_,⟨_,_,_,e,_⟩,_⟩:=x;exact aG e
 | Μ lo hi=>obtain⟨_,_,_,e⟩:=x;exact aG e
 | Z2 ob u=>obtain⟨e,_⟩:=x;exact aG e
 | tbl ps=>exact aG (show h.get? a=some _ from x)
 | met f y=>exact aG (show h.get? a=some _ from x)
 | ext φ=>obtain⟨_,⟨_,e⟩,_⟩:=x;exact aG e
theorem Paired.aaS{α β:Type}{F G:α->β->Prop}:∀{l₁:List α}{l₂:List β},Paired F l₁ l₂->(∀a b,F a b->G a b)->Paired G l₁ l₂
 | _,_,.nil,_=>.nil
 | _,_,.cons r t,f=>.cons (f _ _ r) (Paired.aaS t f)
theorem Paired.imp'{α β:Type}{F G:α->β->Prop}(f:∀a b,F a b->G a b){l₁:List α}{l₂:List β}(r:Paired F l₁ l₂):Paired G l₁ l₂:=Paired.aaS r f
theorem Γ.Ϭ(x:Γ P w H h a o)(k:∀b u,(b=a\/H b=some (.own a))->h.get? b=some u->h'.get? b=some u)(ho:∀b,H b=some (.own a)->H' b=some (.own a))(ht:∀b xs,H b=some (.tup xs)->H' b=some (.tup xs)):Γ P w H' h' a o:=by
 induction o with
 | lst xs=>obtain⟨z,its,n,r,e⟩:=x;exact⟨z,its,n,r,k _ _ (.inl rfl) e⟩
 | tup xs=>obtain⟨z,its,r,ob,e,c⟩:=x;exact⟨z,its,r,ob,k _ _ (.inl rfl) e,c⟩
 | dK η=>obtain⟨z,y,vs,r,ob,es,ep,e,c⟩:=x;exact⟨z,y,vs,r,ob,es,ep,k _ _ (.inl rfl) e,c⟩
 | dT η=>
   obtain⟨z,y,xs,r,ob,es,ep,e,c⟩:=x;exact⟨z,y,xs,Paired.aaS r λp q z=>⟨z.1,ht _ _ z.2.1,z.2.2⟩,ob,es,ep,k _ _ (.inl rfl) e,c⟩
 | set S n=>obtain⟨ob,es,ep,t,e,c⟩:=x;exact⟨ob,es,ep,t,k _ _ (.inl rfl) e,c⟩
 | ins C dx fs=>
   obtain⟨d,z,ne,e,mA,⟨od,es,ep,e2,c⟩,r⟩:=x;exact⟨ho _ d,z,ne,k _ _ (.inl rfl) e,mA,⟨od,es,ep,k _ _ (.inr d) e2,c⟩,r⟩
 | own y=>obtain⟨ob,e⟩:=x;exact⟨ob,k _ _ (.inl rfl) e⟩
 | xd fs=>obtain⟨mA,⟨od,es,ep,e,c⟩,r⟩:=x;exact⟨mA,⟨od,es,ep,k _ _ (.inl rfl) e,c⟩,r⟩
 | Μ lo hi=>obtain⟨t,u,v,e⟩:=x;exact⟨t,u,v,k _ _ (.inl rfl) e⟩
 | Z2 ob u ih=>obtain⟨e,q⟩:=x;exact⟨k _ _ (.inl rfl) e,ih q⟩
 | tbl ps=>
   have e:h.get? a=some { cls:=.none,data:=.fields ps }:=x;show h'.get? a=some { cls:=.none,data:=.fields ps };exact k a _ (.inl rfl) e
 | met f y=>
   have e:h.get? a=some (PySem.W.methodObj (.ref f) (.ref y)):=x;show h'.get? a=some (PySem.W.methodObj (.ref f) (.ref y));exact k a _ (.inl rfl) e
 | ext φ=>obtain⟨p,⟨o,e⟩,st⟩:=x;exact⟨st _ _ p λo q=>k _ _ (.inl rfl) q,⟨o,k _ _ (.inl rfl) e⟩,st⟩
theorem Ϥ.lt(x:Ϥ P w H h)(e:H a=some o):a<h.objs.size:=(x a o e).lt
theorem Ϥ.fresh(x:Ϥ P w H h)(e:h.objs.size<=a):H a=none:=by
 cases q:H a with
 | none=>rfl
 | some u=>exact absurd (aW (x.lt q) e) (cG _)
theorem Ϥ.kept(x:Ϥ P w H h)(k:∀b u,h.get? b=some u->h'.get? b=some u):Ϥ P w H h':=λa o e=>
 (x a o e).Ϭ (λb u _ q=>k b u q) (λ_ q=>q) λ_ _ q=>q
theorem Ϥ.laid(x:Ϥ P w H h)(k:∀b u,h.get? b=some u->h'.get? b=some u)(hp:h.objs.size<=a)(new:Γ P w (upd H a o) h' a o):Ϥ P w (upd H a o) h':=λb u e=>by
 have hn:=x.fresh hp;by_cases hb:b=a
 .subst hb;rw[ax]at e;cases e;exact new
 .rw[aO hb]at e;exact(x b u e).Ϭ (λc v _ q=>k c v q) (λc q=>by rw[aO (bQ q hn)];exact q) λc xs q=>by rw[aO (bQ q hn)];exact q
end
def Rd(H:Hp)(a:Addr)(u:HO):Prop:=H a=some u\/∃o,H a=some (.Z2 o u)
theorem Rd.ok{P:Program}{w:World}{H:Hp}{h:Heap}{a:Addr}{u:HO}(r:Rd H a u)(x:Ϥ P w H h):Γ P w H h a u:=by
 rcases r with r|⟨o,r⟩
 .exact x a u r
 .obtain⟨_,q⟩:=x a _ r;exact q
def Mut:Option HO->Prop
 | some (.lst _)=>True
 | some (.dK _)=>True
 | some (.dT _)=>True
 | some (.set _ _)=>True
 | some (.ins _ _ _)=>True
 | some (.ext _)=>True
 | _=>False
section
variable{P:Program}{w:World}{H:Hp}{h h':Heap}{x e:Addr}{o':HO}
theorem Ϥ.write(ok:Ϥ P w H h)(mu:Mut (H x))(he:e=x\/H e=some (.own x))(k:∀b u,b≠e->h.get? b=some u->h'.get? b=some u)(heo:∃u,h'.get? e=some u)(new:Γ P w (upd H x o') h' x o'):Ϥ P w (upd H x o') h':=λb u q=>by
 have aef:∀c y,H c=some (.own y)->c≠x:=λc y r z=>by subst z;rw[r]at mu;exact mu
 have aiv:∀c xs,H c=some (.tup xs)->c≠x:=λc xs r z=>by subst z;rw[r]at mu;exact mu
 by_cases hb:b=x
 .subst hb;rw[ax]at q;cases q;exact new
 .rw[aO hb]at q;by_cases hbe:b=e
  .have q':H b=some (.own x):=by
    rcases he with z|z
    .exact absurd (hbe.trans z) hb
    .rw[hbe];exact z
   rw[q]at q';cases q';obtain⟨v,hv⟩:=heo;exact⟨v,by rw[hbe];exact hv⟩
  .refine(ok b u q).Ϭ (λc v hc r=>k c v ?_ r) (λc r=>by rw[aO (aef c b r)];exact r) λc xs r=>by rw[aO (aiv c xs r)];exact r
   rcases hc with rfl|hc
   .exact hbe
   .rintro rfl;rcases he with z|z
    .exact aef c b hc z
    .rw[hc]at z;cases z;exact hb rfl
end
structure Un(fs ex:List Addr)(H H':Hp)(h h':Heap):Prop where
 keep:∀b o,h.get? b=some o->H b=none->b∉fs->b∉ex->h'.get? b=some o
 slot:∀b o,h.get? b=some o->H b=none->b∈fs->b∉ex->∃sl,h'.get? b=some { o with slots:=sl }
 free:∀b o,h.get? b=some o->H b=none->b∉ex->H' b=none
 there:∀b o,h.get? b=some o->b∉ex->∃o',h'.get? b=some o'
 ϭ:∀b xs,H b=some (.tup xs)->H' b=some (.tup xs)
 ϥ:∀b o u,H b=some (.Z2 o u)->H' b=some (.Z2 o u)
 Ϯ:∀b ps,H b=some (.tbl ps)->∃more,H' b=some (.tbl (ps++more))
section
variable{fs fs' ex ex':List Addr}{H H1 H2:Hp}{h h1 h2 h':Heap}{a x e:Addr}{o:HO}
theorem Un.any(u:Un fs ex H H1 h h1){b:Addr}{ob:Obj}(q:h.get? b=some ob)(n:H b=none)(hx:b∉ex):∃sl,h1.get? b=some { ob with slots:=sl }:=by
 by_cases hb:b∈fs
 .exact u.slot b ob q n hb hx
 .exact⟨ob.slots,u.keep b ob q n hb hx⟩
theorem Un.kept(k:∀b u,h.get? b=some u->h'.get? b=some u):Un fs ex H H h h':=⟨λb ob q _ _ _=>k b ob q,λb ob q _ _ _=>⟨ob.slots,k b ob q⟩,λ_ _ _ n _=>n,λb ob q _=>⟨ob,k b ob q⟩,λ_ _ q=>q,λ_ _ _ q=>q,λ_ ps q=>⟨#[],by rw[q];simp⟩⟩
theorem Un.refl:Un fs ex H H h h:=Un.kept λ_ _ q=>q
theorem Un.laid(k:∀b u,h.get? b=some u->h'.get? b=some u)(hp:h.objs.size<=a)(hn:H a=none):Un fs ex H (upd H a o) h h' where
 keep:=λb u q _ _ _=>k b u q
 slot:=λb u q _ _ _=>⟨u.slots,k b u q⟩
 free:=λb u q n _=>by rw[aO (aV (aW (aG q) hp))];exact n
 there:=λb u q _=>⟨u,k b u q⟩
 ϭ:=λb xs q=>by rw[aO (bQ q hn)];exact q
 ϥ:=λb u xs q=>by rw[aO (bQ q hn)];exact q
 Ϯ:=λb ps q=>⟨#[],by rw[aO (bQ q hn),q];simp⟩
theorem Un.write(mu:Mut (H x))(he:e=x\/H e=some (.own x))(k:∀b u,b≠e->h.get? b=some u->h'.get? b=some u)(heo:∃u,h'.get? e=some u):Un fs ex H (upd H x o) h h':=by
 have hx:∀b,H b=none->b≠x:=λb n z=>by subst z;rw[n]at mu;exact mu
 have hb:∀b,H b=none->b≠e:=λb n z=>by
  subst z;rcases he with r|r
  .exact hx b n r
  .rw[n]at r;cases r
 have hm:∀b u,H b=some u->¬Mut (some u)->b≠x:=λb u q nm z=>by subst z;rw[q]at mu;exact nm mu
 refine⟨λb u q n _ _=>k b u (hb b n) q,λb u q n _ _=>⟨u.slots,k b u (hb b n) q⟩,λb u q n _=>by rw[aO (hx b n)];exact n,λb u q _=>?_,λb xs q=>by rw[aO (hm b _ q λz=>z)];exact q,λb u xs q=>by rw[aO (hm b _ q λz=>z)];exact q,λb ps q=>⟨#[],by rw[aO (hm b _ q λz=>z),q];simp⟩⟩
 by_cases hbe:b=e
 .subst hbe;exact heo
 .exact⟨u,k b u hbe q⟩
end
def trk(h:Heap)(H:Hp):List Addr:=(List.range h.objs.size).filter λa=>(H a).isSome
def vJ(h:Heap)(H:Hp):Heap:=PySem.W.hideAll h (trk h H)
theorem Mn(h:Heap)(H:Hp):(vJ h H).objs.size=h.objs.size:=PySem.W.hideAll_size _ _
theorem Nj{h:Heap}{H:Hp}{b:Addr}{o:Obj}(e:h.get? b=some o)(n:H b=none):(vJ h H).get? b=some o:=PySem.W.hideAll_get _ e λhm=>by
 have q:(H b).isSome=true:=(b5.mp hm).2;rw[n]at q;simp at q
theorem Q4{h:Heap}{H:Hp}{b:Addr}{o:Obj}(e:(vJ h H).get? b=some o):h.get? b=some o/\H b=none:=by
 have e':h.get? b=some o:=PySem.W.of_hideAll (trk h H) e;refine⟨e',?_⟩;cases q:H b with
 | none=>rfl
 | some x=>
   have hm:b∈trk h H:=b5.mpr ⟨b6.mpr (aG e'),by simp[q]⟩;have z:(vJ h H).get? b=none:=PySem.W.hideAll_none (trk h H) hm;rw[z]at e;cases e
def QT(g h:Heap)(L:Addr):List (Addr×Obj):=(List.range h.objs.size).filterMap λa=>if a=L\/(g.get? a).isSome=true then none else(h.get? a).map λo=>(a,o)
def rest(g h:Heap)(L d:Addr):List (Addr×Obj):=(QT g h L).filter λp=>decide (p.1≠d)
structure Mod(K:PySem.W.Frag)(mg:Str->Option Value)(base:Heap):Prop where
 kin:K.In base
 glob:base.Ns mainGlobals mg
 blt:∃mb,base.Ns builtinsNs mb/\∀x:Str,x≠"__name__"->mb x=bootBuiltins x
 nolimit:base.NoLimit
structure Cx where
 prog:Program
 w:World
 K:PySem.W.Frag
 mg:Str->Option Value
 base:Heap
 A:Around
 N:List Str
 s₀:Shared
 H₀:Hp
 env:Env
 outer:List Env
 stack:List Env
 ex:List Addr
 fn:Str->Bool
 calm:Bool
 pn:List (Addr×Obj)
 xe:Value->Shared->Prop
def ϛ(l:List Env):List Addr:=l.filterMap (·.frame)
abbrev Cx.fs(X:Cx):List Addr:=ϛ X.outer
def Vis(sc:Scope)(x:Str):Prop:=sc.names.lookup x=some .local\/sc.names.lookup x=some .cell\/sc.names.lookup x=some .free
def Loc(sc:Scope)(x:Str):Prop:=sc.names.lookup x=some .local\/sc.names.lookup x=some .cell
def WJ(env:Env)(h:Heap)(m:Str->Option Value)(x:Str)(u:Value):Prop:=(env.kindOf x=some .local/\m x=some u)\/((env.kindOf x=some .cell\/env.kindOf x=some .free)/\∃c,env.cells.lookup x=some c/\h.IsCell c (some u))
structure Cx.Ok(X:Cx):Prop where
 mod:Mod X.K X.mg X.base
 kind:X.env.scope.kind=.function
 glob:X.env.globals=mainGlobals
 blt:X.env.builtins=builtinsNs
 above:X.s₀.heap.objs.size<=X.env.locals
 inj:∀x y c,X.env.cells.lookup x=some c->X.env.cells.lookup y=some c->x=y
 has:∀x,(X.env.kindOf x=some .cell\/X.env.kindOf x=some .free)->∃c,X.env.cells.lookup x=some c
 cab:∀x c,X.fn x=true->X.env.cells.lookup x=some c->X.s₀.heap.objs.size<=c
 hd:X.calm=true->X.A.handled=none
 frames:X.A.frames=some X.stack
 stk:X.stack=X.outer\/(X.stack=X.env::X.outer/\X.env.frame=some X.env.locals)
 exf:∀b∈X.ex,b≠X.env.locals/\∀x c,X.env.cells.lookup x=some c->c≠b
 bs:∀b o,X.base.get? b=some o->X.s₀.heap.get? b=some o/\X.H₀ b=none
 Z3:X.base.objs.size<=X.s₀.heap.objs.size
 Yw:∀b o,X.base.get? b=some o->b∉X.ex
 X5:∀b∈X.ex,b∉X.fs
 Ϸ:X.s₀.heap.FunFrames X.base X.outer
 frf:∀b∈X.fs,X.H₀ b=none
structure Inv(X:Cx)(pins:List (Addr×Obj))(σ:List (Option V))(H:Hp)(s:Shared):Prop where
 ok:X.Ok
 os:s.os=X.s₀.os
 bare:AllBare s.gens
 base:Un X.fs X.ex X.H₀ H X.s₀.heap s.heap
 loc:∃m,s.heap.Ns X.env.locals m/\∀(i:Nat)(x:Str)(v:V),X.N[i]?=some x->σ[i]?=some (some v)->Vis X.env.scope x->∃u,RelV v u/\WJ X.env s.heap m x u
 cell:∀x c,X.env.cells.lookup x=some c->∃v,s.heap.IsCell c v
 free:H X.env.locals=none
 Ρ:∀x c,X.env.cells.lookup x=some c->H c=none
 pin:∀p∈X.pn++pins,s.heap.get? p.1=some p.2/\H p.1=none/\p.1≠X.env.locals/\p.1∉X.fs/\∀v,p.2.data≠.cell v
 τ:Ϥ X.prog X.w H s.heap
 len:σ.length=X.N.length
section
variable{X:Cx}{pins:List (Addr×Obj)}{σ:List (Option V)}{H H':Hp}{s:Shared}{h':Heap}
theorem Cx.Ok.aix(ok:X.Ok){b:Addr}{o:Obj}(e:X.base.get? b=some o):b∉X.fs:=λhb=>by
 have:=(ok.Ϸ.mem hb).1;rw[e]at this;cases this
theorem Inv.bs(I:Inv X pins σ H s):∀b o,X.base.get? b=some o->s.heap.get? b=some o/\H b=none:=λb o e=>
 ⟨I.base.keep b o (I.ok.bs b o e).1 (I.ok.bs b o e).2 (I.ok.aix e) (I.ok.Yw b o e),I.base.free b o (I.ok.bs b o e).1 (I.ok.bs b o e).2 (I.ok.Yw b o e)⟩
theorem Inv.bk(I:Inv X pins σ H s):∀b o,X.base.get? b=some o->s.heap.get? b=some o:=λb o e=>(I.bs b o e).1
theorem Inv.mod(I:Inv X pins σ H s):Mod X.K X.mg X.base:=I.ok.mod
theorem Inv.YZ(I:Inv X pins σ H s):X.K.In s.heap:=I.ok.mod.kin.keeps I.bk
theorem Inv.lt(I:Inv X pins σ H s):X.env.locals<s.heap.objs.size:=let ⟨_,hn,_⟩:=I.loc;hn.lt
theorem Inv.sz(I:Inv X pins σ H s):X.s₀.heap.objs.size<=s.heap.objs.size:=aU I.ok.above (iP I.lt)
theorem Inv.aiy(I:Inv X pins σ H s){a:Addr}(h:s.heap.objs.size<=a):a∉X.fs:=λhb=>by
 obtain⟨_,o,ho,_⟩:=I.ok.Ϸ.mem hb;exact absurd (aW (aG ho) (aU I.sz h)) (cG _)
theorem Inv.Z4(I:Inv X pins σ H s):∀x c,X.env.cells.lookup x=some c->c≠X.env.locals:=λx c e z=>by
 obtain⟨v,o,ho,hd⟩:=I.cell x c e;obtain⟨m,⟨o',es,ep,Yx,hd',_⟩,_⟩:=I.loc;rw[z,Yx]at ho;cases ho;rw[hd']at hd;cases hd
theorem Inv.Ϸ(I:Inv X pins σ H s):s.heap.FunFrames X.base X.outer:=by
 have all:∀(l:List Env),(∀b∈ϛ l,b∈X.fs)->X.s₀.heap.FunFrames X.base l->s.heap.FunFrames X.base l:=by
  intro l
  induction l with
  | nil=>intro _ _;trivial
  | cons env r ih=>
    intro hs hl;obtain⟨hk,⟨L,o,hf,hn,ho,hd⟩,hr⟩:=hl;have hL:L∈X.fs:=hs L (by unfold ϛ;rw[hV,hf];exact aK);obtain⟨sl,e⟩:=I.base.slot L o ho (I.ok.frf L hL) hL λz=>I.ok.X5 L z hL;exact⟨hk,⟨L,_,hf,hn,e,hd⟩,ih (λb hb=>hs b (by unfold ϛ;rw[hV,hf];exact aI _ hb)) hr⟩
 exact all X.outer (λ_ hb=>hb) I.ok.Ϸ
theorem Inv.stack(I:Inv X pins σ H s):s.heap.FunFrames X.base X.stack:=by
 rcases I.ok.stk with e|⟨e,hf⟩
 .rw[e];exact I.Ϸ
 .rw[e];obtain⟨m,hn,_⟩:=I.loc;refine .cons (by rw[I.ok.kind];decide) hf hn ?_ I.Ϸ;exact Heap.get?_none_of_le (aU I.ok.Z3 I.ok.above)
theorem Inv.X6(I:Inv X pins σ H s):∀b∈ϛ X.stack,b∈X.env.locals::X.fs:=λb hb=>by
 rcases I.ok.stk with e|⟨e,hf⟩
 .rw[e]at hb;exact aI _ hb
 .rw[e]at hb;unfold ϛ at hb;rw[hV,hf]at hb;exact hb
theorem Inv.bV(I:Inv X pins σ H s):∀b∈ϛ X.stack,H b=none:=λb hb=>by
 rcases ar.mp (I.X6 b hb)with e|hb
 .rw[e];exact I.free
 .obtain⟨_,o,ho,_⟩:=I.ok.Ϸ.mem hb;exact I.base.free b o ho (I.ok.frf b hb) λz=>I.ok.X5 b z hb
theorem Inv.step{g':Array GenState}{t':Nat}{d':Drawn}{ch:List Addr}(I:Inv X pins σ H s)(hch:∀b∈ch,(b∈X.ex\/X.s₀.heap.objs.size<=b)/\b≠X.env.locals/\(∀x c,X.env.cells.lookup x=some c->c≠b)/\∀p∈X.pn++pins,p.1≠b)(keep:∀b o,b≠X.env.locals->b∉X.fs->b∉ch->s.heap.get? b=some o->H b=none->h'.get? b=some o)(slot:∀b o,b≠X.env.locals->b∈X.fs->b∉ch->s.heap.get? b=some o->H b=none->∃sl,h'.get? b=some { o with slots:=sl })(free:∀b o,b∉ch->s.heap.get? b=some o->H b=none->H' b=none)(there:∀b o,b∉ch->s.heap.get? b=some o->∃o',h'.get? b=some o')(ϭ:∀b xs,H b=some (.tup xs)->H' b=some (.tup xs))(ϥ:∀b o u,H b=some (.Z2 o u)->H' b=some (.Z2 o u))(Ϯ:∀b ps,H b=some (.tbl ps)->∃more,H' b=some (.tbl (ps++more)))(ns:∀m,s.heap.Ns X.env.locals m->h'.Ns X.env.locals m)(τ:Ϥ X.prog X.w H' h')(hg:AllBare g'):Inv X pins σ H' { s with heap:=h',gens:=g',drawn:=d',toks:=t' }:=by
 have neL:∀b o,X.s₀.heap.get? b=some o->b≠X.env.locals:=λb o e=>aV (aW (aG e) I.ok.above);have neC:∀b o,X.s₀.heap.get? b=some o->b∉X.ex->b∉ch:=λb o e hx hb=>by
  rcases(hch b hb).1 with z|z
  .exact hx z
  .exact absurd (aW (aG e) z) (cG _)
 have cellK:∀x c,X.env.cells.lookup x=some c->∀v,s.heap.IsCell c v->h'.IsCell c v:=λx c e v ⟨o,ho,hd⟩=>by
  have nch:c∉ch:=λz=>(hch c z).2.2.1 x c e rfl;by_cases hc:c∈X.fs
  .obtain⟨sl,q⟩:=slot c o (I.Z4 x c e) hc nch ho (I.Ρ x c e);exact⟨_,q,hd⟩
  .exact⟨o,keep c o (I.Z4 x c e) hc nch ho (I.Ρ x c e),hd⟩
 refine⟨I.ok,I.os,hg,⟨λb o e n hb hx=>?_,λb o e n hb hx=>?_,λb o e n hx=>?_,λb o e hx=>?_,λb xs e=>ϭ b xs (I.base.ϭ b xs e),λb o xs e=>ϥ b o xs (I.base.ϥ b o xs e),λb ps e=>?_⟩,?_,λx c e=>?_,?_,λx c e=>?_,λp hp=>?_,τ,I.len⟩
 .exact keep b o (neL b o e) hb (neC b o e hx) (I.base.keep b o e n hb hx) (I.base.free b o e n hx)
 .obtain⟨sl,e1⟩:=I.base.slot b o e n hb hx;obtain⟨sl',e2⟩:=slot b _ (neL b o e) hb (neC b o e hx) e1 (I.base.free b o e n hx);exact⟨sl',e2⟩
 .obtain⟨o',e1⟩:=I.base.there b o e hx;exact free b o' (neC b o e hx) e1 (I.base.free b o e n hx)
 .obtain⟨o',e1⟩:=I.base.there b o e hx;exact there b o' (neC b o e hx) e1
 .obtain⟨m1,e1⟩:=I.base.Ϯ b ps e;obtain⟨m2,e2⟩:=Ϯ b _ e1;exact⟨m1++m2,by rw[e2,Array.append_assoc]⟩
 .obtain⟨m,hn,hl⟩:=I.loc;refine⟨m,ns m hn,λi x v e1 e2 e3=>?_⟩;obtain⟨u,r,l⟩:=hl i x v e1 e2 e3;refine⟨u,r,?_⟩;rcases l with l|⟨k,c,e,z⟩
  .exact .inl l
  .exact .inr ⟨k,c,e,cellK x c e _ z⟩
 .obtain⟨v,z⟩:=I.cell x c e;exact⟨v,cellK x c e v z⟩
 .obtain⟨m,⟨o,_,_,ho,_⟩,_⟩:=I.loc;exact free _ o (λz=>(hch _ z).2.1 rfl) ho I.free
 .obtain⟨v,o,ho,hd⟩:=I.cell x c e;exact free c o (λz=>(hch c z).2.2.1 x c e rfl) ho (I.Ρ x c e)
 .obtain⟨e,n,ne,nf,d⟩:=I.pin p hp;have nch:p.1∉ch:=λz=>(hch p.1 z).2.2.2 p hp rfl;exact⟨keep p.1 p.2 ne nf nch e n,free p.1 p.2 nch e n,ne,nf,d⟩
theorem Inv.un{t':Nat}(I:Inv X pins σ H s)(u:Un X.fs [] H H' s.heap h')(τ:Ϥ X.prog X.w H' h'):Inv X pins σ H' { s with heap:=h',toks:=t' }:=by
 obtain⟨m,⟨o,es,ep,ho,r⟩,_⟩:=id I.loc;obtain⟨sl,hL⟩:=u.any ho I.free (by simp);exact I.step (g':=s.gens) (d':=s.drawn) (ch:=[]) (λ_ z=>nomatch z) (λb o _ hb _ e n=>u.keep b o e n hb (by simp)) (λb o _ hb _ e n=>u.slot b o e n hb (by simp)) (λb o _ e n=>u.free b o e n (by simp)) (λb o _ e=>u.there b o e (by simp)) u.ϭ u.ϥ u.Ϯ (λm' hm=>by
  obtain⟨o',es',ep',Yx,r'⟩:=hm;rw[ho]at Yx;cases Yx;exact⟨_,es',ep',hL,r'⟩) τ I.bare
theorem Inv.call{g':Array GenState}{t':Nat}{d':Drawn}{ch:List Addr}(I:Inv X pins σ H s)(u:Un (ϛ X.stack) ch H H' s.heap h')(τ:Ϥ X.prog X.w H' h')(hg:AllBare g')(hch:∀b∈ch,(b∈X.ex\/X.s₀.heap.objs.size<=b)/\b≠X.env.locals/\(∀x c,X.env.cells.lookup x=some c->c≠b)/\∀p∈X.pn++pins,p.1≠b):Inv X pins σ H' { s with heap:=h',gens:=g',drawn:=d',toks:=t' }:=by
 obtain⟨m,⟨o,es,ep,ho,r⟩,_⟩:=id I.loc;obtain⟨sl,hL⟩:=u.any ho I.free λz=>(hch _ z).2.1 rfl;exact I.step (ch:=ch) hch (λb o hL hb hc e n=>u.keep b o e n (λz=>(ar.mp (I.X6 b z)).elim hL hb) hc) (λb o _ _ hc e n=>u.any e n hc) (λb o hc e n=>u.free b o e n hc) (λb o hc e=>u.there b o e hc) u.ϭ u.ϥ u.Ϯ (λm' hm=>by
  obtain⟨o',es',ep',Yx,r'⟩:=hm;rw[ho]at Yx;cases Yx;exact⟨_,es',ep',hL,r'⟩) τ hg
theorem Inv.turned{t':Nat}{it:Addr}(I:Inv X pins σ H s)(k:∀b o,b≠it->s.heap.get? b=some o->h'.get? b=some o)(hn:H it=none)(hL:it≠X.env.locals)(h1:it∈X.ex\/X.s₀.heap.objs.size<=it)(h2:∀x c,X.env.cells.lookup x=some c->c≠it)(h3:∀p∈X.pn++pins,p.1≠it):Inv X pins σ H { s with heap:=h',toks:=t' }:=by
 have nit:∀b u,H b=some u->b≠it:=λb u e z=>by rw[z,hn]at e;cases e
 refine I.step (g':=s.gens) (d':=s.drawn) (ch:=[it]) (λb hb=>?_) (λb o _ _ hc e _=>k b o (λz=>hc (by simp[z])) e) (λb o _ _ hc e _=>⟨o.slots,k b o (λz=>hc (by simp[z])) e⟩) (λ_ _ _ _ n=>n)
  (λb o hc e=>⟨o,k b o (λz=>hc (by simp[z])) e⟩) (λ_ _ e=>e) (λ_ _ _ e=>e) (λb ps e=>⟨#[],by rw[e];simp⟩) (λm hm=>?_) (λb u e=>?_) I.bare
 .have e:b=it:=by simpa using hb
  subst e;exact⟨h1,hL,h2,h3⟩
 .obtain⟨o,es,ep,ho,r⟩:=hm;exact⟨o,es,ep,k _ o (Ne.symm hL) ho,r⟩
 .refine(I.τ b u e).Ϭ (λc v hc q=>k c v ?_ q) (λ_ q=>q) λ_ _ q=>q;rcases hc with z|z
  .rw[z];exact nit b u e
  .exact nit c _ z
theorem Inv.tok(I:Inv X pins σ H s)(t:Nat):Inv X pins σ H { s with toks:=t }:=I.un (h':=s.heap) (t':=t) Un.refl I.τ
theorem Inv.kept{t':Nat}(I:Inv X pins σ H s)(k:∀b u,s.heap.get? b=some u->h'.get? b=some u):Inv X pins σ H { s with heap:=h',toks:=t' }:=I.un (Un.kept k) (I.τ.kept k)
theorem Inv.laid{a:Addr}{o:HO}{t':Nat}(I:Inv X pins σ H s)(k:∀b u,s.heap.get? b=some u->h'.get? b=some u)(hp:s.heap.objs.size<=a)(new:Γ X.prog X.w (upd H a o) h' a o):Inv X pins σ (upd H a o) { s with heap:=h',toks:=t' }:=I.un (Un.laid k hp (I.τ.fresh hp)) (I.τ.laid k hp new)
theorem Inv.write{x e:Addr}{o:HO}{t':Nat}(I:Inv X pins σ H s)(mu:Mut (H x))(he:e=x\/H e=some (.own x))(k:∀b u,b≠e->s.heap.get? b=some u->h'.get? b=some u)(heo:∃u,h'.get? e=some u)(new:Γ X.prog X.w (upd H x o) h' x o):Inv X pins σ (upd H x o) { s with heap:=h',toks:=t' }:=I.un (Un.write mu he k heo) (I.τ.write mu he k heo new)
theorem Inv.Zk{abN:List (Addr×Obj)}(I:Inv X pins σ H s)(h:∀p∈abN,s.heap.get? p.1=some p.2/\H p.1=none/\p.1≠X.env.locals/\p.1∉X.fs/\∀v,p.2.data≠.cell v):Inv X abN σ H s:=⟨I.ok,I.os,I.bare,I.base,I.loc,I.cell,I.free,I.Ρ,λp hp=>(bc.mp hp).elim (λz=>I.pin p (bo _ z)) (h p),I.τ,I.len⟩
theorem zO{N:List Str}(hN:N.Nodup){i j:Nat}{x:Str}(a:N[i]?=some x)(b:N[j]?=some x):i=j:=by
 obtain⟨h1,e1⟩:=aq.mp a;obtain⟨h2,e2⟩:=aq.mp b;exact(List.getElem_inj hN).mp (e1.trans e2.symm)
theorem DF{M:Model}{A:Around}{E:Value->Shared->Prop}{i:Nat}{x:Str}{v:V}{u:Value}{Q:Unit->Shared->Prop}(I:Inv X pins σ H s)(hN:X.N.Nodup)(hi:X.N[i]?=some x)(hx:Loc X.env.scope x)(r:RelV v u)(h:∀s',Inv X pins (σ.set i (some v)) H s'->(∃a,Heap.SameBut a s.heap s'.heap/\(a=X.env.locals\/X.env.cells.lookup x=some a))->Q () s')(hf:X.fn x=true\/X.env.scope.names.lookup x=some .local:=by first|exact .inl rfl|exact .inr rfl|assumption):wpAny M A (storeName X.env x u) Q E s:=by
 obtain⟨m,hn,hl⟩:=id I.loc;have acv:(X.env.scope.kind==.class||(X.env.scope.kind==.module&&X.env.locals != X.env.globals))=false:=by rw[I.ok.kind];rfl
 have Z5:i<σ.length:=by rw[I.len];exact(aq.mp hi).1
 have Z4:=I.Z4;have tracked:∀{a:Addr}{h':Heap},(∃o,s.heap.get? a=some o/\H a=none)->Heap.SameBut a s.heap h'->Ϥ X.prog X.w H h':=λ{a h'} ha hs b ob e=>by
  obtain⟨_,_,Yy⟩:=ha;refine(I.τ b ob e).Ϭ (λc w' hc q=>(hs.2 c ?_).trans q) (λ_ q=>q) λ_ _ q=>q;rintro rfl;rcases hc with rfl|hc
  .rw[Yy]at e;cases e
  .rw[Yy]at hc;cases hc
 rcases hx with hk|hk
 .refine wpAny_storeName_local hk hn (λh' hn' hs=>?_) acv;obtain⟨oL,_,_,hoL,_⟩:=id hn;refine h _ ⟨I.ok,I.os,I.bare,⟨λb o e n hb hx=>?_,λb o e n hb hx=>?_,I.base.free,λb o e hx=>?_,I.base.ϭ,I.base.ϥ,I.base.Ϯ⟩,⟨_,hn',λj y v' e1 e2 e3=>?_⟩,λy c e=>?_,I.free,I.Ρ,λp hp=>?_,tracked ⟨oL,hoL,I.free⟩ hs,by simpa using I.len⟩ ⟨_,hs,.inl rfl⟩
  .exact(hs.2 b (aV (aW (aG e) I.ok.above))).trans (I.base.keep b o e n hb hx)
  .obtain⟨sl,e1⟩:=I.base.slot b o e n hb hx;exact⟨sl,(hs.2 b (aV (aW (aG e) I.ok.above))).trans e1⟩
  .obtain⟨o',e1⟩:=I.base.there b o e hx;exact⟨o',(hs.2 b (aV (aW (aG e) I.ok.above))).trans e1⟩
  .by_cases hj:j=i
   .subst hj;rw[hi]at e1;cases e1;rw[dP Z5]at e2;cases e2;exact⟨u,r,.inl ⟨hk,by simp⟩⟩
   .rw[cY (Ne.symm hj)]at e2;obtain⟨u',r',q⟩:=hl j y v' e1 e2 e3;refine⟨u',r',?_⟩;rcases q with⟨k,e⟩|⟨k,c,e,z⟩
    .refine .inl ⟨k,?_⟩;have:y≠x:=λe=>hj (zO hN e1 (e▸hi));simp[this,e]
    .exact .inr ⟨k,c,e,z.sameBut hs (Z4 y c e)⟩
  .obtain⟨w',z⟩:=I.cell y c e;exact⟨w',z.sameBut hs (Z4 y c e)⟩
  .obtain⟨e,n,ne,nf,d⟩:=I.pin p hp;exact⟨(hs.2 p.1 ne).trans e,n,ne,nf,d⟩
 .have hfn:X.fn x=true:=by
   rcases hf with z|z
   .exact z
   .rw[z]at hk;cases hk
  obtain⟨c,hc⟩:=I.ok.has x (.inl hk);obtain⟨w',z⟩:=I.cell x c hc;refine wpAny_storeName_cell I.ok.kind hk hc z (λh' ZE hs=>?_);obtain⟨oc,hoc,aiE⟩:=id z;refine h { s with heap:=h' } ⟨I.ok,I.os,I.bare,⟨λb o e n hb hx=>?_,λb o e n hb hx=>?_,I.base.free,λb o e hx=>?_,I.base.ϭ,I.base.ϥ,I.base.Ϯ⟩,⟨m,hn.sameBut hs (Ne.symm (Z4 x c hc)),λj y v' e1 e2 e3=>?_⟩,λy c' e=>?_,I.free,I.Ρ,λp hp=>?_,tracked ⟨oc,hoc,I.Ρ x c hc⟩ hs,by simpa using I.len⟩ ⟨c,hs,.inr hc⟩
  .exact(hs.2 b (aV (aW (aG e) (I.ok.cab x c hfn hc)))).trans (I.base.keep b o e n hb hx)
  .obtain⟨sl,e1⟩:=I.base.slot b o e n hb hx;exact⟨sl,(hs.2 b (aV (aW (aG e) (I.ok.cab x c hfn hc)))).trans e1⟩
  .obtain⟨o',e1⟩:=I.base.there b o e hx;exact⟨o',(hs.2 b (aV (aW (aG e) (I.ok.cab x c hfn hc)))).trans e1⟩
  .by_cases hj:j=i
   .subst hj;rw[hi]at e1;cases e1;rw[dP Z5]at e2;cases e2;exact⟨u,r,.inr ⟨.inl hk,c,hc,ZE⟩⟩
   .rw[cY (Ne.symm hj)]at e2;obtain⟨u',r',q⟩:=hl j y v' e1 e2 e3;refine⟨u',r',?_⟩;rcases q with q|⟨k,c',e,z'⟩
    .exact .inl q
    .refine .inr ⟨k,c',e,z'.sameBut hs ?_⟩;rintro rfl;exact hj (zO hN e1 (I.ok.inj _ _ _ e hc▸hi))
  .by_cases hcc:c'=c
   .subst hcc;exact⟨_,ZE⟩
   .obtain⟨w2,z2⟩:=I.cell y c' e;exact⟨w2,z2.sameBut hs hcc⟩
  .obtain⟨e,n,ne,nf,d⟩:=I.pin p hp;refine⟨(hs.2 p.1 ?_).trans e,n,ne,nf,d⟩;intro q;rw[q,hoc]at e;have q':oc=p.2:=bq e;exact d w' (by rw[<-q'];exact aiE)
theorem tI{M:Model}{A:Around}{E:Value->Shared->Prop}{i:Nat}{x:Str}{v:V}{u:Value}{Q:Unit->Shared->Prop}(I:Inv X pins σ H s)(hN:X.N.Nodup)(hi:X.N[i]?=some x)(hx:Loc X.env.scope x)(r:RelV v u)(h:∀s',Inv X pins (σ.set i (some v)) H s'->Q () s')(hf:X.fn x=true\/X.env.scope.names.lookup x=some .local:=by first|exact .inl rfl|exact .inr rfl|assumption):wpAny M A (storeName X.env x u) Q E s:=DF I hN hi hx r (λs' I' _=>h s' I') hf
theorem Inv.Z6{s':Shared}{ch:List Addr}(I:Inv X pins σ H s)(ho:s'.os=s.os)(u:Un (ϛ X.stack) ch H H' s.heap s'.heap)(τ:Ϥ X.prog X.w H' s'.heap)(hg:AllBare s'.gens)(hch:∀b∈ch,(b∈X.ex\/X.s₀.heap.objs.size<=b)/\b≠X.env.locals/\(∀x c,X.env.cells.lookup x=some c->c≠b)/\∀p∈X.pn++pins,p.1≠b):Inv X pins σ H' s':=by
 obtain⟨h',g',d',t',o'⟩:=s';have e:o'=s.os:=ho;subst e;exact I.call (g':=g') (t':=t') (d':=d') u τ hg hch
end
abbrev XK:=Value->Option Addr->Hp->Prop
abbrev St:=List (Option V)
abbrev VK:=V->Hp->Prop
abbrev TE:=St->Hp->VK->Prop
abbrev TT:=St->Hp->(Bool->Hp->Prop)->Prop
abbrev TA:=St->Hp->(List V->Hp->Prop)->Prop
structure Ends where
 nx:St->Hp->Prop
 rt:VK
 bk:St->Hp->Prop:=λ_ _=>False
 ct:St->Hp->Prop:=λ_ _=>False
abbrev TS:=Ends->St->Hp->Prop
def EP(X:Cx)(pins:List (Addr×Obj))(σ:St)(Q:VK)(u:Value)(s':Shared):Prop:=∃v H',Inv X pins σ H' s'/\RelV v u/\Q v H'
def TP(X:Cx)(pins:List (Addr×Obj))(σ:St)(Q:Bool->Hp->Prop)(b:Bool)(s':Shared):Prop:=∃H',Inv X pins σ H' s'/\Q b H'
def AP(X:Cx)(pins:List (Addr×Obj))(σ:St)(Q:List V->Hp->Prop)(us:List Value)(s':Shared):Prop:=∃vs H',Inv X pins σ H' s'/\Vals vs us/\Q vs H'
def SP(X:Cx)(pins:List (Addr×Obj))(D:Ends)(f:Flow)(s':Shared):Prop:=match f with
 | .next=>∃σ' H',Inv X pins σ' H' s'/\D.nx σ' H'
 | .brk=>∃σ' H',Inv X pins σ' H' s'/\D.bk σ' H'
 | .cont=>∃σ' H',Inv X pins σ' H' s'/\D.ct σ' H'
 | .ret u=>∃v σ' H',Inv X pins σ' H' s'/\RelV v u/\D.rt v H'
def PE(X:Cx)(e:Expr)(t:TE):Prop:=∀(pins:List (Addr×Obj))(s:Shared)(σ:St)(H:Hp)(Q:VK),Inv X pins σ H s->t σ H Q->wpAny (model X.prog X.w) X.A (eval e X.env) (EP X pins σ Q) X.xe s
def PT(X:Cx)(e:Expr)(t:TT):Prop:=∀(pins:List (Addr×Obj))(s:Shared)(σ:St)(H:Hp)(Q:Bool->Hp->Prop),Inv X pins σ H s->t σ H Q->wpAny (model X.prog X.w) X.A (isTrue e X.env (eval e X.env)) (TP X pins σ Q) X.xe s
def PW(X:Cx)(e:Expr)(t:TT):Prop:=∀(whole:Sem Value)(pins:List (Addr×Obj))(s:Shared)(σ:St)(H:Hp)(Q:Bool->Hp->Prop),Inv X pins σ H s->t σ H Q->wpAny (model X.prog X.w) X.A (isTrue e X.env whole) (TP X pins σ Q) X.xe s
theorem PW.pt{X:Cx}{e:Expr}{t:TT}(h:PW X e t):PT X e t:=h _
def PA(X:Cx)(es:List Expr)(t:TA):Prop:=∀(pos:Pos)(pins:List (Addr×Obj))(s:Shared)(σ:St)(H:Hp)(Q:List V->Hp->Prop),Inv X pins σ H s->t σ H Q->wpAny (model X.prog X.w) X.A (spliced (backTo pos (starEach es X.env))) (AP X pins σ Q) X.xe s
def PS(X:Cx)(st:Stmt)(t:TS):Prop:=∀(pins:List (Addr×Obj))(s:Shared)(σ:St)(H:Hp)(D:Ends),Inv X pins σ H s->t D σ H->wpAny (model X.prog X.w) X.A (exec st X.env) (SP X pins D) X.xe s
def Y0(X:Cx)(st:List Stmt)(t:TS):Prop:=∀(pins:List (Addr×Obj))(s:Shared)(σ:St)(H:Hp)(D:Ends),Inv X pins σ H s->t D σ H->wpAny (model X.prog X.w) X.A (execs st X.env) (SP X pins D) X.xe s
theorem Ψ{α:Type}{t:Sem α}{Q Q':α->Shared->Prop}{M:Model}{A:Around}{E:Value->Shared->Prop}{s:Shared}(h:wpAny M A t Q E s)(hQ:∀a s,Q a s->Q' a s):wpAny M A t Q' E s:=b9 h hQ λ_ _ x=>x
theorem d5{t:Sem Value}{X:Cx}{pins:List (Addr×Obj)}{σ:St}{Q:VK}{Q':Value->Shared->Prop}{M:Model}{A:Around}{E:Value->Shared->Prop}{s:Shared}(h:wpAny M A t (EP X pins σ Q) E s)(hQ:∀u s v H,Inv X pins σ H s->RelV v u->Q v H->Q' u s):wpAny M A t Q' E s:=Ψ h λu s ⟨v,H,I,r,q⟩=>hQ u s v H I r q
theorem rL{t:Sem (List Value)}{X:Cx}{pins:List (Addr×Obj)}{σ:St}{Q:List V->Hp->Prop}{Q':List Value->Shared->Prop}{M:Model}{A:Around}{E:Value->Shared->Prop}{s:Shared}(h:wpAny M A t (AP X pins σ Q) E s)(hQ:∀u s v H,Inv X pins σ H s->Vals v u->Q v H->Q' u s):wpAny M A t Q' E s:=Ψ h λu s ⟨v,H,I,r,q⟩=>hQ u s v H I r q
theorem CU{t:Sem Bool}{X:Cx}{pins:List (Addr×Obj)}{σ:St}{Q:Bool->Hp->Prop}{Q':Bool->Shared->Prop}{M:Model}{A:Around}{E:Value->Shared->Prop}{s:Shared}(h:wpAny M A t (TP X pins σ Q) E s)(hQ:∀u s H,Inv X pins σ H s->Q u H->Q' u s):wpAny M A t Q' E s:=Ψ h λu s ⟨H,I,q⟩=>hQ u s H I q
section
variable{X:Cx}
def wX(i:Nat):TE:=λσ H Q=>∃v,σ[i]?=some (some v)/\Q v H
def tC(v:V):TE:=λ_ H Q=>Q v H
theorem F2{i:Nat}{x:Str}{pos:Pos}(hN:X.N[i]?=some x)(hv:Vis X.env.scope x)(hd:(x==("__debug__":Str))=false:=by decide)(ZF:(x==("__classdict__":Str))=false:=by decide):PE X (.Name x pos) (wX i):=by
 intro pins s σ H Q I h;obtain⟨v,e,h⟩:=h;obtain⟨m,hn,hl⟩:=I.loc;obtain⟨u,r,l⟩:=hl i x v hN e hv;have fin:EP X pins σ Q u s:=⟨v,H,I,r,h⟩;rcases l with⟨hk,hm⟩|⟨hk,c,hc,ϳ⟩
 .exact wpAny_Name (wpAny_loadName_local I.ok.kind hk hn hm fin) hd
 .rcases hk with hk|hk
  .exact wpAny_Name (wpAny_loadName_cell I.ok.kind hk hc ϳ fin) hd
  .exact wpAny_Name (wpAny_loadName_free I.ok.kind hk hc ϳ fin ZF) hd
theorem az{i j pos}:PE X (.Constant (.int i) j pos) (tC (.int i)):=λ_ _ _ H _ I h=>wpAny_Constant_int ⟨.int i,H,I.tok _,⟨_,rfl⟩,h⟩
theorem vO{b j pos}:PE X (.Constant (.bool b) j pos) (tC (.bl b)):=λ_ _ _ H _ I h=>Constant_bool ⟨.bl b,H,I,rfl,h⟩
theorem AU{j pos}:PE X (.Constant .none j pos) (tC .ο):=λ_ _ _ H _ I h=>Constant_none ⟨.ο,H,I,rfl,h⟩
theorem gR{x j pos}:PE X (.Constant (.str x) j pos) (tC (.str x)):=λ_ _ _ H _ I h=>Calls.Constant_str ⟨.str x,H,I.tok _,⟨_,rfl⟩,h⟩
def Gl(X:Cx)(x:Str):Prop:=X.env.kindOf x=some .globalImplicit
theorem sL{E:Value->Shared->Prop}{pins:List (Addr×Obj)}{s:Shared}{σ:St}{H:Hp}{x:Str}{u:Value}{pos:Pos}{Q:Value->Shared->Prop}(I:Inv X pins σ H s)(hg:Gl X x)(hm:X.mg x=some u)(h:Q u s)(hd:(x==("__debug__":Str))=false:=by decide):wpAny (model X.prog X.w) X.A (eval (.Name x pos) X.env) Q E s:=kC I.ok.kind hg (Calls.loadGlobal_global (by rw[I.ok.glob];exact I.mod.glob.keeps I.bk) hm h) hd
theorem nI{E:Value->Shared->Prop}{pins:List (Addr×Obj)}{s:Shared}{σ:St}{H:Hp}{x:Str}{u:Value}{pos:Pos}{Q:Value->Shared->Prop}(I:Inv X pins σ H s)(hg:Gl X x)(hm:X.mg x=none)(hv:bootBuiltins x=some u)(h:Q u s)(hn:x≠"__name__":=by decide)(hd:(x==("__debug__":Str))=false:=by decide):wpAny (model X.prog X.w) X.A (eval (.Name x pos) X.env) Q E s:=by
 obtain⟨mb,h1,h2⟩:=I.mod.blt;exact kC I.ok.kind hg (Calls.loadGlobal_builtin (by rw[I.ok.glob];exact I.mod.glob.keeps I.bk) hm (by rw[I.ok.blt];exact h1.keeps I.bk) ((h2 x hn).trans hv) h) hd
theorem IZ{x:Str}{v:V}{u:Value}{pos:Pos}(hg:Gl X x)(hm:X.mg x=some u)(r:RelV v u)(hd:(x==("__debug__":Str))=false:=by decide):PE X (.Name x pos) (tC v):=λ_ _ _ H _ I h=>sL I hg hm ⟨v,H,I,r,h⟩ hd
theorem QK{x:Str}{v:V}{u:Value}{pos:Pos}(hg:Gl X x)(hm:X.mg x=none)(hv:bootBuiltins x=some u)(r:RelV v u)(hn:x≠"__name__":=by decide)(hd:(x==("__debug__":Str))=false:=by decide):PE X (.Name x pos) (tC v):=λ_ _ _ H _ I h=>nI I hg hm hv ⟨v,H,I,r,h⟩ hn hd
variable{a b:Expr}{ta tb:TE}{pos:Pos}
def PC(X:Cx)(op:CmpOp)(a b:Expr)(t:TE):Prop:=∀(pins:List (Addr×Obj))(s:Shared)(σ:St)(H:Hp)(Q:VK),Inv X pins σ H s->t σ H Q->wpAny (model X.prog X.w) X.A (eval a X.env) (λv s₁=>wpAny (model X.prog X.w) X.A (eval b X.env) (λu s₂=>wpAny (model X.prog X.w) X.A (compareOp op v u) (EP X pins σ Q) X.xe s₂) X.xe s₁) X.xe s
theorem NU(b:Expr){op:CmpOp}(h:op≠.In)(h2:op≠.NotIn):behindInMarks op b=false:=by
 have e1:(op==CmpOp.In)=false:=by cases op<;>first|rfl|exact absurd rfl h
 have e2:(op==CmpOp.NotIn)=false:=by cases op<;>first|rfl|exact absurd rfl h2
 cases b<;>simp[behindInMarks,e1,e2]
def JI(ta:TE):TE:=λσ H Q=>ta σ H λx H1=>Q (.bl (!decide (x=.ο))) H1
theorem RelV.Z7{x:V}{v:Value}(r:RelV x v):(v==Value.none)=decide (x=.ο):=by
 cases x with
 | ο=>cases r;rfl
 | bl _=>cases r;rfl
 | int _=>obtain⟨t,rfl⟩:=r;rfl
 | str _=>obtain⟨t,rfl⟩:=r;rfl
 | YY _=>obtain⟨t,rfl⟩:=r;rfl
 | flt _=>obtain⟨t,rfl⟩:=r;rfl
 | ref _=>cases r;rfl
 | ty _=>cases r;rfl
theorem Rv{j pos'}(ha:PE X a ta):PC X .IsNot a (.Constant .none j pos') (JI ta):=by
 intro pins s σ H Q I h;refine d5 (ha pins s σ H _ I h) λv s1 x H1 I1 r1 q1=>?_;exact Constant_none (isnot_none_gen ⟨.bl _,H1,I1,by rw[r1.Z7];rfl,q1⟩)
def tB(t:TE):TT:=λσ H Q=>t σ H λx H1=>∃c,x=.bl c/\Q c H1
theorem Gd{op:CmpOp}{t:TE}(h:PC X op a b t)(h1:behindInMarks op b=false:=by first|exact NU _ (by decide) (by decide)|rfl):PT X (.Compare a [op] [b] pos) (tB t):=by
 intro pins s σ H Q I hw;refine wpAny_isTrue_Compare1 (Ψ (h pins s σ H _ I hw) λv s1 h1=>Ψ h1 λu s2 h2=>Ψ h2 λc s3 ⟨x,H1,I1,r1,q1⟩=>?_) h1;obtain⟨d,rfl,q⟩:=q1;cases r1;exact c9 ⟨H1,I1,q⟩
theorem nB{e:Expr}{t:TE}(h:PE X e t)(he:∀whole,isTrue e X.env whole=(do let v <-whole;standAt e.pos;holding [v] (truthy v)):=by intro _;rfl):PT X e (tB t):=by
 intro pins s σ H Q I hw;refine isTrue_plain (d5 (h pins s σ H _ I hw) λv s1 x H1 I1 r1 q1=>?_) (he _);obtain⟨d,rfl,q⟩:=q1;cases r1;exact c9 ⟨H1,I1,q⟩
variable{tA tB':TT}{rest:List Expr}
def Pi(t u:TT):TT:=λσ H Q=>t σ H λc H1=>if c=true then u σ H1 Q else Q false H1
def tOr(t u:TT):TT:=λσ H Q=>t σ H λc H1=>if c=true then Q true H1 else u σ H1 Q
def O2(t:TT):TT:=λσ H Q=>t σ H λc H1=>Q (!c) H1
theorem pp(ha:PT X a tA):PW X (.BoolOp .And [a] pos) tA:=by
 intro wh pins s σ H Q I h;refine isTrue_and (Ψ (ha pins s σ H Q I h) λc s1 e=>?_);cases c with
 | true=>exact isTrue_and_nil e
 | false=>exact e
theorem xa(ha:PT X a tA):PW X (.BoolOp .Or [a] pos) tA:=by
 intro wh pins s σ H Q I h;refine isTrue_or (Ψ (ha pins s σ H Q I h) λc s1 e=>?_);cases c with
 | false=>exact isTrue_or_nil e
 | true=>exact e
theorem rj(ha:PT X a tA)(hb:PW X (.BoolOp .And (b::rest) pos) tB'):PW X (.BoolOp .And (a::b::rest) pos) (Pi tA tB'):=by
 intro wh pins s σ H Q I h;refine isTrue_and (CU (ha pins s σ H _ I h) λc s1 H1 I1 q1=>?_);cases c with
 | true=>exact hb wh pins s1 σ H1 Q I1 q1
 | false=>exact⟨H1,I1,q1⟩
theorem Bd(ha:PT X a tA)(hb:PW X (.BoolOp .Or (b::rest) pos) tB'):PW X (.BoolOp .Or (a::b::rest) pos) (tOr tA tB'):=by
 intro wh pins s σ H Q I h;refine isTrue_or (CU (ha pins s σ H _ I h) λc s1 H1 I1 q1=>?_);cases c with
 | true=>exact⟨H1,I1,q1⟩
 | false=>exact hb wh pins s1 σ H1 Q I1 q1
theorem mL(ha:PT X a tA):PT X (.UnaryOp .Not a pos) (O2 tA):=by
 intro pins s σ H Q I h;exact isTrue_not (ha pins s σ H (λc H1=>Q (!c) H1) I h)
def KG(ta tb:TE):TE:=λσ H Q=>ta σ H λx H1=>∃c,x=.bl c/\if c=true then tb σ H1 Q else Q (.bl false) H1
theorem GB{op}{t:TE}(h:PE X a t):PE X (.BoolOp op [a] pos) t:=λpins s σ H Q I hw=>BoolOp_one (h pins s σ H Q I hw)
theorem FW(ha:PE X a ta)(hb:PE X (.BoolOp .And (b::rest) pos) tb):PE X (.BoolOp .And (a::b::rest) pos) (KG ta tb):=by
 intro pins s σ H Q I h;refine BoolOp_and (d5 (ha pins s σ H _ I h) λv s1 x H1 I1 r1 q1=>?_);obtain⟨c,rfl,q1⟩:=q1;cases r1;refine c9 ?_;cases c with
 | true=>exact hb pins s1 σ H1 Q I1 q1
 | false=>exact⟨.bl false,H1,I1,rfl,q1⟩
end
def μ(K:PySem.W.Frag)(H:Hp)(a:Addr)(xs:List V):Prop:=Rd H a (.lst xs)\/∃(o:Obj)(its:Array Value)(n:Nat),K.lookup a=some o/\o.cls=.type "list"/\o.dict=none/\o.data=.seq its n/\its.size<=sizeLine/\Vals xs its.toList
def Η(K:PySem.W.Frag)(H:Hp)(a:Addr)(xs:List V):Prop:=Rd H a (.tup xs)\/∃(o:Obj)(its:Array Value)(n:Nat),K.lookup a=some o/\o.cls=.type "tuple"/\o.data=.seq its n/\its.size<=sizeLine/\Vals xs its.toList
def V9:Value->Option V
 | .none=>some .ο
 | .bool b=>some (.bl b)
 | .int i _=>some (.int i)
 | .str x _=>some (.str x)
 | .bytes b _=>some (.YY b)
 | .float b _=>some (.flt b)
 | .ref a=>some (.ref a)
 | .type n=>some (.ty n)
 | _=>none
theorem RelV.abs{x:V}{u:Value}(r:RelV x u):V9 u=some x:=by
 cases x with
 | ο=>cases r;rfl
 | bl _=>cases r;rfl
 | int _=>obtain⟨t,rfl⟩:=r;rfl
 | str _=>obtain⟨t,rfl⟩:=r;rfl
 | YY _=>obtain⟨t,rfl⟩:=r;rfl
 | flt _=>obtain⟨t,rfl⟩:=r;rfl
 | ref _=>cases r;rfl
 | ty _=>cases r;rfl
theorem RelV.inj{x y:V}{u:Value}(r:RelV x u)(q:RelV y u):x=y:=bq (r.abs.symm.trans q.abs)
theorem Vals.inj{xs ys:List V}{us:List Value}(h:Vals xs us)(h2:Vals ys us):xs=ys:=by
 induction h generalizing ys with
 | nil=>cases h2;rfl
 | cons r _ ih=>cases h2 with|cons r2 t2=>rw[r.inj r2,ih t2]
section
variable{X:Cx}{pins:List (Addr×Obj)}{σ:St}{H:Hp}{s:Shared}{a:Addr}{xs ys:List V}
theorem μ.of{K:PySem.W.Frag}(h:H a=some (.lst xs)):μ K H a xs:=.inl (.inl h)
theorem Η.of{K:PySem.W.Frag}(h:H a=some (.tup xs)):Η K H a xs:=.inl (.inl h)
theorem Inv.list(I:Inv X pins σ H s)(h:μ X.K H a xs):∃its:List Value,Vals xs its/\PlainL s.heap a its.toArray/\xs.length<=sizeLine:=by
 rcases h with h|⟨o,its,n,hk,hc,hd,hs,hz,r⟩
 .obtain⟨z,its,n,r,e⟩:=h.ok I.τ;exact⟨its,r,⟨_,n,e,rfl,rfl,rfl⟩,z⟩
 .refine⟨its.toList,r,⟨o,n,I.YZ a o hk,hc,hd,by simpa using hs⟩,?_⟩;have e:=r.length;simp only[ng]at e
  lia
theorem Inv.tuple(I:Inv X pins σ H s)(h:Η X.K H a xs):∃its:List Value,Vals xs its/\IsTup s.heap a its.toArray/\xs.length<=sizeLine:=by
 rcases h with h|⟨o,its,n,hk,hc,hs,hz,r⟩
 .obtain⟨z,its,r,p⟩:=h.ok I.τ;exact⟨its,r,p,z⟩
 .refine⟨its.toList,r,⟨o,I.YZ a o hk,hc,n,by simpa using hs⟩,?_⟩;have e:=r.length;simp only[ng]at e
  lia
theorem Inv.bY(I:Inv X pins σ H s)(h:μ X.K H a xs)(h':μ X.K H a ys):xs=ys:=by
 obtain⟨its,r,⟨o,n,e,_,_,d⟩,_⟩:=I.list h;obtain⟨its',r',⟨o',n',e',_,_,d'⟩,_⟩:=I.list h';rw[e]at e';cases e';rw[d]at d';injection d' with d1 _
 have:its=its':=by simpa using congrArg Array.toList d1
 subst this;exact r.inj r'
theorem Inv.XY(I:Inv X pins σ H s)(h:Η X.K H a xs)(h':Η X.K H a ys):xs=ys:=by
 obtain⟨its,r,⟨o,e,_,n,d⟩,_⟩:=I.tuple h;obtain⟨its',r',⟨o',e',_,n',d'⟩,_⟩:=I.tuple h';rw[e]at e';cases e';rw[d]at d';injection d' with d1 _
 have:its=its':=by simpa using congrArg Array.toList d1
 subst this;exact r.inj r'
end
abbrev Cx.wish(X:Cx)(E:Value->Shared->Prop):Cx:={ X with xe:=E }
abbrev Cx.nox(X:Cx):Cx:=X.wish λ_ _=>False
theorem Cx.Ok.wish{X:Cx}(ok:X.Ok)(E:Value->Shared->Prop):(X.wish E).Ok:=⟨ok.mod,ok.kind,ok.glob,ok.blt,ok.above,ok.inj,ok.has,ok.cab,ok.hd,ok.frames,ok.stk,ok.exf,ok.bs,ok.Z3,ok.Yw,ok.X5,ok.Ϸ,ok.frf⟩
theorem Cx.Ok.Τ{X:Cx}{E:Value->Shared->Prop}(ok:(X.wish E).Ok):X.Ok:=⟨ok.mod,ok.kind,ok.glob,ok.blt,ok.above,ok.inj,ok.has,ok.cab,ok.hd,ok.frames,ok.stk,ok.exf,ok.bs,ok.Z3,ok.Yw,ok.X5,ok.Ϸ,ok.frf⟩
section
variable{X:Cx}{pins:List (Addr×Obj)}{σ:St}{H:Hp}{s:Shared}{E:Value->Shared->Prop}
theorem Inv.wish(I:Inv X pins σ H s)(E:Value->Shared->Prop):Inv (X.wish E) pins σ H s:=⟨I.ok.wish E,I.os,I.bare,I.base,I.loc,I.cell,I.free,I.Ρ,I.pin,I.τ,I.len⟩
theorem Inv.Τ(I:Inv (X.wish E) pins σ H s):Inv X pins σ H s:=⟨I.ok.Τ,I.os,I.bare,I.base,I.loc,I.cell,I.free,I.Ρ,I.pin,I.τ,I.len⟩
theorem SP.Τ{D:Ends}{f:Flow}{s':Shared}(h:SP (X.wish E) pins D f s'):SP X pins D f s':=by
 cases f with
 | next=>obtain⟨σ',H',I,q⟩:=h;exact⟨σ',H',I.Τ,q⟩
 | brk=>obtain⟨σ',H',I,q⟩:=h;exact⟨σ',H',I.Τ,q⟩
 | cont=>obtain⟨σ',H',I,q⟩:=h;exact⟨σ',H',I.Τ,q⟩
 | ret u=>obtain⟨v,σ',H',I,r,q⟩:=h;exact⟨v,σ',H',I.Τ,r,q⟩
theorem Y0.nox{st:List Stmt}{t:TS}(h:Y0 X.nox st t):Y0 X st t:=λpins s σ H D I hw=>
 b9 (h pins s σ H D (I.wish _) hw) (λ_ _ q=>q.Τ) λ_ _ z=>False.elim z
end
section
variable{X:Cx}{st:Stmt}{rest:List Stmt}{t u:TS}{e:Expr}{te:TE}{pos:Pos}
def Z8:TS:=λD σ H=>D.nx σ H
def K3(t u:TS):TS:=λD σ H=>t { D with nx:=u D } σ H
theorem ce:Y0 X [] Z8:=λ_ _ σ H _ I h=>fW ⟨σ,H,I,h⟩
theorem ao(h1:PS X st t)(h2:Y0 X rest u):Y0 X (st::rest) (K3 t u):=by
 intro pins s σ H D I h;refine kL (Ψ (h1 pins s σ H { D with nx:=u D } I h) λf s1 q=>?_);cases f with
 | next=>
   obtain⟨σ',H',I',q⟩:=q;exact h2 pins s1 σ' H' D I' q
 | ret v=>exact q
 | brk=>exact q
 | cont=>exact q
theorem aL(h1:PS X st t):Y0 X [st] t:=by
 intro pins s σ H D I h;refine kL (Ψ (h1 pins s σ H D I h) λf s1 q=>?_);cases f with
 | next=>exact fW q
 | ret v=>exact q
 | brk=>exact q
 | cont=>exact q
theorem Inv.quiet{pins:List (Addr×Obj)}{σ:St}{H:Hp}{s:Shared}(I:Inv X pins σ H s):interactive X.env=false:=by simp[interactive,I.ok.kind]
def Kf(te:TE):TS:=λD σ H=>te σ H λ_ H1=>D.nx σ H1
theorem dH(he:PE X e te)(hs:swapsWith e none pos.line X.env=pure false:=by rfl):PS X (.Expr e pos) (Kf te):=by
 intro pins s σ H D I h;exact wpAny_Expr_any (d5 (he pins s σ H _ I h) λv s1 x H1 I1 r1 q1=>⟨σ,H1,I1,q1⟩) I.quiet hs
def PR(te:TE):TS:=λD σ H=>te σ H D.rt
theorem bG(he:PE X e te):PS X (.Return (some e) pos) (PR te):=by
 intro pins s σ H D I h;exact wpAny_Return_some (d5 (he pins s σ H _ I h) λv s1 x H1 I1 r1 q1=>⟨x,σ,H1,I1,r1,q1⟩)
def K4(c:TT)(t u:TS):TS:=λD σ H=>c σ H λb H1=>if b=true then t D σ H1 else u D σ H1
theorem dz{c:Expr}{a b:List Stmt}{tc:TT}(hc:PT X c tc)(ha:Y0 X a t)(hb:Y0 X b u):PS X (.If c a b pos) (K4 tc t u):=by
 intro pins s σ H D I h;refine wpAny_If (CU (hc pins s σ H _ I h) λd s1 H1 I1 q1=>?_);cases d with
 | true=>exact ha pins s1 σ H1 D I1 q1
 | false=>exact hb pins s1 σ H1 D I1 q1
def Z9:TS:=λ_ _ _=>False
theorem qo:PS X st Z9:=λ_ _ _ _ _ _ h=>h.elim
end
abbrev TG:=V->St->Hp->(St->Hp->Prop)->Prop
abbrev TGs:=List V->St->Hp->(St->Hp->Prop)->Prop
def PG(X:Cx)(target:Expr)(t:TG):Prop:=∀(pins:List (Addr×Obj))(s:Shared)(σ:St)(H:Hp)(v:V)(u:Value)(Q:St->Hp->Prop),Inv X pins σ H s->RelV v u->t v σ H Q->wpAny (model X.prog X.w) X.A (assign target X.env u) (λ_ s'=>∃σ' H',Inv X pins σ' H' s'/\Q σ' H') X.xe s
def PGs(X:Cx)(ts:List Expr)(t:TGs):Prop:=∀(pins:List (Addr×Obj))(s:Shared)(σ:St)(H:Hp)(vs:List V)(us:List Value)(Q:St->Hp->Prop),Inv X pins σ H s->Vals vs us->t vs σ H Q->wpAny (model X.prog X.w) X.A (assignInOrder ((assignEach ts X.env).map (·.2)) us) (λ_ s'=>∃σ' H',Inv X pins σ' H' s'/\Q σ' H') X.xe s
abbrev Fz:=V->V->V->Hp->(Hp->Prop)->Prop
def PQ(X:Cx)(t:Fz):Prop:=∀(pins:List (Addr×Obj))(s:Shared)(σ:St)(H:Hp)(o i v:V)(ov iv u:Value)(Q:Hp->Prop),Inv X pins σ H s->RelV o ov->RelV i iv->RelV v u->t o i v H Q->wpAny (model X.prog X.w) X.A (setItem ov iv u) (λ_ s'=>∃H',Inv X pins σ H' s'/\Q H') X.xe s
abbrev TIp:=V->V->Hp->VK->Prop
def PIp(X:Cx)(op:Operator)(t:TIp):Prop:=∀(pins:List (Addr×Obj))(s:Shared)(σ:St)(H:Hp)(x y:V)(v u:Value)(Q:VK),Inv X pins σ H s->RelV x v->RelV y u->t x y H Q->wpAny (model X.prog X.w) X.A (inplaceOp op v u) (EP X pins σ Q) X.xe s
section
variable{X:Cx}{pos:Pos}
def vU(i:Nat):TG:=λv σ H Q=>Q (σ.set i (some v)) H
theorem fN{i:Nat}{x:Str}(hN:X.N.Nodup)(hi:X.N[i]?=some x)(hx:Loc X.env.scope x)(hf:X.fn x=true\/X.env.scope.names.lookup x=some .local:=by first|exact .inl rfl|exact .inr rfl|assumption):PG X (.Name x pos) (vU i):=by
 intro pins s σ H v u Q I r h;exact wpAny_assign_Name (tI I hN hi hx r (λs' I'=>⟨_,H,I',h⟩) hf)
def acw:TGs:=λvs σ H Q=>vs=[]/\Q σ H
def JC(t:TG)(u:TGs):TGs:=λvs σ H Q=>∃v r,vs=v::r/\t v σ H λσ' H'=>u r σ' H' Q
theorem gK:PGs X [] acw:=by
 intro pins s σ H vs us Q I r h;obtain⟨e,h⟩:=h;subst e;cases r;exact assignInOrder_nil ⟨σ,H,I,h⟩
theorem bW{e:Expr}{es:List Expr}{t:TG}{u:TGs}(h1:PG X e t)(h2:PGs X es u)(hs:(assignEach (e::es) X.env).map (·.2)=assign e X.env::(assignEach es X.env).map (·.2):=by rfl):PGs X (e::es) (JC t u):=by
 intro pins s σ H vs us Q I r h;obtain⟨v,vr,e1,h⟩:=h;subst e1;cases r with
 | cons r rr=>
   rw[hs];refine assignInOrder_cons (Ψ (h1 pins s σ H _ _ _ I r h) λ_ s1 ⟨σ1,H1,I1,q1⟩=>?_);exact h2 pins s1 σ1 H1 _ _ Q I1 rr q1
def KO(K:PySem.W.Frag)(n:Nat)(t:TGs):TG:=λv σ H Q=>∃a xs,v=.ref a/\Η K H a xs/\xs.length=n/\t xs σ H Q
theorem jo{es:List Expr}{k:Nat}{t:TGs}{n:Nat}(hc:X.calm=true)(h:PGs X es t)(hn:(assignEach es X.env).length=n:=by rfl)(ZT:(assignEach es X.env).findIdx? (·.1)=none:=by rfl):PG X (.Tuple es k pos) (KO X.K n t):=by
 intro pins s σ H v u Q I r hw;obtain⟨a,xs,e1,hq,hl,hw⟩:=hw;subst e1;cases r;obtain⟨its,rv,ht,hz⟩:=I.tuple hq;refine assign_Tuple_tuple (I.ok.hd hc) ht (by simp[hn,<-hl,rv.length]) ZT λh' hx=>?_;have I1:Inv X pins σ H { s with heap:=h' }:=I.kept (t':=s.toks) λb o e=>hx b o (aV (aG e)) e;exact h pins _ σ H xs _ Q I1 (by simpa using rv) hw
def OF(to ti:TE)(t:Fz):TG:=λv σ H Q=>to σ H λo H1=>ti σ H1 λi H2=>t o i v H2 λH3=>Q σ H3
theorem mK{o i:Expr}{to ti:TE}{t:Fz}(ho:PE X o to)(hi:PE X i ti)(hs:PQ X t)(ha:∀v,assign (.Subscript o i pos) X.env v=(do
 let ov <-holding [v] (eval o X.env)
 let iv <-holding [v,ov] (eval i X.env)
 standAt pos
 holding [v,ov,iv] (setItem ov iv v)
 release [v,ov,iv] []):=by intro _;rfl):PG X (.Subscript o i pos) (OF to ti t):=by
 intro pins s σ H v u Q I r h;rw[ha];refine ak (fh (d5 (ho pins s σ H _ I h) λov s1 x H1 I1 r1 q1=>?_));refine ak (fh (d5 (hi pins s1 σ H1 _ I1 q1) λiv s2 y H2 I2 r2 q2=>?_));refine ak (iu (ak (fh (Ψ (hs pins s2 σ H2 x y v ov iv u _ I2 r1 r2 r q2) λ_ s3 ⟨H3,I3,q3⟩=>?_))));exact wpAny_release ⟨σ,H3,I3,q3⟩
def Ck(te:TE)(g:TG):TS:=λD σ H=>te σ H λx H1=>g x σ H1 D.nx
theorem jW{tg e:Expr}{te:TE}{g:TG}(he:PE X e te)(hg:PG X tg g)(hs:swapsWithSole [tg] e pos.line X.env=pure false:=by rfl)(hw:swappedStores [tg] e X.env=pure none:=by rfl)(h1:(assignEach [tg] X.env).map (·.2)=[assign tg X.env]:=by rfl):PS X (.Assign [tg] e pos) (Ck te g):=by
 intro pins s σ H D I h;refine wpAny_Assign_stores (d5 (he pins s σ H _ I h) λv s1 x H1 I1 r1 q1=>?_) hs hw;rw[h1];exact Ψ (hg pins s1 σ H1 x v _ I1 r1 q1) λ_ s2 q=>q
theorem xK{i:Nat}{x:Str}{e:Expr}{te:TE}{pos':Pos}(hN:X.N.Nodup)(hi:X.N[i]?=some x)(hx:Loc X.env.scope x)(he:PE X e te)(hs:swapsWith e (some (.Name x pos')) pos.line X.env=pure false:=by rfl)(hf:X.fn x=true\/X.env.scope.names.lookup x=some .local:=by first|exact .inl rfl|exact .inr rfl|assumption):PS X (.Assign [.Name x pos'] e pos) (Ck te (vU i)):=by
 intro pins s σ H D I h;refine wpAny_Assign_Name (d5 (he pins s σ H _ I h) λv s1 y H1 I1 r1 q1=>?_) hs;exact tI I1 hN hi hx r1 (λs2 I2=>⟨_,H1,I2,q1⟩) hf
def Oy(i:Nat)(te:TE)(ti:TIp):TS:=λD σ H=>∃x,σ[i]?=some (some x)/\te σ H λy H1=>ti x y H1 λz H2=>D.nx (σ.set i (some z)) H2
theorem tj{i:Nat}{x:Str}{e:Expr}{te:TE}{op:Operator}{ti:TIp}{pos':Pos}(hN:X.N.Nodup)(hi:X.N[i]?=some x)(hx:Loc X.env.scope x)(he:PE X e te)(ho:PIp X op ti)(hf:X.fn x=true\/X.env.scope.names.lookup x=some .local:=by first|exact .inl rfl|exact .inr rfl|assumption):PS X (.AugAssign (.Name x pos') op e pos) (Oy i te ti):=by
 intro pins s σ H D I h;obtain⟨v,e1,h⟩:=h;obtain⟨m,hn,hl⟩:=I.loc;have vis:Vis X.env.scope x:=by rcases hx with k|k;exact .inl k;exact .inr (.inl k)
 obtain⟨u,r,l⟩:=hl i x v hi e1 vis;refine wpAny_AugAssign_Name ?_;have go:wpAny (model X.prog X.w) X.A (eval e X.env) (λw s₂=>wpAny (model X.prog X.w) X.A (inplaceOp op u w) (λr s₃=>wpAny (model X.prog X.w) X.A (storeName X.env x r) (λ_=>SP X pins D .next) X.xe s₃) X.xe s₂) X.xe s:=by
  refine Ψ (he pins s σ H _ I h) λw s1 ⟨y,H1,I1,r1,q1⟩=>?_;refine Ψ (ho pins s1 σ H1 v y u w _ I1 r r1 q1) λz s2 ⟨zv,H2,I2,r2,q2⟩=>?_;exact tI I2 hN hi hx r2 (λs3 I3=>⟨_,H2,I3,q2⟩) hf
 rcases l with⟨hk,hm⟩|⟨hk,c,hc,ϳ⟩
 .exact wpAny_loadName_local I.ok.kind hk hn hm go
 .rcases hk with hk|hk
  .exact wpAny_loadName_cell I.ok.kind hk hc ϳ go
  .rcases hx with k|k
   .have:X.env.scope.names.lookup x=some .free:=hk;rw[k]at this;cases this
   .have:X.env.scope.names.lookup x=some .free:=hk;rw[k]at this;cases this
def Js(to ti te:TE)(aaT:V->V->Hp->VK->Prop)(tip:TIp)(aaU:Fz):TS:=λD σ H=>to σ H λo H1=>ti σ H1 λi H2=>aaT o i H2 λx H3=>te σ H3 λy H4=>tip x y H4 λz H5=>aaU o i z H5 λH6=>D.nx σ H6
def Uq(X:Cx)(t:V->V->Hp->VK->Prop):Prop:=∀(pins:List (Addr×Obj))(s:Shared)(σ:St)(H:Hp)(o i:V)(ov iv:Value)(Q:VK),Inv X pins σ H s->RelV o ov->RelV i iv->t o i H Q->wpAny (model X.prog X.w) X.A (getItem ov iv) (EP X pins σ Q) X.xe s
theorem Ro{o i e:Expr}{to ti te:TE}{aaT:V->V->Hp->VK->Prop}{tip:TIp}{aaU:Fz}{op:Operator}{Ge:Pos}(ho:PE X o to)(hi:PE X i ti)(hg:Uq X aaT)(he:PE X e te)(hp:PIp X op tip)(hs:PQ X aaU)(ha:∀ov iv new,augStore i ov iv new=(do holding [new,ov,iv] (setItem ov iv new);release [new,ov,iv] [];pure .next):=by intros;rfl):PS X (.AugAssign (.Subscript o i Ge) op e pos) (Js to ti te aaT tip aaU):=by
 intro pins s σ H D I h;refine wpAny_AugAssign_SubscriptAny (d5 (ho pins s σ H _ I h) λov s1 x1 H1 I1 r1 q1=>?_) ha;refine d5 (hi pins s1 σ H1 _ I1 q1) λiv s2 x2 H2 I2 r2 q2=>?_;refine Ψ (hg pins s2 σ H2 x1 x2 ov iv _ I2 r1 r2 q2) λold s3 ⟨x3,H3,I3,r3,q3⟩=>?_;refine d5 (he pins s3 σ H3 _ I3 q3) λv s4 x4 H4 I4 r4 q4=>?_;refine Ψ (hp pins s4 σ H4 x3 x4 old v _ I4 r3 r4 q4) λnew s5 ⟨x5,H5,I5,r5,q5⟩=>?_;exact Ψ (hs pins s5 σ H5 x1 x2 x5 ov iv new _ I5 r1 r2 r5 q5) λ_ s6 ⟨H6,I6,q6⟩=>⟨σ,H6,I6,q6⟩
def ipI(f:Int->Int->Int):TIp:=λx y H Q=>∃i j,x=.int i/\y=.int j/\Q (.int (f i j)) H
theorem xQ:PIp X .Add (ipI λi j=>i+j):=by
 intro pins s σ H x y v u Q I r1 r2 h;obtain⟨i,j,e1,e2,q⟩:=h;subst e1;subst e2;obtain⟨t,rfl⟩:=r1;obtain⟨t',rfl⟩:=r2;exact iadd_int ⟨.int _,H,I.tok _,⟨_,rfl⟩,q⟩
theorem Gk:PIp X .Sub (ipI λi j=>i-j):=by
 intro pins s σ H x y v u Q I r1 r2 h;obtain⟨i,j,e1,e2,q⟩:=h;subst e1;subst e2;obtain⟨t,rfl⟩:=r1;obtain⟨t',rfl⟩:=r2;exact isub_int ⟨.int _,H,I.tok _,⟨_,rfl⟩,q⟩
end
section
variable{X:Cx}{pos:Pos}
def Fw(c:TT)(tb:TS):TS:=λD σ H=>∃W:Nat->St->Hp->Prop,(∃m,W m σ H)/\∀m σ H,W m σ H->c σ H λb H1=>if b=true then ∃N:St->Hp->Prop,(∀σ' H',N σ' H'->∃m',m'<m/\W m' σ' H')/\tb { D with nx:=N,ct:=N,bk:=D.nx } σ H1 else D.nx σ H1
theorem qK{c:Expr}{body:List Stmt}{tc:TT}{tb:TS}(hp:PassesOwn (model X.prog X.w) X.A X.env X.xe)(hc:PT X c tc)(hb:Y0 X body tb):PS X (.While c body [] pos) (Fw tc tb):=by
 intro pins s σ H D I h;obtain⟨W,⟨m0,w0⟩,turn⟩:=h;refine wpAny_While (codeAny_whileLoop (λn s'=>∃σ' H',Inv X pins σ' H' s'/\W n σ' H') ?_ m0 ⟨σ,H,I,w0⟩);rintro n s1 ⟨σ1,H1,I1,w1⟩;refine fj hp (CU (hc pins s1 σ1 H1 _ I1 (turn n σ1 H1 w1)) λb s2 H2 I2 q2=>?_);cases b with
 | true=>
   obtain⟨N,hN,q2⟩:=q2;rw[aj rfl];refine fj hp (Ψ (hb pins s2 σ1 H2 _ I2 q2) λf s3 q3=>?_);cases f with
   | next=>
     obtain⟨σ3,H3,I3,n3⟩:=q3;obtain⟨m',hm,w3⟩:=hN σ3 H3 n3;exact⟨m',hm,σ3,H3,I3,w3⟩
   | cont=>
     obtain⟨σ3,H3,I3,n3⟩:=q3;obtain⟨m',hm,w3⟩:=hN σ3 H3 n3;exact⟨m',hm,σ3,H3,I3,w3⟩
   | brk=>exact q3
   | ret v=>exact q3
 | false=>
   rw[ag bh];exact fW ⟨σ1,H2,I2,q2⟩
end
structure It where
 go:Nat->Hp->Prop
 yld:Nat->Hp->V->Hp->Prop
 stop:Nat->Hp->Prop
def oV(X:Cx)(pins:List (Addr×Obj))(H:Hp)(b:Addr):Prop:=H b=none/\b≠X.env.locals/\b∉X.fs/\(b∈X.ex\/X.s₀.heap.objs.size<=b)/\(∀x c,X.env.cells.lookup x=some c->c≠b)/\∀p∈X.pn++pins,p.1≠b
theorem Inv.ZG{X:Cx}{pins:List (Addr×Obj)}{σ:St}{H H':Hp}{s:Shared}{b:Addr}(I:Inv X pins σ H s)(hb:s.heap.objs.size<=b)(hn:H' b=none):oV X pins H' b:=by
 refine⟨hn,eL (aW I.lt hb),I.aiy hb,.inr (aU I.sz hb),λx c e z=>?_,λp hp z=>?_⟩
 .obtain⟨v,q⟩:=I.cell x c e;exact absurd (aW q.lt (by rw[z];exact hb)) (cG _)
 .exact absurd (aW (aG (I.pin p hp).1) (by rw[z];exact hb)) (cG _)
structure Turn(P:Program)(w:World)(K:PySem.W.Frag)(tg:Expr)(J:It)(fp:List Addr)(it:Addr)(tn:Nat->Heap->Prop):Prop where
 mem:it∈fp
 obj:∀i h,tn i h->∀b∈fp,∃o,h.get? b=some o/\∀v,o.data≠.cell v
 keep:∀i h h',tn i h->(∀b∈fp,∀o,h.get? b=some o->h'.get? b=some o)->tn i h'
 item:∀(X:Cx),X.prog=P->X.w=w->X.K=K->X.calm=true->∀(i:Nat)(pins:List (Addr×Obj))(s:Shared)(σ:St)(H:Hp)(E:Value->Shared->Prop),Inv X pins σ H s->(∀b∈fp,oV X pins H b)->tn i s.heap->J.go i H->wpAny (model P w) X.A (pyNext (.ref it)) (λr s1=>∃u,r=some u/\wpAny (model P w) X.A (letOwnedTupleGo tg (.ref it) u) (λ_ s2=>∃x H',Inv X pins σ H' s2/\RelV x u/\J.yld i H x H'/\tn (i+1) s2.heap/\∀b∈fp,H' b=none) E s1) E s
 done:∀(X:Cx),X.prog=P->X.w=w->X.K=K->X.calm=true->∀(i:Nat)(pins:List (Addr×Obj))(s:Shared)(σ:St)(H:Hp)(E:Value->Shared->Prop),Inv X pins σ H s->(∀b∈fp,oV X pins H b)->tn i s.heap->J.stop i H->wpAny (model P w) X.A (pyNext (.ref it)) (λr s1=>r=none/\Inv X pins σ H s1) E s
 self:∀(A:Around)(i:Nat)(s:Shared)(Q:Value->Shared->Prop)(E:Value->Shared->Prop),tn i s.heap->Q (.ref it) s->wpAny (model P w) A (pyIter (.ref it)) Q E s
abbrev TI:=St->Hp->(It->Hp->Prop)->Prop
def PIE(X:Cx)(pins:List (Addr×Obj))(σ:St)(tg:Expr)(R:It->Hp->Prop)(itv:Value)(s2:Shared):Prop:=∃(it:Addr)(fp:List Addr)(tn:Nat->Heap->Prop)(J:It)(H':Hp),itv=.ref it/\Inv X pins σ H' s2/\Turn X.prog X.w X.K tg J fp it tn/\tn 0 s2.heap/\(∀b∈fp,oV X pins H' b)/\R J H'
def PI(X:Cx)(tg iter:Expr)(wi:TI):Prop:=∀(pins:List (Addr×Obj))(s:Shared)(σ:St)(H:Hp)(R:It->Hp->Prop),Inv X pins σ H s->wi σ H R->wpAny (model X.prog X.w) X.A (eval iter X.env) (λv s1=>wpAny (model X.prog X.w) X.A (pyIter v) (PIE X pins σ tg R) X.xe s1) X.xe s
theorem EF{M:Model}{A:Around}{E:Value->Shared->Prop}{s:Shared}{tg:Expr}{it:Addr}{u:Value}{o:Obj}{n:String}{vs:Array Value}{Q:Unit->Shared->Prop}(ho:s.heap.get? it=some o)(hc:o.cls=.type n)(hd:o.data=.fields vs)(hn:["enumerate","zip","dict_itemiterator","dict_reverseitemiterator","odict_iterator","itertools.zip_longest","itertools.pairwise"].contains n=false)(hQ:Q () s):wpAny M A (letOwnedTupleGo tg (.ref it) u) Q E s:=by
 unfold letOwnedTupleGo;cases tg<;>first
  | exact aR hQ
  | (cases u<;>first
   | exact aR hQ
   | (refine ak (wpAny_load ho ?_)
      rw[hc,hd];show wpAny M A (if(["enumerate","zip","dict_itemiterator","dict_reverseitemiterator","odict_iterator","itertools.zip_longest","itertools.pairwise"].contains n&&vs[0]?==some (rawInt _))=true then _ else _) Q E s;rw[ag (by intro h;rw[hn,iV]at h;cases h)];exact aR hQ))
def Itl(K:PySem.W.Frag)(a:Addr):It:=⟨λi H=>∃xs x,μ K H a xs/\xs[i]?=some x,λi H x H'=>H'=H/\∀xs,μ K H a xs->xs[i]?=some x,λi H=>∃xs,μ K H a xs/\xs.length<=i⟩
def Itt(K:PySem.W.Frag)(a:Addr):It:=⟨λi H=>∃xs x,Η K H a xs/\xs[i]?=some x,λi H x H'=>H'=H/\∀xs,Η K H a xs->xs[i]?=some x,λi H=>∃xs,Η K H a xs/\xs.length<=i⟩
def Itr(lo:Int)(n:Nat):It:=⟨λi _=>i<n,λi H x H'=>H'=H/\x=.int (lo+i),λi _=>n<=i⟩
theorem MC{P:Program}{w:World}{K:PySem.W.Frag}{tg:Expr}(a it:Addr):Turn P w K tg (Itl K a) [it] it (λi h=>h.IsListIter it a i) where
 mem:=by simp
 obj:=λi h st b hb=>by
  have e:b=it:=by simpa using hb
  subst e;obtain⟨o,e,c,d⟩:=st;exact⟨o,e,λv z=>by rw[d]at z;cases z⟩
 keep:=λi h h' st k=>st.at λo e=>k it (by simp) o e
 item:=by
  intro X hP hw hK hc i pins s σ H E I hf st hg;subst hP hw hK;obtain⟨xs,x,hq,hx⟩:=hg;obtain⟨its,rv,p,hz⟩:=I.list hq;obtain⟨u,hu,ru⟩:=rv.get hx;obtain⟨f0,f1,f2,f3,f4,f5⟩:=hf it (by simp);refine wpAny_pyNext_list_item st p.isList (x:=u) (by simpa using hu) λh' Yz sb=>?_;have I1:Inv X pins σ H { s with heap:=h' }:=I.turned (t':=s.toks) (λb o hb e=>(sb.2 b hb).trans e) f0 f1 f3 f4 f5;obtain⟨o,e,c,d⟩:=id Yz;exact⟨u,rfl,EF (s:={ s with heap:=h' }) e c d (by decide) ⟨x,H,I1,ru,⟨rfl,λys hy=>by rw[I.bY hy hq];exact hx⟩,Yz,λb hb=>(hf b hb).1⟩⟩
 done:=by
  intro X hP hw hK hc i pins s σ H E I hf st hg;subst hP hw hK;obtain⟨xs,hq,hx⟩:=hg;obtain⟨its,rv,p,hz⟩:=I.list hq;obtain⟨f0,f1,f2,f3,f4,f5⟩:=hf it (by simp);have hl:=rv.length;exact wpAny_pyNext_list_end (I.ok.hd hc) st p.isList (by simp;lia) λh' eb=>⟨rfl,I.turned (t':=s.toks) (λb o hb e=>eb b o hb e) f0 f1 f3 f4 f5⟩
 self:=λ_ _ _ _ _ st h=>wpAny_pyIter_listiter st h
theorem Kp{P:Program}{w:World}{K:PySem.W.Frag}{tg:Expr}(a it:Addr):Turn P w K tg (Itt K a) [it] it (λi h=>h.IsTupleIter it a i) where
 mem:=by simp
 obj:=λi h st b hb=>by
  have e:b=it:=by simpa using hb
  subst e;obtain⟨o,e,c,d⟩:=st;exact⟨o,e,λv z=>by rw[d]at z;cases z⟩
 keep:=λi h h' st k=>st.at λo e=>k it (by simp) o e
 item:=by
  intro X hP hw hK hc i pins s σ H E I hf st hg;subst hP hw hK;obtain⟨xs,x,hq,hx⟩:=hg;obtain⟨its,rv,p,hz⟩:=I.tuple hq;obtain⟨u,hu,ru⟩:=rv.get hx;obtain⟨f0,f1,f2,f3,f4,f5⟩:=hf it (by simp);refine wpAny_pyNext_tuple_item st (show s.heap.IsTuple a its.toArray from p) (x:=u) (by simpa using hu) λh' Yz sb=>?_;have I1:Inv X pins σ H { s with heap:=h' }:=I.turned (t':=s.toks) (λb o hb e=>(sb.2 b hb).trans e) f0 f1 f3 f4 f5;obtain⟨o,e,c,d⟩:=id Yz;exact⟨u,rfl,EF (s:={ s with heap:=h' }) e c d (by decide) ⟨x,H,I1,ru,⟨rfl,λys hy=>by rw[I.XY hy hq];exact hx⟩,Yz,λb hb=>(hf b hb).1⟩⟩
 done:=by
  intro X hP hw hK hc i pins s σ H E I hf st hg;subst hP hw hK;obtain⟨xs,hq,hx⟩:=hg;obtain⟨its,rv,p,hz⟩:=I.tuple hq;obtain⟨f0,f1,f2,f3,f4,f5⟩:=hf it (by simp);have hl:=rv.length;exact wpAny_pyNext_tuple_end (I.ok.hd hc) st (show s.heap.IsTuple a its.toArray from p) (by simp;lia) λh' eb=>⟨rfl,I.turned (t':=s.toks) (λb o hb e=>eb b o hb e) f0 f1 f3 f4 f5⟩
 self:=λ_ _ _ _ _ st h=>wpAny_pyIter_tupleiter st h
theorem K5{P:Program}{w:World}{K:PySem.W.Frag}{tg:Expr}(it:Addr)(lo:Int)(n:Nat):Turn P w K tg (Itr lo n) [it] it (λi h=>IsRangeIter h it (lo+(i:Nat)*1) ((n:Int)-(i:Nat)) 1) where
 mem:=by simp
 obj:=λi h st b hb=>by
  have e:b=it:=by simpa using hb
  subst e;exact⟨_,st,λv z=>by
   have z':Data.fields _=Data.cell v:=z;cases z'⟩
 keep:=λi h h' st k=>k it (by simp) _ st
 item:=by
  intro X hP hw hK hc i pins s σ H E I hf st hg;subst hP hw hK;obtain⟨f0,f1,f2,f3,f4,f5⟩:=hf it (by simp);have W:=Walks.range (prog:=X.prog) (w:=X.w) (I.ok.hd hc) it lo 1 n;refine W.item i s _ _ hg st λv h' tk hv Yz kk=>?_;obtain⟨t,rfl⟩:=hv;have I1:Inv X pins σ H { s with heap:=h',toks:=tk }:=I.turned (λb o hb e=>kk b o (by simpa using hb) e) f0 f1 f3 f4 f5;refine⟨_,rfl,EF (s:={ s with heap:=h',toks:=tk }) (n:="range_iterator") Yz rfl rfl (by decide) ⟨.int (lo+i),H,I1,⟨t,?_⟩,⟨rfl,rfl⟩,Yz,λb hb=>(hf b hb).1⟩⟩;rw[iw]
 done:=by
  intro X hP hw hK hc i pins s σ H E I hf st hg;subst hP hw hK;obtain⟨f0,f1,f2,f3,f4,f5⟩:=hf it (by simp);exact wpAny_pyNext_range_end (I.ok.hd hc) st (by have:n<=i:=hg;lia) λh' eb=>⟨rfl,I.turned (t':=s.toks) (λb o hb e=>eb b o hb e) f0 f1 f3 f4 f5⟩
 self:=λ_ _ _ _ _ st h=>wpAny_pyIter_rangeiter st h
section
variable{X:Cx}{tg:Expr}
def K0(K:PySem.W.Frag)(tl:TE):TI:=λσ H R=>tl σ H λx H1=>∃a,x=.ref a/\(∃xs,μ K H1 a xs)/\R (Itl K a) H1
def OZ(K:PySem.W.Frag)(tl:TE):TI:=λσ H R=>tl σ H λx H1=>∃a,x=.ref a/\(∃xs,Η K H1 a xs)/\R (Itt K a) H1
theorem hG{l:Expr}{tl:TE}(hl:PE X l tl):PI X tg l (K0 X.K tl):=by
 intro pins s σ H R I h;refine d5 (hl pins s σ H _ I h) λv s1 x H1 I1 r1 q1=>?_;obtain⟨a,e,⟨xs,hq⟩,q⟩:=q1;subst e;cases r1;obtain⟨its,rv,p,hz⟩:=I1.list hq;refine gm p.isList ?_;refine⟨s1.heap.objs.size,[s1.heap.objs.size],_,_,H1,rfl,I1.kept (t':=s1.toks) λb o e=>aw _ e,MC a _,⟨_,ba _ rfl,rfl,rfl⟩,λb hb=>?_,q⟩;have e:b=s1.heap.objs.size:=by simpa using hb
 subst e;exact I1.ZG (aA _) (I1.τ.fresh (aA _))
theorem xC{l:Expr}{tl:TE}(hl:PE X l tl):PI X tg l (OZ X.K tl):=by
 intro pins s σ H R I h;refine d5 (hl pins s σ H _ I h) λv s1 x H1 I1 r1 q1=>?_;obtain⟨a,e,⟨xs,hq⟩,q⟩:=q1;subst e;cases r1;obtain⟨its,rv,p,hz⟩:=I1.tuple hq;refine j4 (show s1.heap.IsTuple a its.toArray from p) ?_;refine⟨s1.heap.objs.size,[s1.heap.objs.size],_,_,H1,rfl,I1.kept (t':=s1.toks) λb o e=>aw _ e,Kp a _,⟨_,ba _ rfl,rfl,rfl⟩,λb hb=>?_,q⟩;have e:b=s1.heap.objs.size:=by simpa using hb
 subst e;exact I1.ZG (aA _) (I1.τ.fresh (aA _))
theorem FE{pins:List (Addr×Obj)}{σ:St}{H:Hp}{s:Shared}{R:It->Hp->Prop}{E:Value->Shared->Prop}{lo hi:Int}{t u v:Tok}{tk:Nat}(I:Inv X pins σ H s)(h1:-(2^62)<=lo)(h2:lo<2^62)(h3:-(2^62)<=hi)(h4:hi<2^62)(q:R (Itr lo (hi-lo).toNat) H):wpAny (model X.prog X.w) X.A (pyIter (.ref s.heap.objs.size)) (PIE X pins σ tg R) E { s with heap:=s.heap.push { cls:=.type "range",data:=.fields #[.int lo t,.int hi u,.int 1 v] },toks:=tk }:=by
 refine wpAny_pyIter_range (IsRange.new ..) (small_one h1 h2 h3 h4) ?_;have I1:Inv X pins σ H { s with heap:=s.heap.push { cls:=.type "range",data:=.fields #[.int lo t,.int hi u,.int 1 v] },toks:=tk }:=I.kept λb o e=>aw _ e;refine⟨(s.heap.push { cls:=.type "range",data:=.fields #[.int lo t,.int hi u,.int 1 v] }).objs.size,[(s.heap.push { cls:=.type "range",data:=.fields #[.int lo t,.int hi u,.int 1 v] }).objs.size],_,_,H,rfl,I1.kept (t':=tk) λb o e=>aw _ e,K5 _ lo (hi-lo).toNat,?_,λb hb=>?_,q⟩
 .have e1:lo+((0:Nat):Int)*1=lo:=by simp
  have e2:(((hi-lo).toNat:Nat):Int)-((0:Nat):Int)=Builtin.Range.rangeSize lo hi 1:=by rw[rangeSize_one];split<;>lia
  show IsRangeIter _ _ (lo+((0:Nat):Int)*1) ((((hi-lo).toNat:Nat):Int)-((0:Nat):Int)) 1;rw[e1,e2];exact ba _ rfl
 .have e:b=(s.heap.push { cls:=.type "range",data:=.fields #[.int lo t,.int hi u,.int 1 v] }).objs.size:=by simpa using hb
  subst e;exact I1.ZG (aA _) (I1.τ.fresh (aA _))
def KQ(ta:TA):TI:=λσ H R=>ta σ H λvs H1=>∃j:Int,vs=[.int j]/\-(2^62)<=j/\j<2^62/\R (Itr 0 j.toNat) H1
def JY(ta:TA):TI:=λσ H R=>ta σ H λvs H1=>∃i j:Int,vs=[.int i,.int j]/\(-(2^62)<=i/\i<2^62/\-(2^62)<=j/\j<2^62)/\R (Itr i (j-i).toNat) H1
theorem kZ{a:Expr}{ta:TA}{p pos:Pos}(hg:Gl X "range")(hm:X.mg "range"=none)(ha:PA X [a] ta)(hs:starEach [a] X.env=[(false,eval a X.env)]:=by rfl):PI X tg (.Call (.Name "range" p) [a] [] pos) (KQ ta):=by
 intro pins s σ H R I h;refine Call_ (nI I hg hm boot_range (cD (rL (ha pos pins s σ H _ I h) λus s1 vs H1 I1 r1 q1=>?_) hs rfl));obtain⟨j,e,q1,q2,q⟩:=q1;subst e;cases r1 with
 | cons r rr=>
   cases rr;obtain⟨t,rfl⟩:=r;exact call_range_1 (FE I1 (by lia) (by lia) q1 q2 (by simpa using q))
theorem Mw{a b:Expr}{ta:TA}{p pos:Pos}(hg:Gl X "range")(hm:X.mg "range"=none)(ha:PA X [a,b] ta)(hs:starEach [a,b] X.env=[(false,eval a X.env),(false,eval b X.env)]:=by rfl)(hs2:starEach [b] X.env=[(false,eval b X.env)]:=by rfl):PI X tg (.Call (.Name "range" p) [a,b] [] pos) (JY ta):=by
 intro pins s σ H R I h;refine Call_ (nI I hg hm boot_range (cD (rL (ha pos pins s σ H _ I h) λus s1 vs H1 I1 r1 q1=>?_) (by rw[hs,hs2]) (by rw[hs2];rfl)));obtain⟨i,j,e,⟨q1,q2,q3,q4⟩,q⟩:=q1;subst e;cases r1 with
 | cons r rr=>
   cases rr with
   | cons r' rr=>
     cases rr;obtain⟨t,rfl⟩:=r;obtain⟨t',rfl⟩:=r';exact call_range_2 (FE I1 q1 q2 q3 q4 q)
def Sd(wi:TI)(g:TG)(tb:TS):TS:=λD σ H=>wi σ H λJ H1=>∃W:Nat->Nat->St->Hp->Prop,(∃m,W 0 m σ H1)/\∀i m σ H,W i m σ H->(J.stop i H/\D.nx σ H)\/(J.go i H/\∃N:St->Hp->Prop,(∀σ' H',N σ' H'->∃m',m'<m/\W (i+1) m' σ' H')/\∀x H',J.yld i H x H'->g x σ H' λσ2 H2=>tb { D with nx:=N,ct:=N,bk:=D.nx } σ2 H2)
def ve(fp:List Addr)(h:Heap):List (Addr×Obj):=fp.filterMap λb=>(h.get? b).map λo=>(b,o)
theorem nR{fp:List Addr}{h:Heap}{b:Addr}{o:Obj}(hb:b∈fp)(e:h.get? b=some o):(b,o)∈ve fp h:=List.mem_filterMap.mpr ⟨b,hb,by rw[e];rfl⟩
theorem LD{fp:List Addr}{h:Heap}{p:Addr×Obj}(hp:p∈ve fp h):p.1∈fp/\h.get? p.1=some p.2:=by
 obtain⟨b,hb,e⟩:=List.mem_filterMap.mp hp;cases q:h.get? b with
 | none=>rw[q]at e;cases e
 | some o=>
   rw[q]at e;have e':(b,o)=p:=bq e;subst e';exact⟨hb,q⟩
theorem Inv.pinned{pins:List (Addr×Obj)}{σ:St}{H:Hp}{s:Shared}{fp:List Addr}(I:Inv X pins σ H s)(hf:∀b∈fp,oV X pins H b)(ho:∀b∈fp,∃o,s.heap.get? b=some o/\∀v,o.data≠.cell v):Inv X (pins++ve fp s.heap) σ H s:=I.Zk λp hp=>(bc.mp hp).elim (λz=>I.pin p (aY _ z)) λz=>by
 obtain⟨hb,e⟩:=LD z;obtain⟨f0,f1,f2,_⟩:=hf p.1 hb;obtain⟨o,e',d⟩:=ho p.1 hb;rw[e]at e';cases e';exact⟨e,f0,f1,f2,d⟩
theorem Inv.Ϧ{pins pl:List (Addr×Obj)}{σ:St}{H:Hp}{s:Shared}(I:Inv X (pins++pl) σ H s):Inv X pins σ H s:=I.Zk λp hp=>I.pin p (aY _ (bo _ hp))
theorem eZ{iter:Expr}{body:List Stmt}{wi:TI}{g:TG}{tb:TS}{pos:Pos}(hp:PassesOwn (model X.prog X.w) X.A X.env X.xe)(hc:X.calm=true)(hi:PI X tg iter wi)(hg:PG X tg g)(hb:Y0 X body tb)(hs:∀x,foldedSetIterable iter X.env x=pure x:=by intro _;rfl):PS X (.For tg iter body [] pos) (Sd wi g tb):=by
 intro pins s σ H D I h;refine wpAny_For (Ψ (hi pins s σ H _ I h) λv s1 h1=>Ψ h1 λitv s2 h2=>?_) hs;obtain⟨it,fp,tn,J,H2,e,I2,T,ZC,f2,W,⟨m0,w0⟩,turn⟩:=h2;subst e;have stat:∀{H':Hp},(∀b∈fp,H' b=none)->∀b∈fp,oV X pins H' b:=λhn b hb=>⟨hn b hb,(f2 b hb).2⟩;refine codeAny_forLoop_any (λn s'=>∃i σ' H',Inv X pins σ' H' s'/\tn i s'.heap/\(∀b∈fp,H' b=none)/\W i n σ' H') ?_ m0 ⟨0,σ,H2,I2,ZC,λb hb=>(f2 b hb).1,w0⟩;rintro n s3 ⟨i,σ3,H3,I3,st3,fr3,w3⟩;rcases turn i n σ3 H3 w3 with⟨stop,qn⟩|⟨go,N,hN,step⟩
 .refine fj hp (Ψ (T.done X rfl rfl rfl hc i pins s3 σ3 H3 X.xe I3 (stat fr3) st3 stop) λr s4 ⟨hr,I4⟩=>?_);subst hr;exact fW ⟨σ3,H3,I4,qn⟩
 .refine fj hp (Ψ (T.item X rfl rfl rfl hc i pins s3 σ3 H3 X.xe I3 (stat fr3) st3 go) λr s4 ⟨u,hr,h4⟩=>?_);subst hr;refine fj hp (Ψ h4 λ_ s5 ⟨x,H5,I5,r5,y5,st5,fr5⟩=>?_);have I5':=I5.pinned (stat fr5) (T.obj _ _ st5);refine fj hp (Ψ (hg _ s5 σ3 H5 x u _ I5' r5 (step x H5 y5)) λ_ s6 ⟨σ6,H6,I6,q6⟩=>?_);refine fj hp (Ψ (hb _ s6 σ6 H6 _ I6 q6) λf s7 q7=>?_);have again:∀{σ7:St}{H7:Hp},Inv X (pins++ve fp s5.heap) σ7 H7 s7->N σ7 H7->∃m,m<n/\∃i σ' H',Inv X pins σ' H' s7/\tn i s7.heap/\(∀b∈fp,H' b=none)/\W i m σ' H':=λ{σ7 H7} I7 n7=>by
   obtain⟨m',hm,w7⟩:=hN σ7 H7 n7;refine⟨m',hm,i+1,σ7,H7,I7.Ϧ,T.keep _ _ _ st5 λb hb o e=>(I7.pin (b,o) (aY _ (aY _ (nR hb e)))).1,λb hb=>?_,w7⟩;obtain⟨o,e,d⟩:=T.obj _ _ st5 b hb;exact(I7.pin (b,o) (aY _ (aY _ (nR hb e)))).2.1
  cases f with
  | next=>obtain⟨σ7,H7,I7,n7⟩:=q7;exact again I7 n7
  | cont=>obtain⟨σ7,H7,I7,n7⟩:=q7;exact again I7 n7
  | brk=>obtain⟨σ7,H7,I7,q7⟩:=q7;exact⟨σ7,H7,I7.Ϧ,q7⟩
  | ret v=>obtain⟨x7,σ7,H7,I7,r7,q7⟩:=q7;exact⟨x7,σ7,H7,I7.Ϧ,r7,q7⟩
end
theorem Qb{K:PySem.W.Frag}{a:Addr}{xs:List V}{g:TG}{tb:TS}{D:Ends}{σ:St}{H:Hp}(Pv:Nat->St->Hp->Prop)(h0:Pv 0 σ H)(hl:∀i σ H,i<=xs.length->Pv i σ H->μ K H a xs)(hs:∀i x σ H,xs[i]?=some x->Pv i σ H->g x σ H λσ2 H2=>tb { D with nx:=Pv (i+1),ct:=Pv (i+1),bk:=D.nx } σ2 H2)(hd:∀σ H,Pv xs.length σ H->D.nx σ H):∃W:Nat->Nat->St->Hp->Prop,(∃m,W 0 m σ H)/\∀i m σ H,W i m σ H->((Itl K a).stop i H/\D.nx σ H)\/((Itl K a).go i H/\∃N:St->Hp->Prop,(∀σ' H',N σ' H'->∃m',m'<m/\W (i+1) m' σ' H')/\∀x H',(Itl K a).yld i H x H'->g x σ H' λσ2 H2=>tb { D with nx:=N,ct:=N,bk:=D.nx } σ2 H2):=by
 refine⟨λi m σ H=>m=xs.length-i/\i<=xs.length/\Pv i σ H,⟨xs.length,by simp,bz _,h0⟩,?_⟩;rintro i m σ H ⟨rfl,hi,p⟩;have q:=hl i σ H hi p;by_cases Χ:i<xs.length
 .refine .inr ⟨⟨xs,xs[i],q,by simp[Χ]⟩,Pv (i+1),λσ' H' p'=>⟨xs.length-(i+1),by lia,rfl,Χ,p'⟩,λx H' y=>?_⟩;obtain⟨e,y⟩:=y;subst e;exact hs i x σ _ (y xs q) p
 .have e:i=xs.length:=by lia
  subst e;exact .inl ⟨⟨xs,q,aA _⟩,hd σ H p⟩
theorem Cn{K:PySem.W.Frag}{a:Addr}{xs:List V}{g:TG}{tb:TS}{D:Ends}{σ:St}{H:Hp}(Pv:Nat->St->Hp->Prop)(h0:Pv 0 σ H)(hl:∀i σ H,i<=xs.length->Pv i σ H->Η K H a xs)(hs:∀i x σ H,xs[i]?=some x->Pv i σ H->g x σ H λσ2 H2=>tb { D with nx:=Pv (i+1),ct:=Pv (i+1),bk:=D.nx } σ2 H2)(hd:∀σ H,Pv xs.length σ H->D.nx σ H):∃W:Nat->Nat->St->Hp->Prop,(∃m,W 0 m σ H)/\∀i m σ H,W i m σ H->((Itt K a).stop i H/\D.nx σ H)\/((Itt K a).go i H/\∃N:St->Hp->Prop,(∀σ' H',N σ' H'->∃m',m'<m/\W (i+1) m' σ' H')/\∀x H',(Itt K a).yld i H x H'->g x σ H' λσ2 H2=>tb { D with nx:=N,ct:=N,bk:=D.nx } σ2 H2):=by
 refine⟨λi m σ H=>m=xs.length-i/\i<=xs.length/\Pv i σ H,⟨xs.length,by simp,bz _,h0⟩,?_⟩;rintro i m σ H ⟨rfl,hi,p⟩;have q:=hl i σ H hi p;by_cases Χ:i<xs.length
 .refine .inr ⟨⟨xs,xs[i],q,by simp[Χ]⟩,Pv (i+1),λσ' H' p'=>⟨xs.length-(i+1),by lia,rfl,Χ,p'⟩,λx H' y=>?_⟩;obtain⟨e,y⟩:=y;subst e;exact hs i x σ _ (y xs q) p
 .have e:i=xs.length:=by lia
  subst e;exact .inl ⟨⟨xs,q,aA _⟩,hd σ H p⟩
theorem L9{lo:Int}{n:Nat}{g:TG}{tb:TS}{D:Ends}{σ:St}{H:Hp}(Pv:Nat->St->Hp->Prop)(h0:Pv 0 σ H)(hs:∀i σ H,i<n->Pv i σ H->g (.int (lo+i)) σ H λσ2 H2=>tb { D with nx:=Pv (i+1),ct:=Pv (i+1),bk:=D.nx } σ2 H2)(hd:∀σ H,Pv n σ H->D.nx σ H):∃W:Nat->Nat->St->Hp->Prop,(∃m,W 0 m σ H)/\∀i m σ H,W i m σ H->((Itr lo n).stop i H/\D.nx σ H)\/((Itr lo n).go i H/\∃N:St->Hp->Prop,(∀σ' H',N σ' H'->∃m',m'<m/\W (i+1) m' σ' H')/\∀x H',(Itr lo n).yld i H x H'->g x σ H' λσ2 H2=>tb { D with nx:=N,ct:=N,bk:=D.nx } σ2 H2):=by
 refine⟨λi m σ H=>m=n-i/\i<=n/\Pv i σ H,⟨n,by simp,bz _,h0⟩,?_⟩;rintro i m σ H ⟨rfl,hi,p⟩;by_cases Χ:i<n
 .refine .inr ⟨Χ,Pv (i+1),λσ' H' p'=>⟨n-(i+1),by lia,rfl,Χ,p'⟩,λx H' y=>?_⟩;obtain⟨e,y⟩:=y;subst e y;exact hs i σ _ Χ p
 .have e:i=n:=by lia
  subst e;exact .inl ⟨aA _,hd σ H p⟩
abbrev R2:=V->V->Hp->VK->Prop
def ϸ(X:Cx)(f:Value->Value->Sem Value)(r:R2):Prop:=∀(pins:List (Addr×Obj))(s:Shared)(σ:St)(H:Hp)(x y:V)(v u:Value)(Q:VK),Inv X pins σ H s->RelV x v->RelV y u->r x y H Q->wpAny (model X.prog X.w) X.A (f v u) (EP X pins σ Q) X.xe s
def UnR(X:Cx)(f:Value->Sem Value)(r:V->Hp->VK->Prop):Prop:=∀(pins:List (Addr×Obj))(s:Shared)(σ:St)(H:Hp)(x:V)(v:Value)(Q:VK),Inv X pins σ H s->RelV x v->r x H Q->wpAny (model X.prog X.w) X.A (f v) (EP X pins σ Q) X.xe s
def kR(X:Cx)(f:Value)(r:List V->Hp->VK->Prop):Prop:=∀(pins:List (Addr×Obj))(s:Shared)(σ:St)(H:Hp)(xs:List V)(us:List Value)(Q:VK),Inv X pins σ H s->Vals xs us->r xs H Q->wpAny (model X.prog X.w) X.A (call f us) (EP X pins σ Q) X.xe s
def Wp(X:Cx)(r:V->Hp->(Bool->Hp->Prop)->Prop):Prop:=∀(pins:List (Addr×Obj))(s:Shared)(σ:St)(H:Hp)(x:V)(v:Value)(Q:Bool->Hp->Prop),Inv X pins σ H s->RelV x v->r x H Q->wpAny (model X.prog X.w) X.A (truthy v) (TP X pins σ Q) X.xe s
def tOp(r:R2)(ta tb:TE):TE:=λσ H Q=>ta σ H λx H1=>tb σ H1 λy H2=>r x y H2 Q
def tUn(r:V->Hp->VK->Prop)(ta:TE):TE:=λσ H Q=>ta σ H λx H1=>r x H1 Q
def rI(C:Int->Int->Prop)(g:Int->Int->V):R2:=λx y H Q=>∃i j,x=.int i/\y=.int j/\C i j/\Q (g i j) H
def rI0(g:Int->Int->V):R2:=λx y H Q=>∃i j,x=.int i/\y=.int j/\Q (g i j) H
def rU(g:Int->V):V->Hp->VK->Prop:=λx H Q=>∃i,x=.int i/\Q (g i) H
section
variable{X:Cx}{a b c:Expr}{ta tb tc:TE}{pos:Pos}
theorem Ow(ha:PE X a ta)(hb:PE X b tb){pins:List (Addr×Obj)}{s:Shared}{σ:St}{H:Hp}{R:V->V->Hp->Prop}(I:Inv X pins σ H s)(h:ta σ H λx H1=>tb σ H1 λy H2=>R x y H2){Q:Value->Shared->Prop}{f:Value->Value->Sem Value}(hf:∀v u s2 x y H2,Inv X pins σ H2 s2->RelV x v->RelV y u->R x y H2->wpAny (model X.prog X.w) X.A (f v u) Q X.xe s2):wpAny (model X.prog X.w) X.A (eval a X.env) (λv s₁=>wpAny (model X.prog X.w) X.A (eval b X.env) (λu s₂=>wpAny (model X.prog X.w) X.A (f v u) Q X.xe s₂) X.xe s₁) X.xe s:=by
 refine d5 (ha pins s σ H _ I h) λv s1 x H1 I1 r1 q1=>?_;refine d5 (hb pins s1 σ H1 _ I1 q1) λu s2 y H2 I2 r2 q2=>?_;exact hf v u s2 x y H2 I2 r1 r2 q2
theorem aX{op:Operator}{r:R2}(ho:ϸ X (binaryOp op) r)(ha:PE X a ta)(hb:PE X b tb):PE X (.BinOp a op b pos) (tOp r ta tb):=by
 intro pins s σ H Q I h;exact wpAny_BinOp (Ow ha hb I h λv u s2 x y H2 I2 rx ry q=>ho pins s2 σ H2 x y v u Q I2 rx ry q)
theorem qM{op:UnaryOp}{r:V->Hp->VK->Prop}(ho:UnR X (unaryOp op) r)(ha:PE X a ta):PE X (.UnaryOp op a pos) (tUn r ta):=by
 intro pins s σ H Q I h;exact UnaryOp_ (d5 (ha pins s σ H _ I h) λv s1 x H1 I1 r1 q1=>ho pins s1 σ H1 x v Q I1 r1 q1)
theorem opI{f:Value->Value->Sem Value}{C:Int->Int->Prop}{g:Int->Int->Int}(rule:∀(i j:Int) (t u:Tok) (s:Shared) (Q:Value->Shared->Prop) (E:Value->Shared->Prop),C i j->Q (.int (g i j) s.toks) { s with toks:=s.toks+1 }->wpAny (model X.prog X.w) X.A (f (.int i t) (.int j u)) Q E s):ϸ X f (rI C λi j=>.int (g i j)):=by
 intro pins s σ H x y v u Q I rx ry h;obtain⟨i,j,rfl,rfl,hc,q⟩:=h;obtain⟨t,rfl⟩:=rx;obtain⟨t',rfl⟩:=ry;exact rule i j t t' s _ _ hc ⟨.int (g i j),H,I.tok _,⟨_,rfl⟩,q⟩
theorem Sg{f:Value->Value->Sem Value}{g:Int->Int->Int}(rule:∀(i j:Int) (t u:Tok) (s:Shared) (Q:Value->Shared->Prop) (E:Value->Shared->Prop),Q (.int (g i j) s.toks) { s with toks:=s.toks+1 }->wpAny (model X.prog X.w) X.A (f (.int i t) (.int j u)) Q E s):ϸ X f (rI0 λi j=>.int (g i j)):=by
 intro pins s σ H x y v u Q I rx ry h;obtain⟨i,j,rfl,rfl,q⟩:=h;obtain⟨t,rfl⟩:=rx;obtain⟨t',rfl⟩:=ry;exact rule i j t t' s _ _ ⟨.int (g i j),H,I.tok _,⟨_,rfl⟩,q⟩
theorem Ka{f:Value->Value->Sem Value}{g:Int->Int->Bool}(rule:∀(i j:Int) (t u:Tok) (s:Shared) (Q:Value->Shared->Prop) (E:Value->Shared->Prop),Q (.bool (g i j)) s->wpAny (model X.prog X.w) X.A (f (.int i t) (.int j u)) Q E s):ϸ X f (rI0 λi j=>.bl (g i j)):=by
 intro pins s σ H x y v u Q I rx ry h;obtain⟨i,j,rfl,rfl,q⟩:=h;obtain⟨t,rfl⟩:=rx;obtain⟨t',rfl⟩:=ry;exact rule i j t t' s _ _ ⟨.bl (g i j),H,I,rfl,q⟩
def Ur(i j:Int):Prop:=0<j/\j<1073741824
def NQ(i j:Int):Prop:=0<=j/\j<=1000000/\i.natAbs<2^64
def XM(i j:Int):Prop:=(-(2^64)<i/\i<2^64)\/(-(2^64)<j/\j<2^64)
theorem XM.ok{i j:Int}(h:XM i j):IntMulOk i j:=by
 rcases h with⟨h1,h2⟩|⟨h1,h2⟩
 .exact .of_left (intBits_le_64 h1 h2)
 .exact .of_right (intBits_le_64 h1 h2)
theorem dN:ϸ X (binaryOp .Add) (rI0 λi j=>.int (i+j)):=Sg λ_ _ _ _ _ _ _ q=>add_int q
theorem fH:ϸ X (binaryOp .Sub) (rI0 λi j=>.int (i-j)):=Sg λ_ _ _ _ _ _ _ q=>sub_int q
theorem kH:ϸ X (binaryOp .Mult) (rI XM λi j=>.int (i*j)):=opI λ_ _ _ _ _ _ _ hc q=>mul_int q hc.ok
theorem eG:ϸ X (binaryOp .FloorDiv) (rI Ur λi j=>.int (i/j)):=opI λi j _ _ _ _ _ hc q=>by
 have h1:(0:Int)<j:=hc.1;have h2:j<1073741824:=hc.2;exact floordiv_int (by lia) (by rw[kE i (by lia)];exact q) (.inl (PyProof.noPylong_small (by lia)))
theorem dR:ϸ X (binaryOp .Mod) (rI (λ_ j=>0<j) λi j=>.int (i%j)):=opI λi j _ _ _ _ _ hc q=>by
 have h1:(0:Int)<j:=hc;exact mod_int' (by lia) (by rw[Int.fmod_eq_emod_of_nonneg i (by lia)];exact q)
theorem rh:ϸ X (binaryOp .Pow) (rI NQ λi j=>.int (i^j.toNat)):=opI λ_ _ _ _ _ _ _ hc q=>pow_int_small hc.1 hc.2.1 hc.2.2 q
theorem unI{f:Value->Sem Value}{g:Int->Int}(rule:∀(i:Int) (t:Tok) (s:Shared) (Q:Value->Shared->Prop) (E:Value->Shared->Prop),Q (.int (g i) s.toks) { s with toks:=s.toks+1 }->wpAny (model X.prog X.w) X.A (f (.int i t)) Q E s):UnR X f (rU λi=>.int (g i)):=by
 intro pins s σ H x v Q I rx h;obtain⟨i,rfl,q⟩:=h;obtain⟨t,rfl⟩:=rx;exact rule i t s _ _ ⟨.int (g i),H,I.tok _,⟨_,rfl⟩,q⟩
theorem oB:UnR X (unaryOp .USub) (rU λi=>.int (-i)):=unI λ_ _ _ _ _ q=>neg_int q
end
def pP:V->V->Bool
 | .ο,.ο=>true|.ο,.int _=>true|.int _,.ο=>true|.ο,.bl _=>true|.bl _,.ο=>true|.ο,.str _=>true|.str _,.ο=>true
 | .int _,.int _=>true|.bl _,.bl _=>true|.str _,.str _=>true|.YY _,.YY _=>true
 | .int _,.str _=>true|.str _,.int _=>true|.bl _,.str _=>true|.str _,.bl _=>true
 | _,_=>false
def rEq:R2:=λx y H Q=>pP x y=true/\Q (.bl (decide (x=y))) H
def rNe:R2:=λx y H Q=>pP x y=true/\Q (.bl (!decide (x=y))) H
theorem IG{i j:Int}:decide (V.int i=V.int j)=(i==j):=by
 rw[gD];simp
theorem Mf{i j:Bool}:decide (V.bl i=V.bl j)=(i==j):=by
 rw[gD];simp
theorem IJ{i j:Str}:decide (V.str i=V.str j)=(i==j):=by
 rw[gD];simp
theorem Iw{i j:Array UInt8}:decide (V.YY i=V.YY j)=(i.toList==j.toList):=by
 rw[gD];cases i;cases j;simp
section
variable{X:Cx}{a b c:Expr}{ta tb tc:TE}{pos:Pos}
theorem eP{pins:List (Addr×Obj)}{σ:St}{H:Hp}{s:Shared}{Q:VK}{k k':Bool}(I:Inv X pins σ H s)(q:Q (.bl k) H)(e:k=k'):EP X pins σ Q (.bool k') s:=by
 subst e;exact⟨.bl k,H,I,rfl,q⟩
theorem gc:ϸ X (compareOp .Eq) rEq:=by
 intro pins s σ H x y v u Q I rx ry h;obtain⟨hs,q⟩:=h;cases x with
 | ο=>
   cases rx;cases y with
   | ο=>cases ry;exact PySem.EqNone.eq_none_none (eP I q (by simp))
   | bl j=>cases ry;exact PySem.EqNone.eq_none_bool (eP I q (by simp))
   | int j=>obtain⟨t',rfl⟩:=ry;exact PySem.EqNone.eq_none_int (eP I q (by simp))
   | str j=>obtain⟨t',rfl⟩:=ry;exact PySem.EqNone.eq_none_str (eP I q (by simp))
   | _=>exact absurd (show false=true from hs) bh
 | bl i=>
   cases rx;cases y with
   | ο=>cases ry;exact PySem.EqNone.eq_bool_none (eP I q (by simp))
   | bl j=>cases ry;exact eq_bool (eP I q Mf)
   | str j=>obtain⟨t',rfl⟩:=ry;exact PySem.EqMixed.eq_bool_str (eP I q (by simp))
   | _=>exact absurd (show false=true from hs) bh
 | int i=>
   obtain⟨t,rfl⟩:=rx;cases y with
   | ο=>cases ry;exact PySem.EqNone.eq_int_none (eP I q (by simp))
   | int j=>obtain⟨t',rfl⟩:=ry;exact eq_int (eP I q IG)
   | str j=>obtain⟨t',rfl⟩:=ry;exact PySem.EqMixed.eq_int_str (eP I q (by simp))
   | _=>exact absurd (show false=true from hs) bh
 | str i=>
   obtain⟨t,rfl⟩:=rx;cases y with
   | ο=>cases ry;exact PySem.EqNone.eq_str_none (eP I q (by simp))
   | bl j=>cases ry;exact PySem.EqMixed.eq_str_bool (eP I q (by simp))
   | int j=>obtain⟨t',rfl⟩:=ry;exact PySem.EqMixed.eq_str_int (eP I q (by simp))
   | str j=>obtain⟨t',rfl⟩:=ry;exact eq_str (eP I q IJ)
   | _=>exact absurd (show false=true from hs) bh
 | YY i=>
   obtain⟨t,rfl⟩:=rx;cases y with
   | YY j=>obtain⟨t',rfl⟩:=ry;exact PySem.W.eq_bytes (eP I q Iw)
   | _=>exact absurd (show false=true from hs) bh
 | _=>cases y<;>exact absurd (show false=true from hs) bh
theorem sG:ϸ X (compareOp .NotEq) rNe:=by
 intro pins s σ H x y v u Q I rx ry h;obtain⟨hs,q⟩:=h;cases x with
 | ο=>
   cases rx;cases y with
   | ο=>cases ry;exact PySem.EqNone.ne_none_none (eP I q (by simp))
   | bl j=>cases ry;exact PySem.EqNone.ne_none_bool (eP I q (by simp))
   | int j=>obtain⟨t',rfl⟩:=ry;exact PySem.EqNone.ne_none_int (eP I q (by simp))
   | str j=>obtain⟨t',rfl⟩:=ry;exact PySem.EqNone.ne_none_str (eP I q (by simp))
   | _=>exact absurd (show false=true from hs) bh
 | bl i=>
   cases rx;cases y with
   | ο=>cases ry;exact PySem.EqNone.ne_bool_none (eP I q (by simp))
   | bl j=>cases ry;exact ne_bool (eP I q (congrArg not Mf))
   | str j=>obtain⟨t',rfl⟩:=ry;exact PySem.EqMixed.ne_bool_str (eP I q (by simp))
   | _=>exact absurd (show false=true from hs) bh
 | int i=>
   obtain⟨t,rfl⟩:=rx;cases y with
   | ο=>cases ry;exact PySem.EqNone.ne_int_none (eP I q (by simp))
   | int j=>obtain⟨t',rfl⟩:=ry;exact ne_int (eP I q (congrArg not IG))
   | str j=>obtain⟨t',rfl⟩:=ry;exact PySem.EqMixed.ne_int_str (eP I q (by simp))
   | _=>exact absurd (show false=true from hs) bh
 | str i=>
   obtain⟨t,rfl⟩:=rx;cases y with
   | ο=>cases ry;exact PySem.EqNone.ne_str_none (eP I q (by simp))
   | bl j=>cases ry;exact PySem.EqMixed.ne_str_bool (eP I q (by simp))
   | int j=>obtain⟨t',rfl⟩:=ry;exact PySem.EqMixed.ne_str_int (eP I q (by simp))
   | str j=>obtain⟨t',rfl⟩:=ry;exact ne_str (eP I q (congrArg not IJ))
   | _=>exact absurd (show false=true from hs) bh
 | YY i=>
   obtain⟨t,rfl⟩:=rx;cases y with
   | YY j=>obtain⟨t',rfl⟩:=ry;exact PySem.W.ne_bytes (eP I q (congrArg not Iw))
   | _=>exact absurd (show false=true from hs) bh
 | _=>cases y<;>exact absurd (show false=true from hs) bh
theorem pJ:ϸ X (compareOp .Lt) (rI0 λi j=>.bl (decide (i<j))):=Ka λ_ _ _ _ _ _ _ q=>lt_int q
theorem we:ϸ X (compareOp .LtE) (rI0 λi j=>.bl (decide (i<=j))):=Ka λ_ _ _ _ _ _ _ q=>le_int q
theorem ED:ϸ X (compareOp .Gt) (rI0 λi j=>.bl (decide (j<i))):=Ka λ_ _ _ _ _ _ _ q=>gt_int q
theorem KD:ϸ X (compareOp .GtE) (rI0 λi j=>.bl (decide (j<=i))):=Ka λ_ _ _ _ _ _ _ q=>ge_int q
theorem oC(b:Expr){op:CmpOp}(h:op≠.In:=by decide)(h2:op≠.NotIn:=by decide):behindInMarks op b=false:=by
 have e1:(op==CmpOp.In)=false:=by cases op<;>first|rfl|exact absurd rfl h
 have e2:(op==CmpOp.NotIn)=false:=by cases op<;>first|rfl|exact absurd rfl h2
 cases b<;>simp[behindInMarks,e1,e2]
theorem qJ{op:CmpOp}{r:R2}(ho:ϸ X (compareOp op) r)(ha:PE X a ta)(hb:PE X b tb)(hm:behindInMarks op b=false):PE X (.Compare a [op] [b] pos) (tOp r ta tb):=by
 intro pins s σ H Q I h;exact wpAny_Compare1 (Ow ha hb I h λv u s2 x y H2 I2 rx ry q=>ho pins s2 σ H2 x y v u Q I2 rx ry q) hm
def BQ(t:TE):TT:=λσ H Q=>t σ H λx H'=>∃k,x=.bl k/\Q k H'
theorem sK{op:CmpOp}{r:R2}(ho:ϸ X (compareOp op) r)(ha:PE X a ta)(hb:PE X b tb)(hm:behindInMarks op b=false):PT X (.Compare a [op] [b] pos) (BQ (tOp r ta tb)):=by
 intro pins s σ H Q I h;refine wpAny_isTrue_Compare1 (d5 (ha pins s σ H _ I h) λv s1 x H1 I1 r1 q1=>d5 (hb pins s1 σ H1 _ I1 q1) λu s2 y H2 I2 r2 q2=>
  d5 (ho pins s2 σ H2 x y v u _ I2 r1 r2 q2) λc s3 z H3 I3 r3 ⟨k,e,q3⟩=>?_) hm
 subst e;cases r3;exact c9 ⟨H3,I3,q3⟩
def BU(r r':R2)(ta tb tc:TE):TE:=λσ H Q=>ta σ H λx H1=>tb σ H1 λy H2=>r x y H2 λz H3=>∃k,z=.bl k/\(if k=true then tc σ H3 λw' H4=>r' y w' H4 Q else Q (.bl false) H3)
theorem Qq{op op':CmpOp}{r r':R2}(ho:ϸ X (compareOp op) r)(Yx:ϸ X (compareOp op') r')(ha:PE X a ta)(hb:PE X b tb)(hc:PE X c tc)(hm:lastMarks [op,op'] [b,c]=false:=by with_unfolding_all rfl):PE X (.Compare a [op,op'] [b,c] pos) (BU r r' ta tb tc):=by
 intro pins s σ H Q I h;refine Compare_chain (d5 (ha pins s σ H _ I h) λv s1 x H1 I1 r1 q1=>chain_link (d5 (hb pins s1 σ H1 _ I1 q1) λu s2 y H2 I2 r2 q2=>
  d5 (ho pins s2 σ H2 x y v u _ I2 r1 r2 q2) λd s3 z H3 I3 r3 ⟨k,e,q3⟩=>?_)) hm
 subst e;cases r3;refine c9 ?_;cases k with
 | false=>exact ite_ff ⟨.bl false,H3,I3,rfl,q3⟩
 | true=>exact ite_tt (chain_last (Ψ (hc pins s3 σ H3 _ I3 q3) λw' s4 ⟨z',H4,I4,r4,q4⟩=>Yx pins s4 σ H4 y z' u w' Q I4 r2 r4 q4))
theorem zY{op op':CmpOp}{r r':R2}(ho:ϸ X (compareOp op) r)(Yx:ϸ X (compareOp op') r')(ha:PE X a ta)(hb:PE X b tb)(hc:PE X c tc)(hm:lastMarks [op,op'] [b,c]=false:=by with_unfolding_all rfl):PT X (.Compare a [op,op'] [b,c] pos) (BQ (BU r r' ta tb tc)):=by
 intro pins s σ H Q I h;refine isTrue_chain (d5 (ha pins s σ H _ I h) λv s1 x H1 I1 r1 q1=>test_link (d5 (hb pins s1 σ H1 _ I1 q1) λu s2 y H2 I2 r2 q2=>
  d5 (ho pins s2 σ H2 x y v u _ I2 r1 r2 q2) λd s3 z H3 I3 r3 ⟨k,e,q3⟩=>?_)) hm
 subst e;cases r3;refine c9 ?_;cases k with
 | false=>
   obtain⟨k',e',q'⟩:=q3;cases e';exact ite_ff ⟨H3,I3,q'⟩
 | true=>
   refine ite_tt (test_last (Ψ (hc pins s3 σ H3 _ I3 q3) λw' s4 ⟨z',H4,I4,r4,q4⟩=>Ψ (Yx pins s4 σ H4 y z' u w' _ I4 r2 r4 q4) λd' s5 ⟨z2,H5,I5,r5,k2,e2,q5⟩=>?_));subst e2;cases r5;exact c9 ⟨H5,I5,q5⟩
def Ol(K:PySem.W.Frag)(x:V)(H:Hp)(k:Bool):Prop:=match x with
 | .ο=>k=false
 | .bl b=>k=b
 | .int i=>k=(i != 0)
 | .str y=>y.length<=sizeLine/\k=((y.length:Int) != 0)
 | .YY y=>y.size<=sizeLine/\k=((y.size:Int) != 0)
 | .ref p=>(∃xs,μ K H p xs/\k=!xs.isEmpty)\/(∃xs,Η K H p xs/\k=!xs.isEmpty)\/∃η,H p=some (.dK η)/\k=!η.isEmpty
 | _=>False
theorem Kl{κ:Type}{η:List (κ×V)}{vs:List (κ×Value)}(r:KV η vs):(!vs.isEmpty)=!η.isEmpty:=by
 cases r<;>rfl
theorem Bo{xs:List V}{its:List Value}(r:Vals xs its):(!its.toArray.isEmpty)=!xs.isEmpty:=by
 cases r<;>simp
theorem tQ:(sizeLine:Nat)<2^63:=by rw[sizeLine_eq];decide
theorem R1:Wp X (λx H Q=>∃k,Ol X.K x H k/\Q k H):=by
 intro pins s σ H x v Q I rx h;obtain⟨k,e,q⟩:=h;have hl:=tQ;have hs:sizeLine=16777216:=sizeLine_eq;cases x with
 | ο=>
   cases rx;have e':k=false:=e;subst e';exact truthy_none ⟨H,I,q⟩
 | bl b=>
   cases rx;have e':k=b:=e;subst e';exact c9 ⟨H,I,q⟩
 | int i=>
   obtain⟨t,rfl⟩:=rx;have e':k=(i != 0):=e;subst e';exact PySem.P.truthy_int ⟨H,I,q⟩
 | str y=>
   obtain⟨t,rfl⟩:=rx;obtain⟨hy,e'⟩:y.length<=sizeLine/\k=((y.length:Int) != 0):=e;subst e';exact PySem.P.truthy_str (by lia) ⟨H,I.tok _,q⟩
 | YY y=>
   obtain⟨t,rfl⟩:=rx;obtain⟨hy,e'⟩:y.size<=sizeLine/\k=((y.size:Int) != 0):=e;subst e';exact PySem.W.truthy_bytes (by lia) ⟨H,I.tok _,q⟩
 | ref p=>
   cases rx;have e':(∃xs,μ X.K H p xs/\k=!xs.isEmpty)\/(∃xs,Η X.K H p xs/\k=!xs.isEmpty)\/∃η,H p=some (.dK η)/\k=!η.isEmpty:=e;rcases e' with⟨xs,hx,e'⟩|⟨xs,hx,e'⟩|⟨η,hx,e'⟩
   .subst e';obtain⟨its,r,pl,hz⟩:=I.list hx;have hlen:=r.length;exact wpAny_truthy_list pl.isList (by simp only[aN];lia) ⟨H,I.tok _,by rw[Bo r];exact q⟩
   .subst e';obtain⟨its,r,pl,hz⟩:=I.tuple hx;have hlen:=r.length;exact truthy_tuple pl (by simp only[aN];lia) ⟨H,I.tok _,by rw[Bo r];exact q⟩
   .subst e';obtain⟨hz,hS,vs,r,m⟩:η.length<=sizeLine/\(p==sysModules)=false/\∃vs,KV η vs/\s.heap.DictOf (g6 X.prog X.w) p vs:=I.τ p _ hx;have hlen:η.length=vs.length:=Paired.length r;exact wpAny_truthy_dict hS m (by lia) ⟨H,I.tok _,by rw[Kl r];exact q⟩
 | _=>exact(show False from e).elim
theorem qm(ha:PE X a ta)(he:∀whole,isTrue a X.env whole=(do let v <-whole;standAt a.pos;holding [v] (truthy v))):PT X a (λσ H Q=>ta σ H λx H'=>∃k,Ol X.K x H' k/\Q k H'):=by
 intro pins s σ H Q I h;exact isTrue_plain (d5 (ha pins s σ H _ I h) λv s1 x H1 I1 r1 q1=>R1 pins s1 σ H1 x v Q I1 r1 q1) (he _)
theorem sy{x:V}{us:List Value}(r:Vals [x] us):∃u,us=[u]/\RelV x u:=by
 cases r with
 | cons r1 r2=>cases r2;exact⟨_,rfl,r1⟩
theorem EB{x y:V}{us:List Value}(r:Vals [x,y] us):∃u w',us=[u,w']/\RelV x u/\RelV y w':=by
 cases r with
 | cons r1 r2=>
   cases r2 with
   | cons r3 r4=>cases r4;exact⟨_,_,rfl,r1,r3⟩
theorem nA(hc:X.calm=true):kR X (.builtin "max") (λxs H Q=>∃i j,xs=[.int i,.int j]/\Q (.int (if j>i then j else i)) H):=by
 intro pins s σ H xs us Q I r h;obtain⟨i,j,rfl,q⟩:=h;obtain⟨u,w',rfl,⟨t,rfl⟩,⟨t',rfl⟩⟩:=EB r;refine max_two_ints (I.ok.hd hc) λh' tk k=>⟨_,H,I.kept k,?_,q⟩;by_cases hj:j>i
 .rw[aj hj,aj hj];exact⟨_,rfl⟩
 .rw[ag hj,ag hj];exact⟨_,rfl⟩
end
structure ZH(h:Heap)(x dx C:Addr)(mA:Str->Option Value):Prop where
 obj:h.get? x=some (PySem.W.instObj C dx)
 ns:h.Ns1 dx mA
 ne:dx≠x
theorem LS{h:Heap}{dx:Addr}{mA:Str->Option Value}(n:h.Ns1 dx mA):∃od,h.get? dx=some od/\∀name,PySem.W.lookIn name od=some (mA name):=by
 obtain⟨o,es,ep,ho,hd,hk,_,hm⟩:=n;refine⟨o,ho,λname=>?_⟩;have e:=hm name;unfold nsFind findBy at e;rw[<-Array.find?_toList]at e;unfold PySem.W.lookIn;rw[hd];dsimp only;split
 .rename_i y q
  rw[q]at e;exact congrArg some e
 .rename_i q
  rw[q]at e;have a:es.toList.any (·.refKey)=false:=by
   rw[List.any_eq_false];intro y hy;obtain⟨z,t,aiK⟩:=hk y (Array.mem_toList_iff.mp hy);simp[DictEntry.refKey,aiK]
  have a':¬es.toList.any (·.refKey)=true:=by rw[a];exact bh
  rw[ag a'];exact congrArg some e
theorem ZH.look{h:Heap}{x dx C:Addr}{mA:Str->Option Value}(I:ZH h x dx C mA):∃od,PySem.W.InstAt h x (PySem.W.instObj C dx) C (some od)/\∀name,PySem.W.lookIn name od=some (mA name):=let ⟨od,ho,hl⟩:=LS I.ns
 ⟨od,⟨I.obj,rfl,rfl,ho⟩,hl⟩
section
variable{prog:Program}{w:World}{A:Around}{E:Value->Shared->Prop}{s:Shared}{K:PySem.W.Frag}{x dx C f:Addr}{mA:Str->Option Value}{name:Str}{v:Value}
theorem Rp{expr:Bool}{Q:Value->Shared->Prop}(X:K.In s.heap)(I:ZH s.heap x dx C mA)(hg:PySem.W.plainGet K C name=true)(hh:PySem.W.hasDictIn K C=true)(ha:PySem.W.findIn K (.ref C) name=some none)(hv:mA name=some v)(Zm:PySem.W.handedIn v=true)(h:Q v { s with toks:=s.toks+1 }):wpAny (model prog w) A (getAttr (.ref x) name expr) Q E s:=by
 obtain⟨od,J,hl⟩:=I.look;exact PySem.W.get_value X J (PySem.W.plainGet_of hg).1 (PySem.W.findObj_own hh ha rfl (by rw[hl,hv])) Zm h
theorem Rm{ns:List Str}{Q:Unit->Shared->Prop}(X:K.In s.heap)(I:ZH s.heap x dx C mA)(hs:PySem.W.findIn K (.ref C) "__setattr__"=some (some (.builtin "object.__setattr__")))(hp:PySem.W.plainOver K C=true)(ht:PySem.W.takerIn K C name=some none)(hh:PySem.W.hasDictIn K C=true)(hw:PySem.Within mA ns)(hsz:ns.length<=sizeLine)(h:∀h',ZH h' x dx C (λy=>if y=name then some v else mA y)->Heap.SameBut dx s.heap h'->Q () { s with heap:=h',toks:=s.toks+2 }):wpAny (model prog w) A (setAttr (.ref x) name v) Q E s:=by
 obtain⟨od,J,hl⟩:=I.look;refine PySem.W.set_plain X J hs (PySem.W.osa_open (s:={ s with toks:=s.toks+1 }) (r:=none) X J hp ht λb=>?_);obtain⟨cd,hc,hd'⟩:=fM hh;have hx:s.heap.get? x=some ⟨.ref C,some dx,.plain,#[]⟩:=I.obj;refine ak (aR (ak (ak (lK hx (ak (PySem.W.Looks.here (s:={ s with toks:=s.toks+1 }) (PySem.W.looks_clsIn X hc) ?_))))));rw[hd'];refine aR (a:=some dx) (ak (aR (ak ?_)));refine wpAny_nsSet1 (s:={ s with toks:=s.toks+1 }) I.ns λh' hn2 hs2=>?_;obtain⟨oD,esD,epD,hoD,hdD,hcD⟩:=hn2.count (PySem.Within.cons name v hw);refine ak (wpAny_lookBehind hoD (by rw[hdD];exact pastItsLine_dict (aU hcD (by rw[aE];lia))) ?_);exact aR (h _ ⟨(hs2.2 _ (Ne.symm I.ne)).trans I.obj,hn2,I.ne⟩ hs2)
theorem Qu{R:Result->Shared->Prop}{vs:List Value}{kw:List (Str×Value)}(X:K.In s.heap)(hm:PySem.W.makesIn K C=true)(hi:PySem.W.findIn K (.ref C) "__init__"=some (some (.ref f)))(hf:PySem.W.typeIn K (.ref f)=some (.type "function"))(h:codeAny (model prog w) (A.under (.builtin "type.__call__" ⟨.ref C::vs,kw⟩)) (.call (.ref f) ⟨.ref (s.heap.objs.size+1)::vs,kw⟩) (PySem.W.InitBack (s.heap.objs.size+1) R)
 { s with heap:=(s.heap.push PySem.W.emptyDict).push (PySem.W.instObj C s.heap.objs.size) }):codeAny (model prog w) A (.call (.ref C) ⟨vs,kw⟩) R s:=by
 obtain⟨hh,g,d,t,os⟩:=s;exact PySem.W.make_core (PySem.W.makes_of X hm) (jw X hi) (λself=>PySem.W.bind_fn X self hf) (.inl rfl) h
end
def bx(f:Str)(v:V):List (Str×V)->List (Str×V)
 | []=>[(f,v)]
 | (g,x)::r=>if g=f then(g,v)::r else(g,x)::bx f v r
theorem cJ(f g:Str)(v:V):∀fs:List (Str×V),(bx f v fs).lookup g=if g=f then some v else fs.lookup g
 | []=>by
   show List.lookup g [(f,v)]=_;by_cases h:g=f
   .have hb:(g==f)=true:=jT.mpr h;simp only[List.lookup,hb,aj h]
   .have hb:(g==f)=false:=beq_eq_false_iff_ne.mpr h;simp only[List.lookup,hb,ag h]
 | (k,x)::r=>by
   have ih:=cJ f g v r;rw[show bx f v ((k,x)::r)=(if k=f then(k,v)::r else(k,x)::bx f v r)from rfl];by_cases hk:k=f
   .rw[aj hk];by_cases h:g=k
    .have hb:(g==k)=true:=jT.mpr h;simp only[List.lookup,hb,aj (h.trans hk)]
    .have hb:(g==k)=false:=beq_eq_false_iff_ne.mpr h;simp only[List.lookup,hb,ag (λe:g=f=>h (e.trans hk.symm))]
   .rw[ag hk];by_cases h:g=k
    .have hb:(g==k)=true:=jT.mpr h;simp only[List.lookup,hb,ag (λe:g=f=>hk (h.symm.trans e))]
    .have hb:(g==k)=false:=beq_eq_false_iff_ne.mpr h;simp only[List.lookup,hb];exact ih
theorem xx(f:Str)(v:V):∀fs:List (Str×V),f∈(bx f v fs).map (·.1)/\∀g,g∈fs.map (·.1)->g∈(bx f v fs).map (·.1)
 | []=>⟨by simp[bx],λg h=>by simp at h⟩
 | (k,x)::r=>by
   obtain⟨i1,i2⟩:=xx f v r;rw[show bx f v ((k,x)::r)=(if k=f then(k,v)::r else(k,x)::bx f v r)from rfl];by_cases hk:k=f
   .rw[aj hk];subst hk;exact⟨by simp,λg h=>by simpa using h⟩
   .rw[ag hk];refine⟨?_,λg h=>?_⟩
    .rw[aH];exact aI _ i1
    .rw[aH]at h ⊢;rcases ar.mp h with e|e
     .exact ar.mpr (.inl e)
     .exact aI _ (i2 g e)
theorem yP(f:Str)(v:V):∀fs:List (Str×V),(bx f v fs).length<=fs.length+1
 | []=>by simp[bx]
 | (k,x)::r=>by
   have ih:=yP f v r;rw[show bx f v ((k,x)::r)=(if k=f then(k,v)::r else(k,x)::bx f v r)from rfl];by_cases hk:k=f
   .rw[aj hk,aE,aE];lia
   .rw[ag hk,aE,aE];lia
theorem iF.some_of{v:V}{o:Option Value}(r:iF (some v) o):∃u,o=some u/\RelV v u:=by
 cases o with
 | none=>exact(show False from r).elim
 | some u=>exact⟨u,rfl,r⟩
theorem MB{v:V}{u:Value}(r:RelV v u):PySem.W.handedIn u=true:=by
 cases v with
 | ο=>cases(show u=Value.none from r);rfl
 | bl b=>cases(show u=Value.bool b from r);rfl
 | int i=>obtain⟨t,e⟩:=(show ∃t,u=Value.int i t from r);cases e;rfl
 | str x=>obtain⟨t,e⟩:=(show ∃t,u=Value.str x t from r);cases e;rfl
 | YY b=>obtain⟨t,e⟩:=(show ∃t,u=Value.bytes b t from r);cases e;rfl
 | flt b=>obtain⟨t,e⟩:=(show ∃t,u=Value.float b t from r);cases e;rfl
 | ref a=>cases(show u=Value.ref a from r);rfl
 | ty n=>cases(show u=Value.type n from r);rfl
section
variable{P:Program}{w:World}{H H':Hp}{h h':Heap}{a C dx:Addr}{fs fs':List (Str×V)}
theorem Iq(τ:Ϥ P w H h)(e:H a=some (.ins C dx fs)):∃mA,ZH h a dx C mA/\(∀f,iF (fs.lookup f) (mA f))/\PySem.Within mA (fs.map (·.1))/\fs.length<=1000/\H dx=some (.own a):=by
 obtain⟨d,z,ne,ob,mA,n,r,q⟩:=(show Γ P w H h a (.ins C dx fs)from τ a _ e);exact⟨mA,⟨ob,n,ne⟩,r,q,z,d⟩
end
structure Cls(K:PySem.W.Frag)(C:Addr):Prop where
 pg:PySem.W.plainGet K C Str.empty=true
 hd:PySem.W.hasDictIn K C=true
 po:PySem.W.plainOver K C=true
 sa:PySem.W.findIn K (.ref C) "__setattr__"=some (some (.builtin "object.__setattr__"))
theorem Cls.get{K:PySem.W.Frag}{C:Addr}(c:Cls K C)(f:Str):PySem.W.plainGet K C f=true:=c.pg
def Ν(K:PySem.W.Frag)(C:Addr)(f:Str):Prop:=PySem.W.findIn K (.ref C) f=some none
theorem Ν.aej{K:PySem.W.Frag}{C:Addr}{f:Str}(n:Ν K C f):PySem.W.takerIn K C f=some none:=by
 unfold PySem.W.takerIn;rw[show PySem.W.findIn K (.ref C) f=some none from n]
 rfl
section
variable{X:Cx}{pins:List (Addr×Obj)}{σ:St}{H:Hp}{s:Shared}{a C dx:Addr}{fs:List (Str×V)}{f:Str}{v:V}{A:Around}{E:Value->Shared->Prop}
theorem JW{b:Bool}{Q:Value->Shared->Prop}(I:Inv X pins σ H s)(e:H a=some (.ins C dx fs))(c:Cls X.K C)(n:Ν X.K C f)(l:fs.lookup f=some v)(h:∀u s',Inv X pins σ H s'->RelV v u->Q u s'):wpAny (model X.prog X.w) A (getAttr (.ref a) f b) Q E s:=by
 obtain⟨mA,O,r,_,_,_⟩:=Iq I.τ e;obtain⟨u,hu,ru⟩:=iF.some_of (v:=v) (o:=mA f) (by rw[<-l];exact r f);exact Rp I.YZ O (c.get f) c.hd n hu (MB ru) (h u _ (I.tok _) ru)
theorem JK{y:V}{u:Value}{Q:Unit->Shared->Prop}(I:Inv X pins σ H s)(e:H a=some (.ins C dx fs))(c:Cls X.K C)(n:Ν X.K C f)(hl:fs.length<1000)(ry:RelV y u)(h:∀s',Inv X pins σ (upd H a (.ins C dx (bx f y fs))) s'->Q () s'):wpAny (model X.prog X.w) A (setAttr (.ref a) f u) Q E s:=by
 obtain⟨mA,O,r,wi,_,ho⟩:=Iq I.τ e;have hz:(fs.map (·.1)).length<=sizeLine:=by rw[ah,sizeLine_eq];lia
 refine Rm I.YZ O c.sa c.po n.aej c.hd wi hz λh' O' sb=>h _ ?_;have hd:∃o,h'.get? dx=some o:=let ⟨o,_,_,e',_⟩:=O'.ns;⟨o,e'⟩;refine I.write (x:=a) (e:=dx) (by rw[e];exact True.intro) (.inr ho) (λb q hb z=>(sb.2 b hb).trans z) hd ?_;refine⟨by rw[aO O.ne];exact ho,?_,O.ne,O'.obj,_,O'.ns,λg=>?_,λg hg=>?_⟩
 .have:=yP f y fs;lia
 .show iF ((bx f y fs).lookup g) (if g=f then some u else mA g);rw[cJ];by_cases q:g=f
  .rw[aj q,aj q];exact ry
  .rw[ag q,ag q];exact r g
 .by_cases q:g=f
  .rw[q];exact(xx f y fs).1
  .refine(xx f y fs).2 g (wi g λz=>hg ?_);show(if g=f then some u else mA g)=none;rw[ag q];exact z
theorem Inv.made(I:Inv X pins σ H s):Inv X pins σ (upd (upd H s.heap.objs.size (.own (s.heap.objs.size+1))) (s.heap.objs.size+1) (.ins C s.heap.objs.size []))
 { s with heap:=(s.heap.push PySem.W.emptyDict).push (PySem.W.instObj C s.heap.objs.size) }:=by
 have e1:(s.heap.push PySem.W.emptyDict).get? s.heap.objs.size=some PySem.W.emptyDict:=ba s.heap rfl;have e2:((s.heap.push PySem.W.emptyDict).push (PySem.W.instObj C s.heap.objs.size)).get? (s.heap.objs.size+1)=some (PySem.W.instObj C s.heap.objs.size):=by
  have:=ba (s.heap.push PySem.W.emptyDict) (o:=PySem.W.instObj C s.heap.objs.size) rfl
  rwa [dF]at this
 have e3:(s.heap.push PySem.W.emptyDict).Ns s.heap.objs.size (λ_=>none):=⟨PySem.W.emptyDict,#[],_,e1,rfl,(λe he=>absurd he (by simp)),λ_=>rfl⟩;have I1:=I.laid (a:=s.heap.objs.size) (o:=.own (s.heap.objs.size+1)) (h':=s.heap.push PySem.W.emptyDict) (t':=s.toks) (λb u q=>aw _ q) (aA _) ⟨_,e1⟩;refine I1.laid (a:=s.heap.objs.size+1) (o:=.ins C s.heap.objs.size []) (t':=s.toks) (λb u q=>aw _ q) (mY (dF _ _)) ?_;have ne:s.heap.objs.size≠s.heap.objs.size+1:=aV (eU _);refine⟨by rw[aO ne,ax],bz _,ne,e2,λ_=>none,(Heap.Ns1.of_empty e3).at λo q=>aw _ q,λ_=>True.intro,λy hy=>absurd rfl hy⟩
theorem Q8{prog:Program}{w:World}{env:Env}{e:Expr}{f:Str}{pos:Pos}{s:Shared}{Q:Value->Shared->Prop}(hb:attributeBase e f env (eval e env)=eval e env)(h:wpAny (model prog w) A (eval e env) (λo s₁=>wpAny (model prog w) A (getAttr o f true) Q E s₁) E s):wpAny (model prog w) A (eval (.Attribute e f pos) env) Q E s:=Attribute_any_ h (by rw[arm_eval_Attribute,hb])
end
def Pt(K:PySem.W.Frag)(ta:TE)(f:Str):TE:=λσ H Q=>ta σ H λx H1=>∃a C dx fs v,x=.ref a/\H1 a=some (.ins C dx fs)/\Cls K C/\Ν K C f/\fs.lookup f=some v/\Q v H1
def M0(K:PySem.W.Frag)(ta tv:TE)(f:Str):TS:=λD σ H=>tv σ H λy H1=>ta σ H1 λx H2=>∃a C dx fs,x=.ref a/\H2 a=some (.ins C dx fs)/\Cls K C/\Ν K C f/\fs.length<1000/\D.nx σ (upd H2 a (.ins C dx (bx f y fs)))
section
variable{X:Cx}{o e value:Expr}{f:Str}{pos pos' Ge:Pos}{ta tv:TE}
theorem dB(he:PE X e ta)(hb:attributeBase e f X.env (eval e X.env)=eval e X.env):PE X (.Attribute e f pos) (Pt X.K ta f):=by
 intro pins s σ H Q I h;refine Q8 hb (d5 (he pins s σ H _ I h) λu s1 x H1 I1 rx ⟨a,C,dx,fs,v,ex,ea,c,n,l,q⟩=>?_);subst ex;obtain rfl:u=Value.ref a:=rx;exact JW I1 ea c n l λu' s2 I2 ru=>⟨v,H1,I2,ru,q⟩
theorem rg(ha:PE X o ta)(hv:PE X value tv)(hs:swapsWith value (some (.Attribute o f pos')) pos.line X.env=pure false):PS X (.Assign [.Attribute o f pos'] value pos) (M0 X.K ta tv f):=by
 intro pins s σ H D I h;refine plainObj_wpAny_Assign_Attribute (d5 (hv pins s σ H _ I h) λu s1 y H1 I1 ry q=>d5 (ha pins s1 σ H1 _ I1 q) λov s2 x H2 I2 rx ⟨a,C,dx,fs,ex,ea,c,n,l,q2⟩=>?_) hs;subst ex;obtain rfl:ov=Value.ref a:=rx;exact JK I2 ea c n l ry λs3 I3=>⟨σ,_,I3,q2⟩
end
structure Ι(k:Nat)(A:Around):Prop where
 hd:A.handled=none
 dp:A.depth+3*k+5<recursionLimit
 un:A.units+16*k+200<cLine
theorem Ι.mono{j k:Nat}{A:Around}(r:Ι k A)(h:j<=k):Ι j A:=⟨r.hd,by have:=r.dp;lia,by have:=r.un;lia⟩
theorem Ι.deeper{k:Nat}{A:Around}(r:Ι (k+1) A)(env:Env):Ι k (A.deeper env):=⟨r.hd,by have:=r.dp;show A.depth+1+3*k+5<_;lia,by have:=r.un;show A.units+3+16*k+200<_;lia⟩
theorem KS{A:Around}{C:Addr}{us:List Value}{kw:List (Str×Value)}:(A.under (.builtin "type.__call__" ⟨.ref C::us,kw⟩)).depth=A.depth+1:=by
 first|rfl|simp[Around.under,Code.weight,Code.isCreation,Code.isGuard,Code.isCaller,Code.frames,Code.isFrame,guardIds]
theorem Ju{A:Around}{C:Addr}{us:List Value}{kw:List (Str×Value)}:(A.under (.builtin "type.__call__" ⟨.ref C::us,kw⟩)).units=A.units+1:=by
 first|rfl|simp[Around.under,Code.cUnits,Code.frames,Code.isFrame]
theorem Ι.make{k:Nat}{A:Around}(r:Ι (k+1) A)(C:Addr)(us:List Value)(kw:List (Str×Value)):Ι k (A.under (.builtin "type.__call__" ⟨.ref C::us,kw⟩)):=⟨r.hd,by have:=r.dp;rw[KS];lia,by have:=r.un;rw[Ju];lia⟩
theorem Ι.depth{k:Nat}{A:Around}(r:Ι k A):A.depth<recursionLimit:=by have:=r.dp;lia
theorem Ι.units{k:Nat}{A:Around}(r:Ι k A):A.units+64<cLine:=by have:=r.un;lia
def aaW:TA:=λ_ H Q=>Q [] H
def EC(ta:TE)(tr:TA):TA:=λσ H Q=>ta σ H λx H1=>tr σ H1 λxs H2=>Q (x::xs) H2
section
variable{X:Cx}{e:Expr}{es:List Expr}{te:TE}{t:TA}{pos:Pos}
theorem ay:PA X [] aaW:=λ_ _ _ _ H Q I h=>gI ⟨[],H,I,.nil,h⟩
theorem aa(ha:PE X e te)(hr:PA X es t)(hs:starEach (e::es) X.env=(false,eval e X.env)::starEach es X.env:=by rfl):PA X (e::es) (EC te t):=by
 intro pos pins s σ H Q I h;rw[hs];show wpAny _ _ (spliced ((false,eval e X.env)::backTo pos (starEach es X.env))) _ _ s;refine gB (d5 (ha pins s σ H _ I h) λu s1 x H1 I1 r1 q1=>?_);exact rL (hr pos pins s1 σ H1 _ I1 q1) λus s2 xs H2 I2 r2 q2=>⟨x::xs,H2,I2,.cons r1 r2,q2⟩
def O8(t:TA):TE:=λσ H Q=>t σ H λxs H1=>xs.length<=sizeLine/\∀p,H1 p=none->Q (.ref p) (upd H1 p (.tup xs))
def PH(t:TA):TE:=λσ H Q=>t σ H λxs H1=>xs.length<=sizeLine/\∀p,H1 p=none->Q (.ref p) (upd H1 p (.lst xs))
theorem gS{x1}(h:PA X es t):PE X (.Tuple es x1 pos) (O8 t):=by
 intro pins s σ H Q I hq;refine wpAny_Tuple_spliced (rL (h pos pins s σ H _ I hq) λus s1 xs H1 I1 r ⟨z,q⟩=>⟨by rw[<-r.length];exact z,?_⟩);have hf:H1 s1.heap.objs.size=none:=I1.τ.fresh (aA _);refine⟨.ref s1.heap.objs.size,upd H1 s1.heap.objs.size (.tup xs),I1.laid (t':=s1.toks) (λb u e=>aw _ e) (aA _) ?_,rfl,q _ hf⟩;exact⟨z,us,r,⟨_,ba _ rfl,rfl,_,rfl⟩⟩
theorem eC(h:PA X es t):PE X (.List es pos) (PH t):=by
 intro pins s σ H Q I hq;refine wpAny_List_spliced (rL (h pos pins s σ H _ I hq) λus s1 xs H1 I1 r ⟨z,q⟩=>⟨by rw[<-r.length];exact z,?_⟩);have hf:H1 s1.heap.objs.size=none:=I1.τ.fresh (aA _);refine⟨.ref s1.heap.objs.size,upd H1 s1.heap.objs.size (.lst xs),I1.laid (t':=s1.toks) (λb u e=>aw _ e) (aA _) ?_,rfl,q _ hf⟩;exact⟨z,us,0,r,ba _ rfl⟩
end
abbrev Sp:=List V->Hp->VK->XK->Prop
abbrev nE:=List Env->Hp->Shared->XK->Value->Shared->Prop
structure Y2(P:Program)(w:World)(K:PySem.W.Frag)(mg:Str->Option Value)(base:Heap)(A:Around)(outer:List Env)(s:Shared)(H:Hp):Prop where
 frames:A.frames=some outer
 mod:Mod K mg base
 bs:∀b o,base.get? b=some o->s.heap.get? b=some o/\H b=none
 Z3:base.objs.size<=s.heap.objs.size
 Ϸ:s.heap.FunFrames base outer
 frf:∀b∈ϛ outer,H b=none
 τ:Ϥ P w H s.heap
 bare:AllBare s.gens
def CE(outer:List Env)(P:Program)(w:World)(H:Hp)(s:Shared)(Q:VK)(u:Value)(s':Shared):Prop:=∃v H',s'.os=s.os/\AllBare s'.gens/\Un (ϛ outer) [] H H' s.heap s'.heap/\Ϥ P w H' s'.heap/\RelV v u/\Q v H'
def CR(CX:nE)(outer:List Env)(P:Program)(w:World)(H:Hp)(s:Shared)(Q:VK)(E:XK)(r:Result)(s':Shared):Prop:=match r with
 | .ok (.ret u)=>CE outer P w H s Q u s'
 | .ok _=>False
 | .error e=>CX outer H s E e s'
structure Ω(P:Program)(w:World)(K:PySem.W.Frag)(mg:Str->Option Value)(base:Heap)(CX:nE)(k:Nat)(f:Addr)(fd:FuncData)(ps:List Str)(sp:Sp):Prop where
 len:∀vs H Q E,sp vs H Q E->vs.length=ps.length
 run:∀(A:Around)(outer:List Env)(s:Shared)(H:Hp)(args:Args)(us:List Value)(vs:List V)(Q:VK)(E:XK),Ι k A->Y2 P w K mg base A outer s H->BindsTo s fd args (ps.zip us)->Vals vs us->sp vs H Q E->codeAny (model P w) A (.call (.ref f) args) (CR CX outer P w H s Q E) s
theorem Y2.make{P:Program}{w:World}{K:PySem.W.Frag}{mg:Str->Option Value}{base:Heap}{A:Around}{outer:List Env}{s:Shared}{H:Hp}(e:Y2 P w K mg base A outer s H)(C:Addr)(us:List Value)(kw:List (Str×Value)):Y2 P w K mg base (A.under (.builtin "type.__call__" ⟨.ref C::us,kw⟩)) outer s H:=⟨by first|exact e.frames|(simpa[Around.under,Code.envs,Code.isFrame,pushEnvs]using e.frames),e.mod,e.bs,e.Z3,e.Ϸ,e.frf,e.τ,e.bare⟩
section
variable{X:Cx}{pins:List (Addr×Obj)}{σ:St}{H:Hp}{s s':Shared}
theorem Inv.acz(I:Inv X pins σ H s):Y2 X.prog X.w X.K X.mg X.base X.A X.stack s H:=⟨I.ok.frames,I.ok.mod,I.bs,aU I.ok.Z3 I.sz,I.stack,I.bV,I.τ,I.bare⟩
theorem Inv.after{Q:VK}{u:Value}(I:Inv X pins σ H s)(h:CE X.stack X.prog X.w H s Q u s'):EP X pins σ Q u s':=by
 obtain⟨v,H',os,bare,un,τ,r,q⟩:=h;obtain⟨hh,g,d,t,os'⟩:=s';obtain rfl:os'=s.os:=os;exact⟨v,H',I.call (h':=hh) (g':=g) (d':=d) (t':=t) (ch:=[]) un τ bare (λb z=>absurd z (by simp)),r,q⟩
end
def qL(sp:Sp)(XZ:List V)(E:XK)(t:TA):TE:=λσ H Q=>t σ H λvs H1=>sp (vs++XZ) H1 Q E
def La(C:Addr)(sp:Sp)(XZ:List V)(E:XK)(t:TA):TE:=λσ H Q=>t σ H λvs H1=>∀x dx,H1 x=none->H1 dx=none->dx≠x->sp (.ref x::(vs++XZ)) (upd (upd H1 dx (.own x)) x (.ins C dx [])) (λv H2=>v=.ο/\Q (.ref x) H2) E
def Binds(K:PySem.W.Frag)(fd:FuncData)(ps:List Str)(ds:List Value):Prop:=∀(s:Shared)(us:List Value),K.In s.heap->(us++ds).length=ps.length->BindsTo s fd ⟨us,[]⟩ (ps.zip (us++ds))
theorem Binds.all{K:PySem.W.Frag}{fd:FuncData}{ps:List Str}(h:∀us:List Value,us.length=ps.length->bindArgs fd ⟨us,[]⟩=pure (ps.zip us)):Binds K fd ps []:=λs us _ hl=>by
 rw[bX]at hl ⊢;exact .of_eq (h us hl)
def q9(CX:nE)(X:Cx)(E:XK):Prop:=∀(pins:List (Addr×Obj))(σ:St)(H:Hp)(s:Shared)(e:Value)(s':Shared),Inv X pins σ H s->CX X.stack H s E e s'->X.xe e s'
section
variable{X:Cx}{CX:nE}{k:Nat}{f C:Addr}{fd:FuncData}{ps:List Str}{sp:Sp}{XZ:List V}{ds:List Value}{E:XK}{x m:Str}{p pos apos:Pos}{e o:Expr}{es:List Expr}{ta:TE}{t:TA}
theorem U8{pins:List (Addr×Obj)}{σ:St}{H:Hp}{s:Shared}{Q:VK}{us:List Value}{vs:List V}(F:Ω X.prog X.w X.K X.mg X.base CX k f fd ps sp)(hr:Ι k X.A)(hb:Binds X.K fd ps ds)(hd:Vals XZ ds)(hx:q9 CX X E)(I:Inv X pins σ H s)(r:Vals vs us)(h:sp (vs++XZ) H Q E):wpAny (model X.prog X.w) X.A (call (.ref f) us) (EP X pins σ Q) X.xe s:=by
 have r2:Vals (vs++XZ) (us++ds):=r.append hd;have hl:(us++ds).length=ps.length:=by rw[<-r2.length];exact F.len _ _ _ _ h
 refine jV (iU (F.run X.A X.stack s H ⟨us,[]⟩ (us++ds) (vs++XZ) Q E hr I.acz (hb s us I.YZ hl) r2 h) λr s' hq=>?_);cases r with
 | error e=>exact hx pins σ H s e s' I hq
 | ok fl=>
   cases fl with
   | ret u=>exact I.after hq
   | next=>exact False.elim hq
   | brk=>exact False.elim hq
   | cont=>exact False.elim hq
theorem sM(F:Ω X.prog X.w X.K X.mg X.base CX k f fd ps sp)(hr:Ι k X.A)(hg:Gl X x)(hm:X.mg x=some (.ref f))(hk:PySem.W.keepIn X.K (.ref f)=true)(hb:Binds X.K fd ps ds)(hd:Vals XZ ds)(hx:q9 CX X E)(ha:PA X (e::es) t)(hdb:(x==("__debug__":Str))=false:=by decide)(he:starEach (e::es) X.env=(false,eval e X.env)::starEach es X.env:=by rfl)(ϡ:(backTo pos (starEach es X.env)).any (·.1)=false:=by rfl):PE X (.Call (.Name x p) (e::es) [] pos) (qL sp XZ E t):=by
 intro pins s σ H Q I h;refine fA (sL I hg hm ?_ hdb);refine j0 (h₀:=X.base) I.ok.mod.kin hk (rL (ha pos pins s σ H _ I h) λus s1 vs H1 I1 r q=>⟨I1.YZ,?_⟩) he ϡ;exact U8 F hr hb hd hx I1 r q
structure Mk(K:PySem.W.Frag)(C f:Addr):Prop where
 makes:PySem.W.makesIn K C=true
 init:PySem.W.findIn K (.ref C) "__init__"=some (some (.ref f))
 fn:PySem.W.isFn K (.ref f)=true
 kp:PySem.W.keepIn K (.ref C)=true
theorem Pz{pins:List (Addr×Obj)}{σ:St}{H:Hp}{s:Shared}{Q:VK}{us:List Value}{vs:List V}(M:Mk X.K C f)(F:Ω X.prog X.w X.K X.mg X.base CX k f fd ps sp)(hr:Ι (k+1) X.A)(hb:Binds X.K fd ps ds)(hd:Vals XZ ds)(hx:q9 CX X E)(I:Inv X pins σ H s)(r:Vals vs us)(h:∀x dx,H x=none->H dx=none->dx≠x->sp (.ref x::(vs++XZ)) (upd (upd H dx (.own x)) x (.ins C dx [])) (λv H2=>v=.ο/\Q (.ref x) H2) E):wpAny (model X.prog X.w) X.A (call (.ref C) us) (EP X pins σ Q) X.xe s:=by
 have hq:=h (s.heap.objs.size+1) s.heap.objs.size (I.τ.fresh (fe _)) (I.τ.fresh (aA _)) (aV (eU _));have I2:=Inv.made (C:=C) I;have r2:Vals (V.ref (s.heap.objs.size+1)::(vs++XZ)) (Value.ref (s.heap.objs.size+1)::(us++ds)):=.cons rfl (r.append hd);have hl:(Value.ref (s.heap.objs.size+1)::us++ds).length=ps.length:=by
  have e:=r2.length;rw[F.len _ _ _ _ hq]at e;exact e.symm
 refine jV (Qu (f:=f) I.YZ M.makes M.init (jT.mp M.fn) (iU (F.run _ X.stack _ _ ⟨Value.ref (s.heap.objs.size+1)::us,[]⟩ (Value.ref (s.heap.objs.size+1)::(us++ds)) _ _ E (hr.make C us [])
  (I2.acz.make C us []) (hb _ (Value.ref (s.heap.objs.size+1)::us) I2.YZ hl) r2 hq) λr s' Io=>?_))
 cases r with
 | error e=>exact hx pins σ _ _ e s' I2 Io
 | ok fl=>
   cases fl with
   | ret u=>
     obtain⟨v,H',I3,rv,ev,q3⟩:=I2.after Io;subst ev;exact⟨rv,⟨V.ref (s.heap.objs.size+1),H',I3,rfl,q3⟩⟩
   | next=>exact False.elim Io
   | brk=>exact False.elim Io
   | cont=>exact False.elim Io
theorem yo(M:Mk X.K C f)(F:Ω X.prog X.w X.K X.mg X.base CX k f fd ps sp)(hr:Ι (k+1) X.A)(hg:Gl X x)(hm:X.mg x=some (.ref C))(hb:Binds X.K fd ps ds)(hd:Vals XZ ds)(hx:q9 CX X E)(ha:PA X (e::es) t)(hdb:(x==("__debug__":Str))=false:=by decide)(he:starEach (e::es) X.env=(false,eval e X.env)::starEach es X.env:=by rfl)(ϡ:(backTo pos (starEach es X.env)).any (·.1)=false:=by rfl):PE X (.Call (.Name x p) (e::es) [] pos) (La C sp XZ E t):=by
 intro pins s σ H Q I h;refine fA (sL I hg hm ?_ hdb);refine j0 (h₀:=X.base) I.ok.mod.kin M.kp (rL (ha pos pins s σ H _ I h) λus s1 vs H1 I1 r q=>⟨I1.YZ,?_⟩) he ϡ;exact Pz M F hr hb hd hx I1 r q
end
def PK(X:Cx)(kws:List Keyword)(t:TA):Prop:=∀(pos:Pos)(pins:List (Addr×Obj))(s:Shared)(σ:St)(H:Hp)(Q:List V->Hp->Prop),Inv X pins σ H s->t σ H Q->wpAny (model X.prog X.w) X.A (evalAll ((backToKw pos (keywordEach kws X.env)).map (·.2))) (AP X pins σ Q) X.xe s
section
variable{X:Cx}{CX:nE}{k:Nat}{f C:Addr}{fd:FuncData}{ps ks:List Str}{sp:Sp}{E:XK}{x m:Str}{p pos apos aaX:Pos}{e o:Expr}{es:List Expr}{kws:List Keyword}{te ta:TE}{t tk:TA}{nm:Option Str}
theorem TR:PK X [] aaW:=λ_ _ _ _ H Q I h=>wpAny_evalAll_nil ⟨[],H,I,.nil,h⟩
theorem Rb(ha:PE X e te)(hr:PK X kws t):PK X (⟨nm,e,aaX⟩::kws) (EC te t):=by
 intro pos pins s σ H Q I h;show wpAny _ _ (evalAll ((do let v <-eval e X.env;standAt pos;pure v)::(backToKw pos (keywordEach kws X.env)).map (·.2))) _ _ s;refine wpAny_evalAll_cons (ak (d5 (ha pins s σ H _ I h) λu s1 x H1 I1 r1 q1=>ak (iu (aR ?_))));exact rL (hr pos pins s1 σ H1 _ I1 q1) λus s2 xs H2 I2 r2 q2=>⟨x::xs,H2,I2,.cons r1 r2,q2⟩
variable{g:List Value->List Value->List Value}{gV:List V->List V->List V}
end
structure ζ(N P:List Str)(sc:Scope):Prop where
 kind:sc.kind=.function
 co:sc.isCoroutine=false
 gen:sc.isGenerator=false
 nd:N.Nodup
 pre:N.take P.length=P
 par:∀x∈P,sc.names.lookup x=some .local\/sc.names.lookup x=some .cell
 acB:∀y∈sc.names,y.2≠.free
theorem Dl{kindOf:Str->Option NameKind}{x:Str}:∀{binds:List (Str×Value)}{m:Str->Option Value},(∀v,(x,v)∉binds)->bindL kindOf binds m x=m x
 | [],_,_=>rfl
 | (n,v)::r,m,h=>by
   unfold bindL;rw[Dl λw hw=>h w (aI _ hw)];split
   .have:x≠n:=(by rintro rfl;exact h v aK);simp[this]
   .rfl
theorem DM{kindOf:Str->Option NameKind}{x:Str}:∀{binds:List (Str×Value)}{m:Str->Option Value},(∀v,(x,v)∉binds)->bindC kindOf binds m x=m x
 | [],_,_=>rfl
 | (n,v)::r,m,h=>by
   unfold bindC;rw[DM λw hw=>h w (aI _ hw)];split
   .rfl
   .have:x≠n:=(by rintro rfl;exact h v aK);simp[this]
theorem DA{kindOf:Str->Option NameKind}{x:Str}{v:Value}:∀{P:List Str}{vs:List Value}{i:Nat}{m:Str->Option Value},P.Nodup->P[i]?=some x->vs[i]?=some v->kindOf x=some .local->bindL kindOf (P.zip vs) m x=some v
 | [],_,_,_,_,h,_,_=>by simp at h
 | _::_,[],_,_,_,_,h,_=>by simp at h
 | p::P,w::vs,0,m,nd,h1,h2,hk=>by
   simp at h1 h2;subst h1;subst h2;show bindL kindOf ((p,w)::P.zip vs) m p=_;unfold bindL;rw[Dl λv hv=>(bn.mp nd).1 (gQ hv).1,aj hk];simp
 | p::P,w::vs,i+1,m,nd,h1,h2,hk=>by
   show bindL kindOf ((p,w)::P.zip vs) m x=_;unfold bindL;exact DA (i:=i) (bn.mp nd).2 (by simpa using h1) (by simpa using h2) hk
theorem DE{kindOf:Str->Option NameKind}{x:Str}{v:Value}:∀{P:List Str}{vs:List Value}{i:Nat}{m:Str->Option Value},P.Nodup->P[i]?=some x->vs[i]?=some v->kindOf x≠some .local->bindC kindOf (P.zip vs) m x=some v
 | [],_,_,_,_,h,_,_=>by simp at h
 | _::_,[],_,_,_,_,h,_=>by simp at h
 | p::P,w::vs,0,m,nd,h1,h2,hk=>by
   simp at h1 h2;subst h1;subst h2;show bindC kindOf ((p,w)::P.zip vs) m p=_;unfold bindC;rw[DM λv hv=>(bn.mp nd).1 (gQ hv).1,ag hk];simp
 | p::P,w::vs,i+1,m,nd,h1,h2,hk=>by
   show bindC kindOf ((p,w)::P.zip vs) m x=_;unfold bindC;exact DE (i:=i) (bn.mp nd).2 (by simpa using h1) (by simpa using h2) hk
def start(N:List Str)(vs:List V):St:=vs.map some++List.replicate (N.length-vs.length) none
def rG(CX:nE)(P:Program)(w:World)(K:PySem.W.Frag)(mg:Str->Option Value)(base:Heap)(N:List Str)(qual:Str)(scope:Scope)(f:Addr)(cd:Value)(A:Around)(outer:List Env)(s:Shared)(H:Hp)(E:XK):Cx where
 prog:=P
 w:=w
 K:=K
 mg:=mg
 base:=base
 A:=A.deeper (envOfC qual scope s.heap.objs.size f cd)
 N:=N
 s₀:=s
 H₀:=H
 env:=envOfC qual scope s.heap.objs.size f cd
 outer:=outer
 stack:=envOfC qual scope s.heap.objs.size f cd::outer
 ex:=[]
 calm:=true
 fn:=λ_=>true
 pn:=[]
 xe:=λe s'=>wpAny (model P w) (A.deeper (envOfC qual scope s.heap.objs.size f cd)) (leaving (envOfC qual scope s.heap.objs.size f cd) e) (λ_ s''=>CX outer H s E e s'') (λe' s''=>CX outer H s E e' s'') s'
theorem Ah{sc:Scope}{n:Nat}{x:Str}(h:sc.names.lookup x=some .cell):∃c,(cellsFrom n sc.names []).lookup x=some c:=by
 have q:=lD sc.names n [] (.inl h);exact dU.mp q
theorem LF{CX:nE}{P:Program}{w:World}{K:PySem.W.Frag}{mg:Str->Option Value}{base:Heap}{N ps:List Str}{qual:Str}{scope:Scope}{f:Addr}{cd:Value}{A:Around}{outer:List Env}{s s1:Shared}{H:Hp}{E:XK}{us:List Value}{vs:List V}(S:ζ N ps scope)(hd:A.handled=none)(e0:Y2 P w K mg base A outer s H)(hl:vs.length=ps.length)(r:Vals vs us)(x:InCallC s s.heap.objs.size (bindL (envOfC qual scope s.heap.objs.size f cd).kindOf (ps.zip us) λ_=>none) (cellsFrom (s.heap.objs.size+1) scope.names []) (bindC (envOfC qual scope s.heap.objs.size f cd).kindOf (ps.zip us) λ_=>none) s1):Inv (rG CX P w K mg base N qual scope f cd A outer s H E) [] (start N vs) H s1:=by
 have ϡ:ps.length<=N.length:=by have:=congrArg List.length S.pre;rw[bd]at this;lia
 obtain⟨h1,tk,rfl,hk⟩:=x.done;have noA:∀b:Addr,b∉(rG CX P w K mg base N qual scope f cd A outer s H E).ex:=λb z=>absurd (show b∈([]:List Addr)from z) (by simp);refine⟨⟨e0.mod,S.kind,rfl,rfl,aA _,λy z c h1 h2=>?_,λy hy=>?_,λy c _ h=>?_,λ_=>hd,Around.frames_deeper e0.frames,.inr ⟨rfl,rfl⟩,λb z=>absurd z (noA b),e0.bs,e0.Z3,λb _ _=>noA b,λb z=>absurd z (noA b),e0.Ϸ,e0.frf⟩,rfl,e0.bare,Un.kept hk,⟨_,x.toInCall.ns,λi y v h1 h2 h3=>?_⟩,λy c h=>⟨_,x.cell y c h⟩,e0.τ.fresh (aA _),λy c h=>?_,λp hp=>absurd (show p∈([]:List (Addr×Obj))from hp) (by simp),e0.τ.kept hk,?_⟩
 .exact name_of_addr x.apart (dJ h1) (dJ h2)
 .have hy:scope.names.lookup y=some .cell\/scope.names.lookup y=some .free:=hy;rcases hy with hy|hy
  .exact Ah hy
  .exact absurd rfl (S.acB _ (dJ hy))
 .exact iP (x.above y c (dJ h))
 .have hi:i<vs.length:=by
   unfold start at h2;by_cases hi:i<vs.length
   .exact hi
   .rw[dc (by simpa using hi)]at h2;rw[d7]at h2;split at h2<;>cases h2
  have ha:vs[i]?=some v:=by
   unfold start at h2;rw[dA (by simpa using hi),aF]at h2;cases e:vs[i]? with
   | none=>rw[e]at h2;cases h2
   | some a=>rw[e]at h2;cases h2;rfl
  obtain⟨u,hu,rv⟩:=r.get ha;have hp:ps[i]?=some y:=by
   rw[<-S.pre,hZ (by lia)];exact h1
  have ndP:ps.Nodup:=by rw[<-S.pre];exact S.nd.sublist (List.take_sublist _ _)
  refine⟨u,rv,?_⟩;rcases S.par y (aM hp)with k|k
  .exact .inl ⟨k,DA ndP hp hu k⟩
  .obtain⟨c,e⟩:=Ah (n:=s.heap.objs.size+1) k;refine .inr ⟨.inl k,c,e,?_⟩;have q:=x.cell y c e;rw[DE ndP hp hu (by show scope.names.lookup y≠_;rw[k];decide)]at q;exact q
 .exact e0.τ.fresh (iP (x.above y c (dJ h)))
 .unfold start;show _=N.length;rw[aP,ah,bT]
  lia
theorem QF{CX:nE}{P:Program}{w:World}{K:PySem.W.Frag}{mg:Str->Option Value}{base:Heap}{k:Nat}{f:Addr}{name qual:Str}{params:Arguments}{body:List Stmt}{scope:Scope}{dV kV doc pm ς ct oc:Value}{an od:Option Addr}{osl:Array (Option Value)}{N ps:List Str}{sp:Sp}(lk:K.lookup f=some ⟨oc,od,.func (PySem.W.fnOf name qual params body scope dV kV doc pm an ς ct),osl⟩)(ZF:PySem.W.codeIn K ς qual=true)(S:ζ N ps scope)(len:∀vs H Q E,sp vs H Q E->vs.length=ps.length)(YB:∀(A:Around) (outer:List Env) (s:Shared) (H:Hp) (vs:List V) (Q:VK) (E:XK),Ι k (A.deeper (envOfC qual scope s.heap.objs.size f ς))->sp vs H Q E->∃t,Y0 (rG CX P w K mg base N qual scope f ς A outer s H E) body t/\t { nx:=λ_ H'=>Q .ο H',rt:=Q } (start N vs) H):Ω P w K mg base CX (k+1) f (PySem.W.fnOf name qual params body scope dV kV doc pm an ς ct) ps sp:=by
 refine⟨len,λA outer s H args us vs Q E hr e0 hb r hsp=>?_⟩;have hl:=len _ _ _ _ hsp;have KX:K.In s.heap:=e0.mod.kin.keeps λb o e=>(e0.bs b o e).1;have lim:s.heap.NoLimit:=e0.mod.nolimit.keeps λb o e=>(e0.bs b o e).1;have aem:∀y∈ps.zip us,scope.names.lookup y.1=some .local\/(scope.names.lookup y.1=some .cell/\((cellsFrom (s.heap.objs.size+1) scope.names []).lookup y.1).isSome=true):=λ⟨n,v⟩ hy=>by
  rcases S.par n (gQ hy).1 with q|q
  .exact .inl q
  .exact .inr ⟨q,lD _ _ _ (.inl q)⟩
 refine codeAny_call_function hr.depth (KX _ _ lk) rfl S.co S.gen rfl (PySem.W.codeRec_of KX ZF) (hb _ _ _ _ ?_);refine wpAny_newFunctionEnv_cells S.kind aem λenv he s1 x=>?_;subst he;refine⟨lim.keeps x.toInCall.keep,codeAny_func ?_⟩;obtain⟨t,ht,hq⟩:=YB A outer s H vs Q E (hr.deeper _) hsp;have I:Inv (rG CX P w K mg base N qual scope f ς A outer s H E) [] (start N vs) H s1:=LF S hr.hd e0 hl r x;refine b9 (ht [] s1 (start N vs) H _ I hq) (λfl s' hs=>?_) λe s' hs=>hs;have fin:∀{σ':St}{H':Hp}{v:V}{u:Value},Inv (rG CX P w K mg base N qual scope f ς A outer s H E) [] σ' H' s'->RelV v u->Q v H'->CE outer P w H s Q u s':=λ{σ' H' v u} J rv q=>⟨v,H',J.os,J.bare,J.base,J.τ,rv,q⟩
 cases fl with
 | ret u=>
   obtain⟨v,σ',H',J,rv,q⟩:=hs;exact fin J rv q
 | next=>
   obtain⟨σ',H',J,q⟩:=hs;exact fin (v:=V.ο) (u:=Value.none) J rfl q
 | brk=>
   obtain⟨_,_,_,q⟩:=hs;exact False.elim q
 | cont=>
   obtain⟨_,_,_,q⟩:=hs;exact False.elim q
section
variable{X:Cx}{x:Str}{p pos:Pos}{e:Expr}{es:List Expr}{t:TA}{id T:String}{r:List V->Hp->VK->Prop}
def tCB(r:List V->Hp->VK->Prop)(t:TA):TE:=λσ H Q=>t σ H λvs H1=>r vs H1 Q
theorem Pu(hc:kR X (.builtin id) r)(hg:Gl X x)(hm:X.mg x=none)(hv:bootBuiltins x=some (.builtin id))(ha:PA X (e::es) t)(hn:x≠"__name__":=by decide)(hdb:(x==("__debug__":Str))=false:=by decide)(he:starEach (e::es) X.env=(false,eval e X.env)::starEach es X.env:=by rfl)(ϡ:(backTo pos (starEach es X.env)).any (·.1)=false:=by rfl):PE X (.Call (.Name x p) (e::es) [] pos) (tCB r t):=by
 intro pins s σ H Q I h;refine fA (nI I hg hm hv ?_ hn hdb);exact PyProof.Rows.callWith_builtin1 (rL (ha pos pins s σ H _ I h) λus s1 vs H1 I1 r1 q1=>hc pins s1 σ H1 vs us Q I1 r1 q1) he ϡ
theorem DB(hc:kR X (.type T) r)(hg:Gl X x)(hm:X.mg x=none)(hv:bootBuiltins x=some (.type T))(ha:PA X (e::es) t)(hn:x≠"__name__":=by decide)(hdb:(x==("__debug__":Str))=false:=by decide)(he:starEach (e::es) X.env=(false,eval e X.env)::starEach es X.env:=by rfl)(ϡ:(backTo pos (starEach es X.env)).any (·.1)=false:=by rfl):PE X (.Call (.Name x p) (e::es) [] pos) (tCB r t):=by
 intro pins s σ H Q I h;refine fA (nI I hg hm hv ?_ hn hdb);exact cD (rL (ha pos pins s σ H _ I h) λus s1 vs H1 I1 r1 q1=>hc pins s1 σ H1 vs us Q I1 r1 q1) he ϡ
end
end L2
namespace HT
open PySem PyProof.Rows
section
variable{prog:Program}{w:World}{A:Around}{E:Value->Shared->Prop}{s:Shared}
def X0(n d:Nat):Option Int->Nat
 | none=>d
 | some v=>if v<0 then(v+(n:Int)).toNat else min v.toNat n
end
end HT
namespace L2
open PySem PySem.Spec PyProof.Rows
abbrev TO:=St->Hp->(Option Int->Hp->Prop)->Prop
def PO(X:Cx)(e:Option Expr)(t:TO):Prop:=∀(pins:List (Addr×Obj))(s:Shared)(σ:St)(H:Hp)(Q:Option Int->Hp->Prop),Inv X pins σ H s->t σ H Q->wpAny (model X.prog X.w) X.A (evalPart e X.env) (λu s'=>∃o H',Inv X pins σ H' s'/\IsPart u o/\Q o H') X.xe s
def Xq:TO:=λ_ H Q=>Q none H
def Bf(t:TE):TO:=λσ H Q=>t σ H λx H1=>∃i,x=.int i/\Q (some i) H1
section
variable{X:Cx}{e:Expr}{te:TE}{lo hi:Option Expr}{tl th:TO}{pos p2:Pos}
theorem Cd:PO X none Xq:=by
 intro pins s σ H Q I h;rw[evalPart_none];exact aR ⟨none,H,I,.none,h⟩
theorem vA(h:PE X e te):PO X (some e) (Bf te):=by
 intro pins s σ H Q I hw;rw[evalPart_some];refine d5 (h pins s σ H _ I hw) λu s1 x H1 I1 r1 q1=>?_;obtain⟨i,rfl,q⟩:=q1;obtain⟨t,rfl⟩:=r1;exact⟨some i,H1,I1,.int i t,q⟩
def SlR(X:Cx)(r:V->Option Int->Option Int->Hp->VK->Prop):Prop:=∀(pins:List (Addr×Obj))(s:Shared)(σ:St)(H:Hp)(x:V)(v vl vu:Value)(lo hi:Option Int)(sl:Addr)(Q:VK),Inv X pins σ H s->RelV x v->s.heap.IsSliceOf sl vl vu .none->IsPart vl lo->IsPart vu hi->r x lo hi H Q->∃T id,typeLookup (.type T) "__getitem__"=pure (some (.builtin id))/\s.TypeIs v T/\wpAny (model X.prog X.w) X.A (getItem v (.ref sl)) (EP X pins σ Q) X.xe s
def tSl(r:V->Option Int->Option Int->Hp->VK->Prop)(te:TE)(tl th:TO):TE:=λσ H Q=>te σ H λx H1=>tl σ H1 λl H2=>th σ H2 λu H3=>r x l u H3 Q
theorem vW{r:V->Option Int->Option Int->Hp->VK->Prop}(hr:SlR X r)(he:PE X e te)(hl:PO X lo tl)(hu:PO X hi th):PE X (.Subscript e (.Slice lo hi none p2) pos) (tSl r te tl th):=by
 intro pins s σ H Q I h;refine Subscript_ (d5 (he pins s σ H _ I h) λv s1 x H1 I1 r1 q1=>?_);refine wpAny_Slice (Ψ (hl pins s1 σ H1 _ I1 q1) λvl s2 ⟨l,H2,I2,pl,q2⟩=>Ψ (hu pins s2 σ H2 _ I2 q2) λvu s3 ⟨u,H3,I3,pu,q3⟩=>?_);rw[evalPart_none];refine aR ?_;have I4:Inv X pins σ H3 { s3 with heap:=s3.heap.push { cls:=.type "slice",data:=.fields #[vl,vu,.none] } }:=I3.kept (t':=s3.toks) λb ob q=>aw _ q;obtain⟨T,id,hT,ht,hg⟩:=hr pins { s3 with heap:=s3.heap.push { cls:=.type "slice",data:=.fields #[vl,vu,.none] } } σ H3 x v vl vu l u s3.heap.objs.size Q I4 r1 (Heap.IsSliceOf.new ..) pl pu q3;show wpAny (model X.prog X.w) X.A (subscriptTail e (.Slice lo hi none p2) v (.ref s3.heap.objs.size)) (EP X pins σ Q) X.xe { s3 with heap:=s3.heap.push { cls:=.type "slice",data:=.fields #[vl,vu,.none] } };exact tail_any (ops:=[.ref s3.heap.objs.size,v]) ht hT hg (by with_unfolding_all rfl)
def xo(xs:List V)(lo hi:Option Int):List V:=(xs.drop (HT.X0 xs.length 0 lo)).take (HT.X0 xs.length xs.length hi-HT.X0 xs.length 0 lo)
theorem HX(xs:List V)(lo hi:Option Int):(xo xs lo hi).length<=xs.length:=by
 unfold xo;rw[bd,dj]
 lia
end
def ZI(n:Nat)(i:Int):Option Nat:=if 0<=i then(if i<n then some i.toNat else none)else if -(n:Int)<=i then some (i+n).toNat else none
def Ϣ{α:Type}(xs:List α)(i:Int):Option α:=(ZI xs.length i).bind λj=>xs[j]?
theorem IR{n:Nat}{i:Int}{j:Nat}(h:ZI n i=some j):seqIndex? i n=some j/\j<n/\-(n:Int)<=i/\i<n:=by
 unfold ZI at h;by_cases h0:0<=i
 .rw[aj h0]at h;by_cases h1:i<n
  .rw[aj h1]at h;have e:i.toNat=j:=bq h;exact⟨by rw[seqIndex_of h0 h1,e],by lia,by lia,h1⟩
  .rw[ag h1]at h;cases h
 .rw[ag h0]at h;by_cases h1:-(n:Int)<=i
  .rw[aj h1]at h;have e:(i+n).toNat=j:=bq h;exact⟨by rw[seqIndex_neg (by lia) h1,e],by lia,h1,by lia⟩
  .rw[ag h1]at h;cases h
theorem CY{α:Type}{xs:List α}{i:Int}{v:α}(h:Ϣ xs i=some v):∃j,seqIndex? i xs.length=some j/\xs[j]?=some v/\j<xs.length/\-(xs.length:Int)<=i/\i<xs.length:=by
 unfold Ϣ at h;cases e:ZI xs.length i with
 | none=>rw[e]at h;cases h
 | some j=>
   rw[e]at h;obtain⟨h1,h2,h3,h4⟩:=IR e;exact⟨j,h1,h,h2,h3,h4⟩
theorem IY{α:Type}{xs:List α}{j:Nat}{v:α}(h:xs[j]?=some v):Ϣ xs (j:Int)=some v:=by
 have hj:j<xs.length:=(aq.mp h).1;have e:ZI xs.length (j:Int)=some j:=by
  unfold ZI;rw[aj (by lia),aj (by lia)];simp
 unfold Ϣ;rw[e];exact h
theorem OI{α:Type}(xs:List α)(v:α):Ϣ (xs++[v]) (-1)=some v:=by
 have hl:(xs++[v]).length=xs.length+1:=by simp
 have e:ZI (xs++[v]).length (-1)=some xs.length:=by
  unfold ZI;rw[hl,ag (by decide),aj (by lia)]
  congr 1
  lia
 unfold Ϣ;rw[e];show(xs++[v])[xs.length]?=some v;simp
def Iv(b:Expr):Prop:=∀o i,subscripted b false o i=operate [o,i] (getItem o i)
def IxR(X:Cx)(r:R2):Prop:=∀(value slice:Expr)(pins:List (Addr×Obj))(s:Shared)(σ:St)(H:Hp)(x y:V)(v u:Value)(Q:VK),Inv X pins σ H s->RelV x v->RelV y u->r x y H Q->subscripted slice false v u=operate [v,u] (getItem v u)->wpAny (model X.prog X.w) X.A (subscriptTail value slice v u) (EP X pins σ Q) X.xe s
def MtR(X:Cx)(id:String)(r:V->List V->Hp->VK->Prop):Prop:=∀(pins:List (Addr×Obj))(s:Shared)(σ:St)(H:Hp)(x:V)(xs:List V)(v:Value)(us:List Value)(Q:VK),Inv X pins σ H s->RelV x v->Vals xs us->r x xs H Q->wpAny (model X.prog X.w) X.A (call (.builtin id) (v::us)) (EP X pins σ Q) X.xe s
section
variable{X:Cx}{a b:Expr}{ta tb:TE}{pos:Pos}
theorem iL{r:R2}(hr:IxR X r)(ha:PE X a ta)(hb:PE X b tb)(hs:Iv b):PE X (.Subscript a b pos) (tOp r ta tb):=by
 intro pins s σ H Q I h;exact Subscript_ (Ow ha hb I h λv u s2 x y H2 I2 rx ry q=>hr a b pins s2 σ H2 x y v u Q I2 rx ry q (hs _ _))
def FZ(K:PySem.W.Frag):R2:=λx y H Q=>∃p xs i v,x=.ref p/\y=.int i/\μ K H p xs/\Ϣ xs i=some v/\Q v H
def PL(K:PySem.W.Frag):R2:=λx y H Q=>∃p xs i v,x=.ref p/\y=.int i/\Η K H p xs/\Ϣ xs i=some v/\Q v H
theorem bB:IxR X (FZ X.K):=by
 intro value slice pins s σ H x y v u Q I rx ry h hs;obtain⟨p,xs,i,z,rfl,rfl,hq,he,q⟩:=h;cases rx;obtain⟨t,rfl⟩:=ry;obtain⟨its,r,pl,hz⟩:=I.list hq;obtain⟨j,h1,h2,h3,h4,h5⟩:=CY he;obtain⟨w,ew,ZJ⟩:=r.get h2;have hl:=r.length;have hn:=tQ;have fin:EP X pins σ Q w s:=⟨z,H,I,ZJ,q⟩;by_cases h0:0<=i
 .have hj:i.toNat=j:=by
   rw[seqIndex_of h0 h5]at h1;exact bq h1
  exact item_listR pl.isList h0 (by lia) (by rw[hj];simpa using ew) fin hs
 .have hj:(i+(its.toArray.size:Int)).toNat=j:=by
   rw[seqIndex_neg (by lia) h4]at h1;rw[aN,<-hl];exact bq h1
  exact subscriptTail_builtinR (x:=w) pl.isList.typeIs slot_list_getitem.lookup
   (wpAny_getItem_list_neg (Q:=λr s'=>r=w/\EP X pins σ Q r s') pl.isList (by lia) (by rw[aN]<;>lia) (by lia) (by rw[hj];simpa using ew) ⟨rfl,fin⟩) hs
theorem g9:IxR X (PL X.K):=by
 intro value slice pins s σ H x y v u Q I rx ry h hs;obtain⟨p,xs,i,z,rfl,rfl,hq,he,q⟩:=h;cases rx;obtain⟨t,rfl⟩:=ry;obtain⟨its,r,pl,hz⟩:=I.tuple hq;obtain⟨j,h1,h2,h3,h4,h5⟩:=CY he;obtain⟨w,ew,ZJ⟩:=r.get h2;have hl:=r.length;have hn:=tQ;have fin:EP X pins σ Q w s:=⟨z,H,I,ZJ,q⟩;exact subscriptTail_builtinR (x:=w) pl.typeIs slot_tuple_getitem.lookup
  (getItem_tuple (j:=j) (Q:=λr s'=>r=w/\EP X pins σ Q r s') pl (by lia) (by lia) (by rw[aN,<-hl];exact h1) (by simpa using ew) ⟨rfl,fin⟩) hs
theorem Kq(its:List Value)(n j:Nat)(u:Value):Obj.mapSeq (·.setIfInBounds j u) { cls:=.type "list",data:=.seq its.toArray n }={ cls:=.type "list",data:=.seq (its.set j u).toArray n }:=by
 simp[Obj.mapSeq]
theorem Inv.lst{pins:List (Addr×Obj)}{σ:St}{H:Hp}{s:Shared}{p:Addr}{xs:List V}(I:Inv X pins σ H s)(h:H p=some (.lst xs)):∃(its:List Value)(n:Nat),Vals xs its/\s.heap.get? p=some { cls:=.type "list",data:=.seq its.toArray n }/\xs.length<=sizeLine:=by
 obtain⟨z,its,n,r,e⟩:=I.τ p _ h;exact⟨its,n,r,e,z⟩
theorem Inv.acD{pins:List (Addr×Obj)}{σ:St}{H:Hp}{s:Shared}{p:Addr}{xs ys:List V}{its its':List Value}{n n':Nat}{f:Obj->Obj}(I:Inv X pins σ H s)(h:H p=some (.lst xs))(ho:s.heap.get? p=some { cls:=.type "list",data:=.seq its.toArray n })(hf:f { cls:=.type "list",data:=.seq its.toArray n }={ cls:=.type "list",data:=.seq its'.toArray n' })(r:Vals ys its')(hz:ys.length<=sizeLine)(t:Nat):Inv X pins σ (upd H p (.lst ys)) { s with heap:=s.heap.update p f,toks:=t }:=by
 have e:(s.heap.update p f).get? p=some { cls:=.type "list",data:=.seq its'.toArray n' }:=by
  rw[dC f ho (by rw[hf]<;>rfl),hf]
 refine I.write (x:=p) (e:=p) (by rw[h];trivial) (.inl rfl) (λb u hb q=>(bM _ _ (Ne.symm hb)).trans q) ⟨_,e⟩ ?_;exact⟨hz,its',n',r,e⟩
def abW:V->V->V->Hp->(Hp->Prop)->Prop:=λo i v H Q=>∃p xs k j,o=.ref p/\i=.int k/\H p=some (.lst xs)/\ZI xs.length k=some j/\Q (upd H p (.lst (xs.set j v)))
theorem iW:PQ X abW:=by
 intro pins s σ H o i v ov iv u Q I ro ri rv h;obtain⟨p,xs,k,j,rfl,rfl,hp,hj,q⟩:=h;cases ro;obtain⟨t,rfl⟩:=ri;obtain⟨its,n,r,ho,hz⟩:=I.lst hp;obtain⟨h1,h2,h3,h4⟩:=IR hj;have hl:=r.length;have hn:=tQ;have I':Inv X pins σ (upd H p (.lst (xs.set j v))) { s with heap:=s.heap.update p (Obj.mapSeq (·.setIfInBounds j u)) }:=I.acD hp ho (Kq its n j u) (r.set rv j) (by rw[cP];exact hz) s.toks
 by_cases h0:0<=k
 .have hk:k.toNat=j:=by
   rw[seqIndex_of h0 h4]at h1;exact bq h1
  exact PySem.W.ki_setAt ho h0 (by lia) (by rw[aN,<-hl];exact h4) (by rw[hk];exact⟨_,I',q⟩)
 .have hk:(k+(its.toArray.size:Int)).toNat=j:=by
   rw[seqIndex_neg (by lia) h3]at h1;rw[aN,<-hl];exact bq h1
  exact PySem.W.ki_setBack ho (by lia) (by rw[aN,<-hl];exact h3) (by lia) (by rw[hk];exact⟨_,I',q⟩)
theorem Fb(lo hi:Option Int)(n:Nat):(sliceBounds lo hi none n).1=((HT.X0 n 0 lo:Nat):Int)/\(sliceBounds lo hi none n).2.1=((HT.X0 n n hi:Nat):Int)/\(sliceBounds lo hi none n).2.2=1:=by
 refine⟨?_,?_,rfl⟩
 .cases lo with
  | none=>simp[sliceBounds,HT.X0]
  | some i=>
    simp only[sliceBounds,HT.X0,Option.getD_none,show(1:Int)>0 by decide,if_true];by_cases h:i<0
    .simp only[h,if_true]<;>lia
    .simp only[h,if_false]<;>lia
 .cases hi with
  | none=>simp[sliceBounds,HT.X0]
  | some i=>
    simp only[sliceBounds,HT.X0,Option.getD_none,show(1:Int)>0 by decide,if_true];by_cases h:i<0
    .simp only[h,if_true]<;>lia
    .simp only[h,if_false]<;>lia
theorem Ee(its:List Value)(lo hi:Option Int):slicePick its.toArray lo hi none=((its.drop (HT.X0 its.length 0 lo)).take (HT.X0 its.length its.length hi-HT.X0 its.length 0 lo)).toArray:=by
 obtain⟨h1,h2,h3⟩:=Fb lo hi its.toArray.size;unfold slicePick;rw[h1,h2,h3];simp only[sliceRange_one,pick_run,aN]<;>rfl
def UN(K:PySem.W.Frag):V->Option Int->Option Int->Hp->VK->Prop:=λx lo hi H Q=>∃a xs,x=.ref a/\μ K H a xs/\∀p,H p=none->Q (.ref p) (upd H p (.lst (xo xs lo hi)))
theorem yd:SlR X (UN X.K):=by
 intro pins s σ H x v vl vu lo hi sl Q I rx hs pl pu h;obtain⟨a,xs,rfl,hx,q⟩:=h;cases rx;obtain⟨its,r,ht,hz⟩:=I.list hx;have hlen:=r.length;refine⟨"list",_,slot_list_getitem.lookup,ht.isList.typeIs,?_⟩;refine wpAny_getItem_list_slice ht.isList hs pl pu .none (by simp) ?_ (by rw[aN]<;>lia);rw[Ee,<-hlen];refine⟨.ref s.heap.objs.size,_,I.laid (t':=s.toks) (o:=.lst (xo xs lo hi)) (λb ob q=>aw _ q) (aA _) ?_,rfl,q _ (I.τ.fresh (aA _))⟩;exact⟨aU (HX xs lo hi) hz,_,0,(r.drop (HT.X0 xs.length 0 lo)).take (HT.X0 xs.length xs.length hi-HT.X0 xs.length 0 lo),ba _ rfl⟩
def sB:V->Bool
 | .ο=>true
 | .bl _=>true
 | .int _=>true
 | .str _=>true
 | _=>false
def eqV:V->V->Bool
 | .ο,.ο=>true
 | .bl a,.bl b=>a==b
 | .bl a,.int b=>(if a then 1 else 0)==b
 | .int a,.bl b=>a==(if b then 1 else 0)
 | .int a,.int b=>a==b
 | .str a,.str b=>a==b
 | _,_=>false
theorem Vu{A:Around}{s:Shared}{y x:V}{u v:Value}(ry:RelV y u)(rx:RelV x v)(fy:sB y=true)(fx:sB x=true):SeqAt.EqAt A s u v (eqV y x):=by
 cases y with
 | ο=>
   cases ry;cases x with
   | ο=>cases rx;exact SeqAt.EqAt.same _
   | bl b=>cases rx;exact SeqAt.EqAt.none_bool b
   | int b=>obtain⟨t,rfl⟩:=rx;exact SeqAt.EqAt.none_int b t
   | str b=>obtain⟨t,rfl⟩:=rx;exact SeqAt.EqAt.none_str b t
   | _=>exact absurd (show false=true from fx) bh
 | bl a=>
   cases ry;cases x with
   | ο=>cases rx;exact SeqAt.EqAt.bool_none a
   | bl b=>cases rx;exact SeqAt.EqAt.bool_bool a b
   | int b=>obtain⟨t,rfl⟩:=rx;exact SeqAt.EqAt.bool_int a b t
   | str b=>obtain⟨t,rfl⟩:=rx;exact SeqAt.EqAt.bool_str a b t
   | _=>exact absurd (show false=true from fx) bh
 | int a=>
   obtain⟨t',rfl⟩:=ry;cases x with
   | ο=>cases rx;exact SeqAt.EqAt.int_none a t'
   | bl b=>cases rx;exact SeqAt.EqAt.int_bool a t' b
   | int b=>obtain⟨t,rfl⟩:=rx;exact SeqAt.EqAt.int_int a t' b t
   | str b=>obtain⟨t,rfl⟩:=rx;exact SeqAt.EqAt.int_str a t' b t
   | _=>exact absurd (show false=true from fx) bh
 | str a=>
   obtain⟨t',rfl⟩:=ry;cases x with
   | ο=>cases rx;exact SeqAt.EqAt.str_none a t'
   | bl b=>cases rx;exact SeqAt.EqAt.str_bool a t' b
   | int b=>obtain⟨t,rfl⟩:=rx;exact SeqAt.EqAt.str_int a t' b t
   | str b=>obtain⟨t,rfl⟩:=rx;exact SeqAt.EqAt.str_str a t' b t
   | _=>exact absurd (show false=true from fx) bh
 | _=>exact absurd (show false=true from fy) bh
def Y3(x:V)(u:Value):Bool:=match u with
 | .none=>eqV .ο x
 | .bool b=>eqV (.bl b) x
 | .int i _=>eqV (.int i) x
 | .str z _=>eqV (.str z) x
 | _=>false
theorem Mu{x y:V}{u:Value}(r:RelV y u)(f:sB y=true):Y3 x u=eqV y x:=by
 cases y with
 | ο=>cases r;rfl
 | bl b=>cases r;rfl
 | int i=>obtain⟨t,rfl⟩:=r;rfl
 | str z=>obtain⟨t,rfl⟩:=r;rfl
 | _=>exact absurd (show false=true from f) bh
theorem vd{x:V}:∀{xs:List V}{us:List Value},Vals xs us->xs.all sB=true->us.any (Y3 x)=xs.any λy=>eqV y x
 | _,_,.nil,_=>rfl
 | y::xs,u::us,.cons r t,f=>by
   rw[mZ,cj]at f;rw[gL,gL,Mu r f.1,vd t f.2]
theorem tz{A:Around}{s:Shared}{x:V}{v:Value}(rx:RelV x v)(fx:sB x=true):∀{xs:List V}{us:List Value},Vals xs us->xs.all sB=true->∀u∈us,SeqAt.EqAt A s u v (Y3 x u)
 | _,_,.nil,_=>λu hu=>by cases hu
 | y::xs,u::us,.cons r t,f=>λu' hu=>by
   rw[mZ,cj]at f;rcases ar.mp hu with rfl|hu
   .rw[Mu r f.1];exact Vu r rx f.1 fx
   .exact tz rx fx t f.2 u' hu
def inV(x:V)(xs:List V):Bool:=xs.any λy=>eqV y x
def rIn(K:PySem.W.Frag)(neg:Bool):R2:=λx y H Q=>∃p xs,y=.ref p/\(μ K H p xs\/Η K H p xs)/\sB x=true/\xs.all sB=true/\Q (.bl (if neg then !inV x xs else inV x xs)) H
theorem Dz:ϸ X (compareOp .In) (rIn X.K false):=by
 intro pins s σ H x y v u Q I rx ry h;obtain⟨p,xs,rfl,hq,fx,fs,q⟩:=h;cases ry;rcases hq with hq|hq
 .obtain⟨its,r,pl,hz⟩:=I.list hq;refine SeqAt.in_listAt (Y3 x) pl.isList (λw hw=>tz rx fx r fs w (by simpa using hw)) ⟨.bl _,H,I,rfl,?_⟩;rw[show its.toArray.any (Y3 x)=its.any (Y3 x) by simp,vd r fs];exact q
 .obtain⟨its,r,pl,hz⟩:=I.tuple hq;refine SeqAt.in_tupleAt (Y3 x) pl (λw hw=>tz rx fx r fs w (by simpa using hw)) ⟨.bl _,H,I,rfl,?_⟩;rw[show its.toArray.any (Y3 x)=its.any (Y3 x) by simp,vd r fs];exact q
theorem GH:ϸ X (compareOp .NotIn) (rIn X.K true):=by
 intro pins s σ H x y v u Q I rx ry h;obtain⟨p,xs,rfl,hq,fx,fs,q⟩:=h;cases ry;rcases hq with hq|hq
 .obtain⟨its,r,pl,hz⟩:=I.list hq;refine SeqAt.notIn_listAt (Y3 x) pl.isList (λw hw=>tz rx fx r fs w (by simpa using hw)) ⟨.bl _,H,I,rfl,?_⟩;rw[show its.toArray.any (Y3 x)=its.any (Y3 x) by simp,vd r fs];exact q
 .obtain⟨its,r,pl,hz⟩:=I.tuple hq;refine SeqAt.notIn_tupleAt (Y3 x) pl (λw hw=>tz rx fx r fs w (by simpa using hw)) ⟨.bl _,H,I,rfl,?_⟩;rw[show its.toArray.any (Y3 x)=its.any (Y3 x) by simp,vd r fs];exact q
theorem gO:kR X (.builtin "len") (λxs H Q=>∃p ys,xs=[.ref p]/\(μ X.K H p ys\/Η X.K H p ys)/\Q (.int ys.length) H):=by
 intro pins s σ H xs us Q I r h;obtain⟨p,ys,rfl,hq,q⟩:=h;obtain⟨u,rfl,rx⟩:=sy r;cases rx;have hn:=tQ;rcases hq with hq|hq
 .obtain⟨its,r',pl,hz⟩:=I.list hq;have hlen:=r'.length;exact Calls.call_len_list pl.isList (by simp only[aN]<;>lia) ⟨.int ys.length,H,I.tok _,⟨s.toks+1,by rw[aN,hlen]⟩,q⟩
 .obtain⟨its,r',pl,hz⟩:=I.tuple hq;have hlen:=r'.length;exact len_tuple pl (by simp only[aN]<;>lia) ⟨.int ys.length,H,I.tok _,⟨s.toks+1,by rw[aN,hlen]⟩,q⟩
theorem nP:kR X (.type "list") (λxs H Q=>∃p ys,xs=[.ref p]/\(μ X.K H p ys\/Η X.K H p ys)/\∀l,H l=none->Q (.ref l) (upd H l (.lst ys))):=by
 intro pins s σ H xs us Q I r h;obtain⟨p,ys,rfl,hq,q⟩:=h;obtain⟨u,rfl,rx⟩:=sy r;cases rx;have fin:∀(its:List Value),Vals ys its->ys.length<=sizeLine->∀(h':Heap)(c':Nat),(∀b o',s.heap.get? b=some o'->h'.get? b=some o')->h'.get? s.heap.objs.size=some { cls:=.type "list",dict:=none,data:=.seq its.toArray c',slots:=#[] }->EP X pins σ Q (.ref s.heap.objs.size) { s with heap:=h' }:=λits r' hz h' c' kp e=>
  ⟨.ref s.heap.objs.size,_,I.laid (t':=s.toks) kp (aA _) (show Γ X.prog X.w _ h' _ (.lst ys)from⟨hz,its,c',r',e⟩),rfl,q _ (I.τ.fresh (aA _))⟩
 rcases hq with hq|hq
 .obtain⟨its,r',pl,hz⟩:=I.list hq;have hlen:=r'.length;obtain⟨o,ho,hc,n,hd⟩:=pl.isList;exact call_list_seq p (.inl rfl) ho hc hd (λh' c' kp e=>fin its r' hz h' c' kp e) (by simp only[aN]<;>lia)
 .obtain⟨its,r',pl,hz⟩:=I.tuple hq;have hlen:=r'.length;obtain⟨o,ho,hc,n,hd⟩:=pl;exact call_list_seq p (.inr rfl) ho hc hd (λh' c' kp e=>fin its r' hz h' c' kp e) (by simp only[aN]<;>lia)
theorem oP:kR X (.type "tuple") (λxs H Q=>∃p ys,xs=[.ref p]/\((μ X.K H p ys/\∀l,H l=none->Q (.ref l) (upd H l (.tup ys)))\/(Η X.K H p ys/\Q (.ref p) H))):=by
 intro pins s σ H xs us Q I r h;obtain⟨p,ys,rfl,h⟩:=h;obtain⟨u,rfl,rx⟩:=sy r;cases rx;rcases h with⟨hq,q⟩|⟨hq,q⟩
 .obtain⟨its,r',pl,hz⟩:=I.list hq;have hlen:=r'.length;refine call_tuple_list pl.isList (λh' kp=>?_) (by simp only[aN]<;>lia);have I1:Inv X pins σ H { s with heap:=h' }:=I.kept (t':=s.toks) kp;have I2:Inv X pins σ (upd H h'.objs.size (.tup ys)) { s with heap:=h'.push { cls:=.type "tuple",data:=.seq its.toArray } }:=I1.laid (t':=s.toks) (λb o e=>aw _ e) (aA _) (show Γ X.prog X.w _ _ _ (.tup ys)from⟨hz,its,r',IsTup.new _ _⟩)
  exact⟨.ref h'.objs.size,_,I2,rfl,q _ (I1.τ.fresh (aA _))⟩
 .obtain⟨its,r',pl,hz⟩:=I.tuple hq;exact call_tuple_same pl ⟨.ref p,H,I,rfl,q⟩
def tyV(K:PySem.W.Frag)(T:String)(x:V)(H:Hp):Prop:=match x with
 | .str _=>T="str"
 | .int _=>T="int"
 | .ref p=>(T="list"/\∃xs,μ K H p xs)\/(T="tuple"/\∃o,K.lookup p=some o/\o.cls=.type "tuple"/\o.dict=none)\/(T="dict"/\((∃η,H p=some (.dK η))\/∃η,H p=some (.dT η)))\/(T="set"/\∃S n,H p=some (.set S n))
 | _=>False
theorem Mt{pins:List (Addr×Obj)}{σ:St}{H:Hp}{s:Shared}{T:String}{x:V}{v:Value}(I:Inv X pins σ H s)(r:RelV x v)(ty:tyV X.K T x H):s.TypeIs v T/\∀a,v=.ref a->∃ob,s.heap.get? a=some ob/\ob.dict=none:=by
 cases x with
 | str z=>
   obtain⟨t,rfl⟩:=r;cases(show T="str" from ty);exact⟨typeIs_str s z t,λ_ e=>nomatch e⟩
 | int i=>
   obtain⟨t,rfl⟩:=r;cases(show T="int" from ty);exact⟨typeIs_int s i t,λ_ e=>nomatch e⟩
 | ref p=>
   cases r;rcases ty with⟨rfl,xs,hq⟩|⟨rfl,o,hk,hc,hd⟩|⟨rfl,hk⟩|⟨rfl,S,n,hk⟩
   .obtain⟨its,_,pl,_⟩:=I.list hq;refine⟨pl.isList.typeIs,λa e=>?_⟩;cases e;obtain⟨o,n,e,c,hd,_⟩:=pl;exact⟨o,e,hd⟩
   .refine⟨⟨o,I.YZ p o hk,hc⟩,λa e=>?_⟩;cases e;exact⟨o,I.YZ _ o hk,hd⟩
   .have z:∃o,s.heap.get? p=some o/\o.ExactDict:=by
     rcases hk with⟨η,hk⟩|⟨η,hk⟩
     .obtain⟨_,_,_,_,o,_,_,e,ex,_⟩:=I.τ p _ hk;exact⟨o,e,ex⟩
     .obtain⟨_,_,_,_,o,_,_,e,ex,_⟩:=I.τ p _ hk;exact⟨o,e,ex⟩
    obtain⟨o,e,ex⟩:=z;refine⟨⟨o,e,ex.1⟩,λa e2=>?_⟩;cases e2;exact⟨o,e,ex.2.1⟩
   .obtain⟨o,_,_,_,e,ex,_⟩:=I.τ p _ hk;refine⟨⟨o,e,ex.1⟩,λa e2=>?_⟩;cases e2;exact⟨o,e,ex.2.1⟩
 | _=>exact False.elim ty
def Nk(K:PySem.W.Frag)(T:String)(r:V->List V->Hp->VK->Prop)(to:TE):TE:=λσ H Q=>to σ H λx H1=>tyV K T x H1/\r x [] H1 Q
def tBM(K:PySem.W.Frag)(T:String)(r:V->List V->Hp->VK->Prop)(to:TE)(t:TA):TE:=λσ H Q=>to σ H λx H1=>tyV K T x H1/\t σ H1 λxs H2=>r x xs H2 Q
variable{o e:Expr}{es:List Expr}{to:TE}{t:TA}{name:Str}{apos Υ:Pos}{T id:String}{r:V->List V->Hp->VK->Prop}
theorem GO(pa:PlainAttrs T)(slot:Slot T name id)(hty:typeOf (.builtin id)=pure (.type "method_descriptor"))(hm:MtR X id r)(ho:PE X o to)(YC:attributeBase o name X.env (eval o X.env)=eval o X.env:=by rfl)(hline:(apos.endLine==Υ.line)=true:=by rfl):PE X (.Call (.Attribute o name apos) [] [] Υ) (Nk X.K T r to):=by
 intro pins s σ H Q I h;refine wpAny_Call_method0_late YC hline (d5 (ho pins s σ H _ I h) λv s1 x H1 I1 r1 ⟨ty,q1⟩=>?_);obtain⟨h1,h2⟩:=Mt I1 r1 ty;exact⟨T,id,pa,slot,hty,h1,h2,Calls.callWith_builtin rfl (PySem.evalArgs_none (hm pins s1 σ H1 x [] v [] Q I1 r1 .nil q1))⟩
theorem jI(pa:PlainAttrs T)(slot:Slot T name id)(hty:typeOf (.builtin id)=pure (.type "method_descriptor"))(hm:MtR X id r)(ho:PE X o to)(ha:PA X (e::es) t)(YC:attributeBase o name X.env (eval o X.env)=eval o X.env:=by rfl)(acE:((backTo Υ (starEach (e::es) X.env)).all (λx=>!x.1)&&(backToKw Υ (keywordEach [] X.env)).all (λx=>x.1.isSome)
 && decide ((e::es).length+([]:List Keyword).length+(if([]:List Keyword).isEmpty then 0 else 1)<30))=true:=by rfl)(hline:(apos.endLine==Υ.line)=true:=by rfl)(hs:starEach (e::es) X.env=(false,eval e X.env)::starEach es X.env:=by rfl)(Y4:(backTo Υ (starEach es X.env)).any (·.1)=false:=by rfl):PE X (.Call (.Attribute o name apos) (e::es) [] Υ) (tBM X.K T r to t):=by
 intro pins s σ H Q I h;refine wpAny_Call_method_late YC acE hline rfl (d5 (ho pins s σ H _ I h) λv s1 x H1 I1 r1 ⟨ty,q1⟩=>?_);obtain⟨h1,h2⟩:=Mt I1 r1 ty;refine⟨T,id,pa,slot,hty,h1,h2,?_⟩;have hA:=ha Υ pins s1 σ H1 _ I1 q1;rw[hs]at hA ⊢;refine Calls.callWith_builtin (by show(false||(backTo Υ (starEach es X.env)).any (·.1))=false;rw[Y4]<;>rfl) (Calls.evalArgs_plain ?_);exact Ψ hA λus s2 ⟨vs,H2,I2,r2,q2⟩=>hm pins s2 σ H2 x vs v us Q I2 r1 r2 q2
end
def MtM(X:Cx)(id:String)(r:V->List V->Hp->VK->Prop):Prop:=∀(pins:List (Addr×Obj))(s:Shared)(σ:St)(H:Hp)(x:V)(xs:List V)(v:Value)(us:List Value)(Q:VK),Inv X pins σ H s->RelV x v->Vals xs us->r x xs H Q->wpAny (model X.prog X.w) X.A (call (.builtin id) (v::us)) (EP X pins σ Q) X.xe s
theorem Vals.one{x:V}{us:List Value}(h:Vals [x] us):∃u,us=[u]/\RelV x u:=by
 cases h with
 | cons r t=>cases t;exact⟨_,rfl,r⟩
theorem Vals.two{x y:V}{us:List Value}(h:Vals [x,y] us):∃u v,us=[u,v]/\RelV x u/\RelV y v:=by
 cases h with
 | cons r t=>
   obtain⟨v,e,q⟩:=Vals.one t;subst e;exact⟨_,v,rfl,r,q⟩
theorem Vals.zero:∀{us:List Value},Vals [] us->us=[]
 | _,.nil=>rfl
theorem Vals.dropLast{xs:List V}{us:List Value}(h:Vals xs us):Vals xs.dropLast us.dropLast:=by
 induction h with
 | nil=>exact .nil
 | cons r t ih=>
   cases t with
   | nil=>exact .nil
   | cons q t'=>exact .cons r ih
theorem Vals.eraseIdx:∀{xs:List V}{us:List Value}(i:Nat),Vals xs us->Vals (xs.eraseIdx i) (us.eraseIdx i)
 | _,_,_,.nil=>.nil
 | _,_,0,.cons _ t=>t
 | _,_,i+1,.cons r t=>.cons r (Vals.eraseIdx i t)
theorem Vals.reverse{xs:List V}{us:List Value}(h:Vals xs us):Vals xs.reverse us.reverse:=by
 induction h with
 | nil=>exact .nil
 | cons r t ih=>rw[dW,dW];exact Vals.append ih (.cons r .nil)
theorem Vals.rep{xs:List V}{us:List Value}(h:Vals xs us):∀k:Nat,Vals (List.replicate k xs).flatten (List.replicate k us).flatten
 | 0=>.nil
 | k+1=>by
   rw[cw,cw,eR,eR];exact Vals.append h (Vals.rep h k)
theorem Kn{α:Type}(l:List α):l.eraseIdx (l.length-1)=l.dropLast:=by
 induction l with
 | nil=>rfl
 | cons a r ih=>
   cases r with
   | nil=>rfl
   | cons b r=>
     have e:(a::b::r).length-1=((b::r).length-1)+1:=by
      have h1:(a::b::r).length=r.length+2:=rfl;have h2:(b::r).length=r.length+1:=rfl
      lia
     rw[e,List.eraseIdx_cons_succ,ih]
     all_goals rfl
theorem DI{α:Type}:∀(l:List α)(i:Nat),(l.eraseIdx i).length<=l.length
 | [],_=>aA _
 | _::_,0=>fe _
 | _::r,i+1=>Nat.succ_le_succ (DI r i)
theorem DJ(its:List Value):∀(k:Nat)(acc:List Value),List.foldl (λx1 x2=>x1++x2) acc.toArray (List.replicate k its.toArray)=(acc++(List.replicate k its).flatten).toArray
 | 0,acc=>by simp
 | k+1,acc=>by
   have e:acc.toArray++its.toArray=(acc++its).toArray:=by simp
   have e2:(acc++its)++(List.replicate k its).flatten=acc++(List.replicate (k+1) its).flatten:=by
    rw[cw,eR,cU]
   rw[<-e2,<-DJ its k (acc++its),<-e,cw,List.foldl_cons]
section
variable{X:Cx}{pins:List (Addr×Obj)}{σ:St}{H:Hp}{s:Shared}{l b:Addr}{xs ys zs:List V}
theorem Inv.aaf{its its':List Value}{n:Nat}{f:Array Value->Array Value}{t':Nat}(I:Inv X pins σ H s)(hH:H l=some (.lst xs))(e:s.heap.get? l=some { cls:=.type "list",data:=.seq its.toArray n })(hf:f its.toArray=its'.toArray)(hv:Vals ys its')(hz:ys.length<=sizeLine):Inv X pins σ (upd H l (.lst ys)) { s with heap:=s.heap.update l (Obj.mapSeq f),toks:=t' }:=by
 have q:=PySem.IsL.update e f;rw[hf]at q;refine I.write (x:=l) (e:=l) (by rw[hH];exact trivial) (.inl rfl) (λb' u hb hu=>(bM s.heap (Obj.mapSeq f) (Ne.symm hb)).trans hu) ⟨_,q⟩ ?_;exact⟨hz,its',_,hv,q⟩
theorem Inv.aep{its:List Value}{t':Nat}(I:Inv X pins σ H s)(hv:Vals ys its)(hz:ys.length<=sizeLine):Inv X pins σ (upd H s.heap.objs.size (.lst ys)) { s with heap:=s.heap.push { cls:=.type "list",data:=.seq its.toArray },toks:=t' }:=I.laid (λ_ _ q=>aw _ q) (aA _) ⟨hz,its,0,hv,ba _ rfl⟩
theorem Inv.fresh(I:Inv X pins σ H s):H s.heap.objs.size=none:=I.τ.fresh (aA _)
theorem Inv.Xs(I:Inv X pins σ H s)(hH:H l=some (.lst xs)):xs.length<=sizeLine/\∃(its:List Value)(n:Nat),Vals xs its/\xs.length=its.length/\s.heap.get? l=some { cls:=.type "list",data:=.seq its.toArray n }:=by
 obtain⟨z,its,n,r,e⟩:=I.τ l _ hH;exact⟨z,its,n,r,r.length,e⟩
theorem ER{n:Nat}(h:n<=sizeLine):Builtin.List.listTooLong n=false:=by
 unfold Builtin.List.listTooLong;exact aQ (by lia)
end
section
variable{X:Cx}
def X7:V->List V->Hp->VK->Prop:=λx vs H Q=>∃l xs y,x=.ref l/\vs=[y]/\H l=some (.lst xs)/\xs.length<sizeLine/\Q .ο (upd H l (.lst (xs++[y])))
theorem fY:MtM X "list.append" X7:=by
 intro pins s σ H x vs v us Q I rx rv h;obtain⟨l,xs,y,rfl,rfl,hH,hz,q⟩:=h;cases rx;obtain⟨u,rfl,ru⟩:=rv.one;obtain⟨z,its,n,r,hl,e⟩:=I.Xs hH;refine call_meets F.slot_list_append ⟨_,e,rfl⟩ F.entry_list_append (F.args_list_append_2 _ _) (PySem.list_append l its.toArray n u (by rw[aN];lia)) ⟨e,?_⟩;refine⟨.ο,_,I.aaf (its':=its++[u]) hH e (by simp) (r.append (.cons ru .nil)) ?_,rfl,q⟩;rw[aP,List.length_singleton]
 lia
def aaY:V->List V->Hp->VK->Prop:=λx vs H Q=>∃l b xs zs,x=.ref l/\vs=[.ref b]/\H l=some (.lst xs)/\H b=some (.lst zs)/\xs.length+zs.length<=sizeLine/\Q .ο (upd H l (.lst (xs++zs)))
theorem LB:MtM X "list.extend" aaY:=by
 intro pins s σ H x vs v us Q I rx rv h;obtain⟨l,b,xs,zs,rfl,rfl,hH,hB,hz,q⟩:=h;cases rx;obtain⟨u,rfl,ru⟩:=rv.one;cases ru;obtain⟨z,its,n,r,hl,e⟩:=I.Xs hH;obtain⟨z2,Y5,n2,r2,hl2,e2⟩:=I.Xs hB;have hsz:its.toArray.size+Y5.toArray.size<=sizeLine:=by rw[aN,aN];lia
 have aag:¬(!its.toArray.isEmpty&&Builtin.List.listTooLong (its.toArray.size+Y5.toArray.size))=true:=by
  rw[ER hsz,Bool.and_false];exact bh
 refine call_meets F.slot_list_extend ⟨_,e,rfl⟩ F.entry_list_extend (F.args_list_extend_2 _ _)
  (AutoSeq1.list_extend_list_list_0 l its.toArray n b Y5.toArray n2 aag (by rw[aN];lia) (by lia)) ⟨e,e2,?_⟩
 refine⟨.ο,_,I.aaf (its':=its++Y5) hH e (by simp) (r.append r2) ?_,rfl,q⟩;rw[aP]
 lia
def aeq:V->List V->Hp->VK->Prop:=λx vs H Q=>∃l xs y,x=.ref l/\vs=[]/\H l=some (.lst xs)/\xs[xs.length-1]?=some y/\Q y (upd H l (.lst xs.dropLast))
theorem FJ:MtM X "list.pop" aeq:=by
 intro pins s σ H x vs v us Q I rx rv h;obtain⟨l,xs,y,rfl,rfl,hH,hy,q⟩:=h;cases rx;have hus:=rv.zero;subst hus;obtain⟨z,its,n,r,hl,e⟩:=I.Xs hH;obtain⟨u,hu,ru⟩:=r.get hy;have hy':its.toArray[its.toArray.size-1]?=some u:=by
  show its.toArray[its.length-1]?=some u;rw[<-mO,<-hl];exact hu
 refine call_meets F.slot_list_pop ⟨_,e,rfl⟩ F.entry_list_pop (F.args_list_pop_1 _) (MeetsSeq.list_pop_last l its.toArray n u hy' (by rw[aN];lia)) ⟨e,?_⟩;refine⟨y,_,I.aaf (its':=its.dropLast) hH e ?_ r.dropLast ?_,ru,q⟩
 .show its.toArray.eraseIdxIfInBounds (its.toArray.size-1)=its.dropLast.toArray;rw[aN,jb,Kn]
 .rw[List.length_dropLast]
  lia
def acF:V->List V->Hp->VK->Prop:=λx vs H Q=>∃l xs i k y,x=.ref l/\vs=[.int i]/\H l=some (.lst xs)/\-(2^63)<=i/\i<2^63/\seqIndex? i xs.length=some k/\xs[k]?=some y/\Q y (upd H l (.lst (xs.eraseIdx k)))
theorem OA:MtM X "list.pop" acF:=by
 intro pins s σ H x vs v us Q I rx rv h;obtain⟨l,xs,i,k,y,rfl,rfl,hH,h1,h2,hk,hy,q⟩:=h;cases rx;obtain⟨u,rfl,ru⟩:=rv.one;obtain⟨t,rfl⟩:=ru;obtain⟨z,its,n,r,hl,e⟩:=I.Xs hH;obtain⟨w,hw,ZJ⟩:=r.get hy;refine call_meets F.slot_list_pop ⟨_,e,rfl⟩ F.entry_list_pop (F.args_list_pop_2 _ _)
  (MeetsSeq.list_pop_at l its.toArray n i t k w (fitsIndex_both h1 h2) (by rw[aN,<-hl];exact hk) (by rw[<-mO];exact hw) (by rw[aN];lia)) ⟨e,?_⟩
 refine⟨y,_,I.aaf (its':=its.eraseIdx k) hH e ?_ (r.eraseIdx k) ?_,ZJ,q⟩
 .show its.toArray.eraseIdxIfInBounds k=(its.eraseIdx k).toArray;rw[jb]
 .have:=DI xs k
  lia
def aer:R2:=λx y H Q=>∃l b xs zs,x=.ref l/\y=.ref b/\H l=some (.lst xs)/\H b=some (.lst zs)/\xs.length+zs.length<=sizeLine/\∀p,H p=none->Q (.ref p) (upd H p (.lst (xs++zs)))
theorem Mm:ϸ X (binaryOp .Add) aer:=by
 intro pins s σ H x y v u Q I rx ry h;obtain⟨l,b,xs,zs,rfl,rfl,hH,hB,hz,q⟩:=h;cases rx;cases ry;obtain⟨z,its,n,r,hl,e⟩:=I.Xs hH;obtain⟨z2,Y5,n2,r2,hl2,e2⟩:=I.Xs hB;refine PySem.P.add_list e e2 ?_ (by rw[aN,aN];lia);have ea:its.toArray++Y5.toArray=(its++Y5).toArray:=by simp
 rw[ea];exact⟨.ref _,_,I.aep (t':=s.toks) (r.append r2) (by rw[aP];lia),rfl,q _ I.fresh⟩
def aes:R2:=λx y H Q=>∃l k xs,x=.ref l/\y=.int k/\H l=some (.lst xs)/\-(2^63)<=k/\k<2^63/\xs.length*k.toNat<=sizeLine/\∀p,H p=none->Q (.ref p) (upd H p (.lst (List.replicate k.toNat xs).flatten))
theorem QO{α:Type}(xs:List α)(k:Nat):(List.replicate k xs).flatten.length=k*xs.length:=by
 induction k with
 | zero=>simp
 | succ k ih=>rw[cw,eR,aP,ih,Nat.succ_mul,Nat.add_comm]
theorem pR:ϸ X (binaryOp .Mult) aes:=by
 intro pins s σ H x y v u Q I rx ry h;obtain⟨l,k,xs,rfl,rfl,hH,h1,h2,hz,q⟩:=h;cases rx;obtain⟨t,rfl⟩:=ry;obtain⟨z,its,n,r,hl,e⟩:=I.Xs hH;have hlen:its.toArray.size*k.toNat<=sizeLine:=by rw[aN,<-hl];exact hz
 have aiM:¬its.toArray.size*k.toNat>(2^63-1)/8:=by
  have:(sizeLine:Nat)<=(2^63-1)/8:=by decide
  lia
 have aiN:¬(!Builtin.List.listFitsIndex k)=true:=by
  rw[fitsIndex_both h1 h2];exact bh
 have aag:¬Builtin.List.listTooLong (its.toArray.size*k.toNat)=true:=by
  rw[ER hlen];exact bh
 have aiO:List.foldl (λx1 x2=>x1++x2) #[] (List.replicate (if its.toArray.isEmpty=true then 0 else k.toNat) its.toArray)=(List.replicate k.toNat its).flatten.toArray:=by
  have f0:∀m:Nat,List.foldl (λx1 x2=>x1++x2) #[] (List.replicate m its.toArray)=(List.replicate m its).flatten.toArray:=λm=>by
   have:=DJ its m [];rw[jg]at this;exact this
  rw[f0];cases its with
  | nil=>simp
  | cons a r'=>rw[ag (by simp)]
 refine wpAny_binaryOp_repeat_ref (T:="list") (U:="int") (by decide) ⟨_,e,rfl⟩ (λs'=>typeIs_int s' k t) noFill_list_mul F.fills_int_mul F.slot_int_rmul repeat_list F.slot_int_index.lookup
  (call_meets F.slot_int_rmul (typeIs_int s k t) F.entry_int_rmul (F.args_int_rmul_2 _ _) (int___rmul___int_list k t l its.toArray n)
   ⟨e,rfl,⟨_,e,rfl⟩,call_meets F.slot_list_mul ⟨_,e,rfl⟩ F.entry_list_mul (F.args_list_mul_2 _ _) (AutoListH.list___mul___list_int_3 l its.toArray n k t aiN aiM aag) ⟨e,?_⟩⟩)
 rw[aiO];exact⟨.ref _,_,I.aep (t':=s.toks) (r.rep k.toNat) (by rw[QO,iM];exact hz),rfl,q _ I.fresh⟩
end
section
variable{prog:Program}{w:World}{A:Around}{E:Value->Shared->Prop}{s:Shared}
set_option maxRecDepth 100000 in
end
section
variable{κ:Type}[DecidableEq κ]
def f8(η:List (κ×V))(k:κ):Option V:=(η.find? λkv=>decide (kv.1=k)).map (·.2)
def ig(η:List (κ×V))(k:κ)(v:V):List (κ×V):=if(η.any λkv=>decide (kv.1=k))=true then η.map (λkv=>if kv.1=k then(kv.1,v)else kv)else η++[(k,v)]
theorem i9{p:κ×V}{r:List (κ×V)}{k:κ}(e:p.1=k):f8 (p::r) k=some p.2:=by simp[f8,gf,e]
theorem iX{p:κ×V}{r:List (κ×V)}{k:κ}(e:¬p.1=k):f8 (p::r) k=f8 r k:=by simp[f8,gf,e]
theorem tP(k:κ):∀η:List (κ×V),(η.any λkv=>decide (kv.1=k))=(f8 η k).isSome
 | []=>rfl
 | p::r=>by
   rw[gL];by_cases e:p.1=k
   .simp only[i9 e,bg e,Bool.true_or,Option.isSome_some]
   .rw[iX e,aQ e,mX];exact tP k r
theorem Fu(k j:κ)(y:V):∀η:List (κ×V),f8 (η.map λkv=>if kv.1=k then(kv.1,y)else kv) j=(f8 η j).map λx=>if j=k then y else x
 | []=>rfl
 | p::r=>by
   have ih:=Fu k j y r;rw[aH];by_cases h:p.1=k
   .rw[aj h];by_cases e:p.1=j
    .rw[i9 (p:=(p.1,y)) e,i9 e,jf,aj (e.symm.trans h)]
    .rw[iX (p:=(p.1,y)) e,iX e,ih]
   .rw[ag h];by_cases e:p.1=j
    .rw[i9 (p:=p) e,i9 e,jf,ag (λz=>h (e.trans z))]
    .rw[iX (p:=p) e,iX e,ih]
theorem DD(k j:κ)(y:V):∀η:List (κ×V),f8 η k=none->f8 (η++[(k,y)]) j=if j=k then some y else f8 η j
 | [],_=>by
   by_cases e:k=j
   .rw[aj e.symm];exact i9 (p:=(k,y)) e
   .rw[ag (λz=>e z.symm)];exact iX (p:=(k,y)) e
 | p::r,hn=>by
   rw[lB];have hk:¬p.1=k:=λz=>by rw[i9 z]at hn;cases hn
   rw[iX hk]at hn;have ih:=DD k j y r hn;by_cases e:p.1=j
   .rw[i9 e,i9 e,ag (λz=>hk (e.trans z))]
   .rw[iX e,iX e,ih]
theorem zS(η:List (κ×V))(k j:κ)(y:V):f8 (ig η k y) j=if j=k then some y else f8 η j:=by
 unfold ig;by_cases a:(η.any λkv=>decide (kv.1=k))=true
 .rw[aj a,Fu];rw[tP]at a;by_cases e:j=k
  .obtain⟨x,hx⟩:=dU.mp a;rw[aj e,e,hx,jf,aj rfl]
  .rw[ag e];cases f8 η j with
   | none=>rfl
   | some x=>rw[jf,ag e]
 .rw[ag a];refine DD k j y η ?_;rw[tP]at a;cases q:f8 η k with
  | none=>rfl
  | some x=>rw[q]at a;exact(a rfl).elim
theorem oz(η:List (κ×V))(k:κ)(v:V):(ig η k v).length<=η.length+1:=by
 unfold ig;split
 .rw[ah];lia
 .rw[aP,aE,eD];lia
theorem EZ{η:List (κ×V)}{k:κ}(v:V)(h:f8 η k=none):ig η k v=η++[(k,v)]:=by
 unfold ig;rw[tP,h];exact ag (by decide)
theorem iF.Ϙ{o:Option V}{u:Option Value}(r:iF o u):o.isSome=u.isSome:=by
 cases o with
 | none=>cases u with
   | none=>rfl
   | some _=>exact(show False from r).elim
 | some _=>cases u with
   | none=>exact(show False from r).elim
   | some _=>rfl
theorem KV.val{η:List (κ×V)}{vs:List (κ×Value)}(r:KV η vs)(k:κ):iF (f8 η k) (valueAt vs k):=by
 unfold KV at r
 induction r with
 | nil=>exact True.intro
 | @cons p q ps qs h t ih=>
   obtain⟨h1,h2⟩:=h;by_cases e:p.1=k
   .have e':q.1=k:=h1.symm.trans e;have b:valueAt (q::qs) k=some q.2:=(by simp[valueAt,gf,e']);rw[i9 e,b];exact h2
   .have e':¬q.1=k:=λz=>e (h1.trans z);have b:valueAt (q::qs) k=valueAt qs k:=(by simp[valueAt,gf,e']);rw[iX e,b];exact ih
theorem KV.any{η:List (κ×V)}{vs:List (κ×Value)}(r:KV η vs)(k:κ):(η.any λkv=>decide (kv.1=k))=vs.any λkv=>decide (kv.1=k):=by
 unfold KV at r
 induction r with
 | nil=>rfl
 | cons h t ih=>rw[gL,gL,ih,h.1]
theorem KV.repl{η:List (κ×V)}{vs:List (κ×Value)}(r:KV η vs)(k:κ){y:V}{u:Value}(ry:RelV y u):KV (η.map λkv=>if kv.1=k then(kv.1,y)else kv) (vs.map λkv=>if kv.1=k then(kv.1,u)else kv):=by
 unfold KV at r ⊢
 induction r with
 | nil=>exact .nil
 | @cons p q ps qs h t ih=>
   rw[aH,aH];refine .cons ?_ ih;obtain⟨h1,h2⟩:=h;by_cases e:p.1=k
   .rw[aj e,aj (h1.symm.trans e)];exact⟨h1,ry⟩
   .rw[ag e,ag (λz=>e (h1.trans z))];exact⟨h1,h2⟩
theorem KV.put{η:List (κ×V)}{vs:List (κ×Value)}(r:KV η vs)(k:κ){y:V}{u:Value}(ry:RelV y u):KV (ig η k y) (stored vs k u):=by
 unfold ig stored;rw[r.any k];by_cases e:(vs.any λkv=>decide (kv.1=k))=true
 .rw[aj e,aj e];exact r.repl k ry
 .rw[ag e,ag e];exact Paired.snoc r ⟨rfl,ry⟩
theorem KV.length{η:List (κ×V)}{vs:List (κ×Value)}(r:KV η vs):η.length=vs.length:=Paired.length r
end
theorem yq{P:Program}{w:World}{k:Key}{u:Value}(r:RelV (kV k) u):(g6 P w).is k u=true:=by
 cases k with
 | inl i=>obtain⟨t,e⟩:=(show ∃t,u=Value.int i t from r);subst e;exact HA P w i t
 | inr x=>obtain⟨t,e⟩:=(show ∃t,u=Value.str x t from r);subst e;exact HR P w x t
theorem Dm{P:Program}{w:World}:∀{ks:List Key}{us:List Value},Vals (ks.map kV) us->ItemsAre (g6 P w) ks us
 | [],_,r=>by rw[d8]at r;cases r;exact .nil
 | k::ks,_,r=>by
   rw[aH]at r;cases r with
   | cons h t=>exact .cons (yq h) (Dm t)
abbrev KT(H:Hp):List (List Key×V)->List (List Key×Addr×Value)->Prop:=Paired λp q=>p.1=q.1/\H q.2.1=some (.tup (p.1.map kV))/\RelV p.2 q.2.2
theorem KT.val{H:Hp}{η:List (List Key×V)}{xs:List (List Key×Addr×Value)}(r:KT H η xs)(k:List Key):iF (f8 η k) ((atKey xs k).map (·.2)):=by
 induction r with
 | nil=>exact True.intro
 | @cons p q ps qs h t ih=>
   obtain⟨h1,_,h2⟩:=h;by_cases e:p.1=k
   .have e':q.1=k:=h1.symm.trans e;have b:atKey (q::qs) k=some q.2:=(by simp[atKey,gf,e']);rw[i9 e,b];exact h2
   .have e':¬q.1=k:=λz=>e (h1.trans z);have b:atKey (q::qs) k=atKey qs k:=(by simp[atKey,gf,e']);rw[iX e,b];exact ih
theorem KT.repl{H:Hp}{η:List (List Key×V)}{xs:List (List Key×Addr×Value)}(r:KT H η xs)(k:List Key){y:V}{u:Value}(ry:RelV y u):KT H (η.map λkv=>if kv.1=k then(kv.1,y)else kv) (xs.map (putAt k u)):=by
 induction r with
 | nil=>exact .nil
 | @cons p q ps qs h t ih=>
   rw[aH,aH];refine .cons ?_ ih;obtain⟨h1,h2,h3⟩:=h;unfold putAt;by_cases e:p.1=k
   .rw[aj e,aj (h1.symm.trans e)];exact⟨h1,h2,ry⟩
   .rw[ag e,ag (λz=>e (h1.trans z))];exact⟨h1,h2,h3⟩
theorem KT.put{H:Hp}{η:List (List Key×V)}{xs:List (List Key×Addr×Value)}(r:KT H η xs)(k:List Key){b:Addr}{y:V}{u:Value}(hb:H b=some (.tup (k.map kV)))(ry:RelV y u):KT H (ig η k y) (storedH xs k b u):=by
 have e:(η.any λkv=>decide (kv.1=k))=(atKey xs k).isSome:=by
  rw[tP,(r.val k).Ϙ,gC]
 unfold ig storedH;rw[e];by_cases q:(atKey xs k).isSome=true
 .rw[aj q,aj q];exact r.repl k ry
 .rw[ag q,ag q];exact Paired.snoc r ⟨rfl,hb,ry⟩
theorem KT.keeps{H H':Hp}{η:List (List Key×V)}{xs:List (List Key×Addr×Value)}(r:KT H η xs)(ht:∀b ys,H b=some (.tup ys)->H' b=some (.tup ys)):KT H' η xs:=Paired.aaS r λ_ _ z=>⟨z.1,ht _ _ z.2.1,z.2.2⟩
section
variable{P:Program}{w:World}{H:Hp}{h:Heap}{a:Addr}
theorem Qx{u:HO}(ok:Ϥ P w H h)(e:Rd H a u):Γ P w H h a u:=e.ok ok
theorem xW{η:List (Key×V)}(ok:Ϥ P w H h)(e:Rd H a (.dK η)):η.length<=sizeLine/\(a==sysModules)=false/\∃vs,KV η vs/\h.DictOf (g6 P w) a vs:=show Γ P w H h a (.dK η)from Qx ok e
theorem EA{η:List (Key×V)}(ok:Ϥ P w H h)(e:H a=some (.dK η)):η.length<=sizeLine/\(a==sysModules)=false/\∃vs,KV η vs/\h.DictOf (g6 P w) a vs:=xW ok (.inl e)
theorem xq{ks:List Key}(ok:Ϥ P w H h)(e:H a=some (.tup (ks.map kV))):(tupleKind (g6 P w)).is h ks a:=by
 obtain⟨_,its,r,o,h1,h2,n,h3⟩:=(show Γ P w H h a (.tup (ks.map kV))from ok a _ e);exact⟨o,its.toArray,n,h1,h2,h3,by simpa using Dm r⟩
theorem AH{η:List (List Key×V)}(ok:Ϥ P w H h)(e:Rd H a (.dT η)):η.length<=sizeLine/\(a==sysModules)=false/\∃xs,KT H η xs/\h.DictOfH (tupleKind (g6 P w)) a xs:=by
 obtain⟨z,y,xs,r,o,es,ep,h1,h2,h3,h4,h5⟩:=(show Γ P w H h a (.dT η)from Qx ok e);refine⟨z,y,xs,r,o,es,ep,h1,h2,h3,h4,λx hx=>?_,h5⟩;have all:∀{l:List (List Key×V)}{m:List (List Key×Addr×Value)},KT H l m->∀x∈m,(tupleKind (g6 P w)).is h x.1 x.2.1:=by
  intro l m q
  induction q with
  | nil=>intro x hx;exact nomatch hx
  | @cons p q ps qs hq t ih=>
    intro x hx;rcases ar.mp hx with e|hx
    .subst e;exact xq ok (by rw[<-hq.1];exact hq.2.1)
    .exact ih x hx
 exact all r x hx
theorem VL{η:List (List Key×V)}(ok:Ϥ P w H h)(e:H a=some (.dT η)):η.length<=sizeLine/\(a==sysModules)=false/\∃xs,KT H η xs/\h.DictOfH (tupleKind (g6 P w)) a xs:=AH ok (.inl e)
end
def ϙ(H:Hp)(a:Addr)(y:V)(r:Option V):Prop:=(∃η k,Rd H a (.dK η)/\y=kV k/\r=f8 η k)\/∃η k b,Rd H a (.dT η)/\y=.ref b/\H b=some (.tup (k.map kV))/\r=f8 η k
def XN(H:Hp)(a:Addr)(y v:V)(H':Hp):Prop:=(∃η k,H a=some (.dK η)/\y=kV k/\η.length<sizeLine/\H'=upd H a (.dK (ig η k v)))\/∃η k b,H a=some (.dT η)/\y=.ref b/\H b=some (.tup (k.map kV))/\η.length<sizeLine/\H'=upd H a (.dT (ig η k v))
theorem ϙ.k{H:Hp}{a:Addr}{η:List (Key×V)}{k:Key}(e:H a=some (.dK η)):ϙ H a (kV k) (f8 η k):=.inl ⟨η,k,.inl e,rfl,rfl⟩
theorem ϙ.t{H:Hp}{a b:Addr}{η:List (List Key×V)}{k:List Key}(e:H a=some (.dT η))(eb:H b=some (.tup (k.map kV))):ϙ H a (.ref b) (f8 η k):=.inr ⟨η,k,b,.inl e,rfl,eb,rfl⟩
theorem XN.k{H:Hp}{a:Addr}{η:List (Key×V)}{k:Key}{v:V}(e:H a=some (.dK η))(hl:η.length<sizeLine):XN H a (kV k) v (upd H a (.dK (ig η k v))):=.inl ⟨η,k,e,rfl,hl,rfl⟩
theorem XN.t{H:Hp}{a b:Addr}{η:List (List Key×V)}{k:List Key}{v:V}(e:H a=some (.dT η))(eb:H b=some (.tup (k.map kV)))(hl:η.length<sizeLine):XN H a (.ref b) v (upd H a (.dT (ig η k v))):=.inr ⟨η,k,b,e,rfl,eb,hl,rfl⟩
section
variable{X:Cx}{pins:List (Addr×Obj)}{σ:St}{H:Hp}{s:Shared}{a:Addr}{y v:V}{u r:Value}{o:Option V}{A:Around}{E:Value->Shared->Prop}
theorem Inv.big(I:Inv X pins σ H s):sysModules<s.heap.objs.size:=by
 have h:mainGlobals<s.heap.objs.size:=(I.mod.glob.keeps I.bk).lt;exact Nat.lt_trans (by decide) h
theorem Mg{Q:Value->Shared->Prop}(hu:A.units+1<cLine)(I:Inv X pins σ H s)(g:ϙ H a y (some v))(ry:RelV y u)(h:∀w' s',Inv X pins σ H s'->RelV v w'->Q w' s'):wpAny (model X.prog X.w) A (getItem (.ref a) u) Q E s:=by
 rcases g with⟨η,k,e,ey,l⟩|⟨η,k,b,e,ey,eb,l⟩
 .subst ey;obtain⟨z,hd,vs,rel,dd⟩:=xW I.τ e;obtain⟨w',hw,ZJ⟩:=iF.some_of (v:=v) (o:=valueAt vs k) (by rw[l];exact rel.val k);exact wpAny_getItem_of (yq ry) dd.mapOf hw (h w' _ (I.tok _) ZJ)
 .subst ey;cases(show u=Value.ref b from ry);obtain⟨z,hd,xs,rel,dd⟩:=AH I.τ e;obtain⟨w',hw,ZJ⟩:=iF.some_of (v:=v) (o:=(atKey xs k).map (·.2)) (by rw[l];exact rel.val k);obtain⟨p,hp,hp2⟩:=eA.mp hw;refine wpAny_getItem_heap (tupleKind_room_in1 hu) (xq I.τ eb) dd hp ?_;rw[hp2];exact h w' _ (I.tok _) ZJ
theorem WZ{Q:Value->Shared->Prop}(hu:A.units+1<cLine)(I:Inv X pins σ H s)(g:ϙ H a y o)(ry:RelV y u)(h:∀s',Inv X pins σ H s'->Q (.bool o.isSome) s'):wpAny (model X.prog X.w) A (compareOp .In u (.ref a)) Q E s:=by
 rcases g with⟨η,k,e,ey,l⟩|⟨η,k,b,e,ey,eb,l⟩
 .subst ey;obtain⟨z,hd,vs,rel,dd⟩:=xW I.τ e;refine wpAny_in_of (yq ry) hd dd.mapOf ?_;rw[<-(rel.val k).Ϙ,<-l];exact h _ (I.tok _)
 .subst ey;cases(show u=Value.ref b from ry);obtain⟨z,hd,xs,rel,dd⟩:=AH I.τ e;refine wpAny_in_heap (tupleKind_room_in1 hu) (xq I.τ eb) hd dd ?_;have q:=(rel.val k).Ϙ;rw[gC]at q;rw[<-q,<-l];exact h _ (I.tok _)
theorem QP{Q:Value->Shared->Prop}(hu:A.units+1<cLine)(I:Inv X pins σ H s)(g:ϙ H a y o)(ry:RelV y u)(h:∀s',Inv X pins σ H s'->Q (.bool (!o.isSome)) s'):wpAny (model X.prog X.w) A (compareOp .NotIn u (.ref a)) Q E s:=by
 rcases g with⟨η,k,e,ey,l⟩|⟨η,k,b,e,ey,eb,l⟩
 .subst ey;obtain⟨z,hd,vs,rel,dd⟩:=xW I.τ e;refine wpAny_notIn_of (yq ry) hd dd.mapOf ?_;rw[<-(rel.val k).Ϙ,<-l];exact h _ (I.tok _)
 .subst ey;cases(show u=Value.ref b from ry);obtain⟨z,hd,xs,rel,dd⟩:=AH I.τ e;refine wpAny_notIn_heap (tupleKind_room_in1 hu) (xq I.τ eb) hd dd ?_;have q:=(rel.val k).Ϙ;rw[gC]at q;rw[<-q,<-l];exact h _ (I.tok _)
theorem yh{h':Heap}{t':Nat}{ob:HO}(I:Inv X pins σ H s)(mu:Mut (H a))(hs:Heap.SameBut a s.heap h')(he:∃q,h'.get? a=some q)(new:Γ X.prog X.w (upd H a ob) h' a ob):Inv X pins σ (upd H a ob) { s with heap:=h',toks:=t' }:=I.write (x:=a) (e:=a) mu (.inl rfl) (λb q hb z=>(hs.2 b hb).trans z) he new
theorem Fa{P:Program}{w:World}{H':Hp}{h':Heap}{η:List (Key×V)}{vs:List (Key×Value)}(z:η.length<=sizeLine)(hd:(a==sysModules)=false)(rel:KV η vs)(dd:h'.DictOf (g6 P w) a vs):Γ P w H' h' a (.dK η):=⟨z,hd,vs,rel,dd⟩
theorem Ld{H':Hp}{Q:Unit->Shared->Prop}(hu:A.units+1<cLine)(I:Inv X pins σ H s)(g:XN H a y v H')(ry:RelV y u)(rv:RelV v r)(h:∀s',Inv X pins σ H' s'->Q () s'):wpAny (model X.prog X.w) A (setItem (.ref a) u r) Q E s:=by
 rcases g with⟨η,k,e,ey,l,eH⟩|⟨η,k,b,e,ey,eb,l,eH⟩
 .subst ey eH;obtain⟨z,hd,vs,rel,dd⟩:=EA I.τ e;have hz:vs.length<=sizeLine:=by rw[<-rel.length];exact z
  have hl:(ig η k v).length<=sizeLine:=by have:=oz η k v;lia
  refine wpAny_setItem_pairs (hsz:=hz) (yq ry) dd λh' dd' hs=>h _ ?_;have he:∃q,h'.get? a=some q:=let ⟨q,_,_,hq,_⟩:=dd';⟨q,hq⟩;exact yh I (by rw[e];exact True.intro) hs he (Fa hl hd (rel.put k rv) dd')
 .subst ey eH;cases(show u=Value.ref b from ry);obtain⟨z,hd,xs,rel,dd⟩:=VL I.τ e;have hz:xs.length<=sizeLine:=by rw[<-Paired.length rel];exact z
  have hl:(ig η k v).length<=sizeLine:=by have:=oz η k v;lia
  refine wpAny_setItem_heap (hsz:=hz) (tupleKind_room_in1 hu) (xq I.τ eb) dd λh' dd' hs=>h _ ?_;obtain⟨q,es,ep,hq,h2,h3,h4,_,h5⟩:=dd';refine yh I (by rw[e];exact True.intro) hs ⟨q,hq⟩ ⟨hl,hd,_,(rel.put k eb rv).keeps λc ys ec=>?_,q,es,ep,hq,h2,h3,h4,h5⟩;rw[aO (hW ec e (λz=>nomatch z))];exact ec
end
section
variable{X:Cx}{pins:List (Addr×Obj)}{σ:St}{H:Hp}{s:Shared}{a:Addr}{η:List (Key×V)}{k:Key}{u:Value}{A:Around}{E:Value->Shared->Prop}
theorem VB{Q:Value->Shared->Prop}(I:Inv X pins σ H s)(e:Rd H a (.dK η))(h:∀t s',Inv X pins σ H s'->Q (.int η.length t) s'):wpAny (model X.prog X.w) A (call (.builtin "len") [.ref a]) Q E s:=by
 obtain⟨z,hd,vs,rel,dd⟩:=xW I.τ e;refine call_len_dict hd dd (by rw[<-rel.length];rw[sizeLine_eq]at z;lia) ?_;rw[<-rel.length];exact h _ _ (I.tok _)
end
def Tt(i:Expr):Prop:=∀ov iv,subscripted i false ov iv=operate [ov,iv] (getItem ov iv)
theorem RL{prog:Program}{w:World}{A:Around}{E:Value->Shared->Prop}{s:Shared}{env:Env}{value slice:Expr}{pos:Pos}{T id:String}{Q:Value->Shared->Prop}(hl:typeLookup (.type T) "__getitem__"=pure (some (.builtin id)))(hs:Tt slice)(h:wpAny (model prog w) A (eval value env) (λo s₁=>wpAny (model prog w) A (eval slice env) (λi s₂=>s₂.TypeIs o T/\wpAny (model prog w) A (getItem o i) Q E s₂) E s₁) E s):wpAny (model prog w) A (eval (.Subscript value slice pos) env) Q E s:=by
 refine Subscript_ (b9 h (λo s₁ h₁=>b9 h₁ (λi s₂ h₂=>?_) λ_ _ x=>x) λ_ _ x=>x);obtain⟨hT,h₂⟩:=h₂;unfold subscriptTail;refine ak ?_;rw[getitemInPython_of_ne hT.not_modules];refine ak (lq hT hl ?_);have fin:wpAny (model prog w) A (subscripted slice false o i) (λr s₃=>wpAny (model prog w) A (letTemporaryGo value o r>>=λ_=>pure r) Q E s₃) E s₂:=by
  rw[hs o i];exact wpAny_operating (b9 h₂ (λr s₃ h₃=>ak (wpAny_letTemporaryGo (aR h₃))) λ_ _ x=>x)
 first
  | exact aR (ak fin)
  | exact ak (aR (ak fin))
  | exact ak fin
theorem Ho{X:Cx}{pins:List (Addr×Obj)}{σ:St}{H:Hp}{s:Shared}{a:Addr}{y:V}{o:Option V}(I:Inv X pins σ H s)(g:ϙ H a y o):s.TypeIs (.ref a) "dict":=by
 rcases g with⟨η,k,e,_,_⟩|⟨η,k,b,e,_,_,_⟩
 .obtain⟨_,_,vs,_,dd⟩:=xW I.τ e;exact dd.typeIs
 .obtain⟨_,_,xs,_,dd⟩:=AH I.τ e;exact dd.typeIs
def KW(td ty:TE):TE:=λσ H Q=>td σ H λx H1=>ty σ H1 λy H2=>∃a v,x=.ref a/\ϙ H2 a y (some v)/\Q v H2
def OX(ty td:TE):TE:=λσ H Q=>ty σ H λy H1=>td σ H1 λx H2=>∃a o,x=.ref a/\ϙ H2 a y o/\Q (.bl o.isSome) H2
def Ca(ty td:TE):TE:=λσ H Q=>ty σ H λy H1=>td σ H1 λx H2=>∃a o,x=.ref a/\ϙ H2 a y o/\Q (.bl (!o.isSome)) H2
def Kk(td ty tv:TE):TS:=λD σ H=>tv σ H λv H1=>td σ H1 λx H2=>ty σ H2 λy H3=>∃a H4,x=.ref a/\XN H3 a y v H4/\D.nx σ H4
section
variable{X:Cx}{o i e value:Expr}{pos pos' Ge:Pos}{td ty tv:TE}
theorem vw(hu:X.A.units+1<cLine)(ho:PE X o td)(hi:PE X i ty)(hs:Tt i):PE X (.Subscript o i pos) (KW td ty):=by
 intro pins s σ H Q I h;refine RL PySem.F.slot_dict_getitem.lookup hs (d5 (ho pins s σ H _ I h) λu s1 x H1 I1 rx q1=>d5 (hi pins s1 σ H1 _ I1 q1) λiv s2 y H2 I2 ry ⟨a,v,ex,g,q2⟩=>?_);subst ex;obtain rfl:u=Value.ref a:=rx;exact⟨Ho I2 g,Mg hu I2 g ry λw' s3 I3 ZJ=>⟨v,H2,I3,ZJ,q2⟩⟩
theorem Vy(hu:X.A.units+1<cLine)(hi:PE X i ty)(ho:PE X o td):PC X .In i o (OX ty td):=by
 intro pins s σ H Q I h;refine d5 (hi pins s σ H _ I h) λiv s1 y H1 I1 ry q1=>d5 (ho pins s1 σ H1 _ I1 q1) λu s2 x H2 I2 rx ⟨a,ov,ex,g,q2⟩=>?_;subst ex;obtain rfl:u=Value.ref a:=rx;exact WZ hu I2 g ry λs3 I3=>⟨.bl ov.isSome,H2,I3,rfl,q2⟩
theorem Lh(hu:X.A.units+1<cLine)(hi:PE X i ty)(ho:PE X o td):PC X .NotIn i o (Ca ty td):=by
 intro pins s σ H Q I h;refine d5 (hi pins s σ H _ I h) λiv s1 y H1 I1 ry q1=>d5 (ho pins s1 σ H1 _ I1 q1) λu s2 x H2 I2 rx ⟨a,ov,ex,g,q2⟩=>?_;subst ex;obtain rfl:u=Value.ref a:=rx;exact QP hu I2 g ry λs3 I3=>⟨.bl (!ov.isSome),H2,I3,rfl,q2⟩
theorem xU(hu:X.A.units+1<cLine)(ho:PE X o td)(hi:PE X i ty)(hv:PE X value tv)(hs:swapsWith value (some (.Subscript o i pos')) pos.line X.env=pure false):PS X (.Assign [.Subscript o i pos'] value pos) (Kk td ty tv):=by
 intro pins s σ H D I h;refine wpAny_Assign_Subscript (d5 (hv pins s σ H _ I h) λr s1 v H1 I1 rv q1=>d5 (ho pins s1 σ H1 _ I1 q1) λu s2 x H2 I2 rx q2=>d5 (hi pins s2 σ H2 _ I2 q2) λiv s3 y H3 I3 ry ⟨a,H4,ex,g,q3⟩=>?_) hs;subst ex;obtain rfl:u=Value.ref a:=rx;exact Ld hu I3 g ry rv λs4 I4=>⟨σ,H4,I4,q3⟩
end
theorem Fn{P:Program}{w:World}{H:Hp}(h:Heap)(hb:sysModules<h.objs.size):Γ P w H (h.push { cls:=.type "dict",data:=.dict #[] }) h.objs.size (.dK []):=⟨bz _,beq_eq_false_iff_ne.mpr (Ne.symm (aV hb)),[],.nil,Heap.DictOf.new h⟩
theorem Om{P:Program}{w:World}{H:Hp}(h:Heap)(hb:sysModules<h.objs.size):Γ P w H (h.push { cls:=.type "dict",data:=.dict #[] }) h.objs.size (.dT []):=⟨bz _,beq_eq_false_iff_ne.mpr (Ne.symm (aV hb)),[],.nil,_,#[],0,ba _ rfl,⟨rfl,rfl,rfl⟩,rfl,rfl,List.nodup_nil⟩
def Y6:TE:=λ_ H Q=>∀p,H p=none->Q (.ref p) (upd H p (.dK []))
def Y7:TE:=λ_ H Q=>∀p,H p=none->Q (.ref p) (upd H p (.dT []))
section
variable{X:Cx}{pos:Pos}
theorem Oq:PE X (.Dict [] [] pos) Y6:=λpins s σ H Q I h=>
 wpAny_Dict_empty ⟨.ref s.heap.objs.size,_,I.laid (a:=s.heap.objs.size) (o:=.dK []) (t':=s.toks) (λ_ _ q=>aw _ q) (aA _) (Fn s.heap I.big),rfl,h _ (I.τ.fresh (aA _))⟩
theorem Ny:PE X (.Dict [] [] pos) Y7:=λpins s σ H Q I h=>
 wpAny_Dict_empty ⟨.ref s.heap.objs.size,_,I.laid (a:=s.heap.objs.size) (o:=.dT []) (t':=s.toks) (λ_ _ q=>aw _ q) (aA _) (Om s.heap I.big),rfl,h _ (I.τ.fresh (aA _))⟩
end
def xL:List (TE×TE)->St->Hp->(List (V×V)->Hp->Prop)->Prop
 | [],_,H,Q=>Q [] H
 | (tk,tv)::r,σ,H,Q=>tk σ H λx H1=>tv σ H1 λy H2=>xL r σ H2 λps H3=>Q ((x,y)::ps) H3
abbrev VV:List (V×V)->List (Value×Value)->Prop:=Paired λp q=>RelV p.1 q.1/\RelV p.2 q.2
def PPs(X:Cx)(pos:Pos)(keys:List (Option Expr))(values:List Expr)(trs:List (TE×TE)):Prop:=∀(pins:List (Addr×Obj))(s:Shared)(σ:St)(H:Hp)(Q:List (V×V)->Hp->Prop),Inv X pins σ H s->xL trs σ H Q->wpAny (model X.prog X.w) X.A (evalPairs (pairTrees keys values X.env pos)) (λvs s'=>∃ps H',Inv X pins σ H' s'/\VV ps vs/\Q ps H') X.xe s
theorem IL{X:Cx}{pos:Pos}:PPs X pos [] [] []:=λpins s σ H Q I h=>pairTrees_nil_walk ⟨[],H,I,.nil,h⟩
theorem EI{X:Cx}{pos:Pos}{k v:Expr}{ks:List (Option Expr)}{vs:List Expr}{tk tv:TE}{trs:List (TE×TE)}(hk:PE X k tk)(hv:PE X v tv)(hr:PPs X pos ks vs trs):PPs X pos (some k::ks) (v::vs) ((tk,tv)::trs):=λpins s σ H Q I h=>
 pairTrees_cons_walk (d5 (hk pins s σ H _ I h) λu s1 x H1 I1 rx q1=>d5 (hv pins s1 σ H1 _ I1 q1) λw2 s2 y H2 I2 ry q2=>
  Ψ (hr pins s2 σ H2 _ I2 q2) λws s3 ⟨ps,H3,I3,rel,q3⟩=>⟨(x,y)::ps,H3,I3,.cons ⟨rx,ry⟩ rel,q3⟩)
def jU(η more:List (Key×V)):List (Key×V):=more.foldl (λacc kv=>ig acc kv.1 kv.2) η
theorem KV.merge:∀{more:List (Key×V)}{rs:List (Key×Value)}{η:List (Key×V)}{vs:List (Key×Value)},KV more rs->KV η vs->KV (jU η more) (merged vs rs):=by
 intro more rs η vs r;unfold KV at r
 induction r generalizing η vs with
 | nil=>intro q;exact q
 | @cons p q ps qs h t ih=>
   intro r0;have e:KV (ig η p.1 p.2) (stored vs q.1 q.2):=by
    have:=r0.put p.1 h.2;rw[<-h.1];exact this
   exact ih e
theorem oO:∀(more η:List (Key×V)),(jU η more).length<=η.length+more.length
 | [],η=>by show η.length<=η.length+0;lia
 | p::r,η=>by
   have h1:=oO r (ig η p.1 p.2);have h2:=oz η p.1 p.2;show(jU (ig η p.1 p.2) r).length<=_;rw[aE];lia
theorem AK{P:Program}{w:World}:∀{η:List (Key×V)}{ws:List (Value×Value)},VV (η.map λkv=>(kV kv.1,kv.2)) ws->∃rs,Carries (g6 P w) ws rs/\KV η rs
 | [],_,r=>by rw[d8]at r;cases r;exact⟨[],True.intro,.nil⟩
 | p::η,_,r=>by
   rw[aH]at r;cases r with
   | @cons a b as bs h t=>
     obtain⟨rs,c,q⟩:=AK (P:=P) (w:=w) t;obtain⟨b1,b2⟩:=b;exact⟨(p.1,b2)::rs,⟨yq h.1,rfl,c⟩,.cons ⟨rfl,h.2⟩ q⟩
def EE(trs:List (TE×TE)):TE:=λσ H Q=>∀p,H p=none->xL trs σ (upd H p (.dK [])) λps H2=>H2 p=some (.dK [])/\∃η:List (Key×V),ps=η.map (λkv=>(kV kv.1,kv.2))/\η.length<=15/\Q (.ref p) (upd H2 p (.dK (jU [] η)))
theorem Il{X:Cx}{pos:Pos}{keys:List (Option Expr)}{values:List Expr}{trs:List (TE×TE)}(h:PPs X pos keys values trs)(acH:keys.all (·.isSome)=true)(hl:keys.length=values.length)(h0:keys≠[])(h15:keys.length<=15):PE X (.Dict keys values pos) (EE trs):=by
 intro pins s σ H Q I q;have hn:=I.τ.fresh (aA s.heap.objs.size);have I1:=I.laid (a:=s.heap.objs.size) (o:=.dK []) (h':=s.heap.push { cls:=.type "dict",data:=.dict #[] }) (t':=s.toks) (λ_ _ q=>aw _ q) (aA _) (Fn s.heap I.big);refine wpAny_Dict_walk (knd:=g6 X.prog X.w) acH hl h0 h15 (Ψ (h pins _ σ _ _ I1 (q _ hn)) λws s2 ⟨ps,H2,I2,rel,e,η,ep,lk,q2⟩=>?_);subst ep;obtain⟨rs,c,rk⟩:=AK (P:=X.prog) (w:=X.w) rel;obtain⟨z,hd,vs0,r0,dd⟩:=EA I2.τ e;cases r0;refine⟨rs,c,dd,λh' dd' hs=>⟨.ref s.heap.objs.size,_,?_,rfl,q2⟩⟩;have hz:(jU [] η).length<=sizeLine:=by
  have h1:=oO η [];rw[eD]at h1;rw[sizeLine_eq];lia
 have he:∃q,h'.get? s.heap.objs.size=some q:=let ⟨q,_,_,hq,_⟩:=dd';⟨q,hq⟩;exact yh I2 (by rw[e];exact True.intro) hs he (Fa hz hd (rk.merge .nil) dd')
end L2
namespace Att
open PySem PySem.W PySem.Calls PyProof.Rows
theorem Ay{P:Params}{h:Heap}:∀(ns:List Int)(vs:List Value),WellAll P h vs (ns.map WData.int)->IntsAre vs ns:=by
 intro ns
 induction ns with
 | nil=>
   intro vs w;rw[d8]at w;cases w;exact .nil
 | cons n ns ih=>
   intro vs w;rw[aH]at w;cases w with
   | cons a b=>
     cases a;exact .cons _ _ (ih _ b)
theorem Lv{l:OpenLaw}{n:Nat}(hn:l.most=some n){P:Params}{h:Heap}{args:List WData}{vals:List Value}(abb:l.row.toRowW.claim.pre args=true)(hwl:WellAll P h vals args):∃a vs ns,vals=[Value.ref a]/\args=[WData.list (ns.map WData.int)]/\h.get? a=some { cls:=.type "list",data:=.seq vs.toArray }/\IntsAre vs ns/\ns.length<=n:=by
 have hsh:WShape.hasAll [] args [.list .int]=true:=(pre_splitW abb).1;have hc:l.pre.holds [] { args:=args }=true:=(pre_splitW abb).2;obtain⟨d,r,rfl,h1,h2⟩:=hasAllW_cons hsh;obtain rfl:=hasAllW_nil h2;obtain⟨xs,rfl,h3⟩:=hasW_list h1;obtain⟨ns,rfl⟩:=items_int h3;have hlen:ns.length<=n:=by
  unfold OpenLaw.pre at hc;have h4:(WTm.not (.lt (.lit (.int (n:Int))) (.len (.arg 0)))).holds [] { args:=[.list (ns.map .int)] }=true:=by
   have h4:=(holds_andW hc).1;rw[hn]at h4;exact h4
  have h5:=condW_of h4 (w_not (w_lt w_lit (w_len_list (w_arg rfl))));rw[ah]at h5;refine Nat.le_of_not_lt λq=>?_;have q':(n:Int)<((ns.length:Nat):Int):=by lia
  first
   | (rw[bg q']at h5;exact absurd h5 (by decide))
   | (simp at h5;lia)
 cases hwl with
 | cons w1 w2=>
   cases w2;cases w1 with
   | list ho acH=>exact⟨_,_,ns,rfl,rfl,ho,Ay ns _ acH,hlen⟩
theorem L8(l:OpenLaw)(args:List WData):l.row.toRowW.claim.post args (.bool true) args=true:=postW_of (r:=l.row.toRowW) (X:=(true==true))
 (show WShape.has [] (.bool true) .bool=true by first|rfl|decide|simp[WShape.has,WShape.arms,WShape.armsAll])
 (show(WTm.eq .res (.lit (.bool true))).value [] { args:=args,res:=some (.bool true),after:=args }=some (.bool (true==true))from w_eq_bool (w_res rfl) w_lit) rfl
theorem YD{l:OpenLaw}{n:Nat}{q:Program}{loose:List Str}{XP:(Str->Option Value)->Heap->Prop}{YP:World->Heap->Prop}{d:DefRec}(hn:l.most=some n)(hdf:d.params.defaults=[])(call:∀(w:World) (s₀ s₁:Shared) (mg mb:Str->Option Value) (fa:Addr) (o:Obj) (pm cd doc:Value) (a:Addr) (vs:List Value) (ns:List Int),Ground q loose [] XP w s₀ mg mb s₁.heap->YP w s₁.heap->s₁.heap.get? fa=some o->o.data=.func (docDef d.name d.params d.body d.scope pm cd doc)->s₁.heap.CodeRec cd d.name->mg d.name=some (.ref fa)->s₁.heap.get? a=some { cls:=.type "list",data:=.seq vs.toArray }->IntsAre vs ns->ns.length<=n->s₁.gens=#[]->codeAny (model l.prog w) callerA (.call (.ref fa) ⟨[.ref a],[]⟩) (λr s'=>r=.ok (.ret (.bool true))/\OldK s₁.heap s'.heap/\s'.os=s₁.os/\AllBare s'.gens) s₁):WalkO q loose XP YP l.row.toRowW d [] (λf vs=>PySem.call f vs):=by
 intro w s₀ s₁ mg mb G Y fa o pm cd doc dV kV ho hd ZF hD hmg hg args vals as abb aoz hrd hwl hlo;obtain rfl:dV=.none:=Dflts.none hD hdf;obtain rfl:kV=.none:=Dflts.noKw hD;obtain⟨a,vs,ns,rfl,rfl,acI,hints,hlen⟩:=Lv hn abb hwl;refine enter_call (iU (call w s₀ s₁ mg mb fa o pm cd doc a vs ns G Y ho (fd_plain hd) ZF hmg acI hints hlen hg) λr s' hq=>?_);obtain⟨rfl,h2,h3,h4⟩:=hq;exact⟨.inl ⟨.bool true,.bool true,[],rfl,λ_=>rfl,.bool true,L8 l _,λ_=>⟨List.Pairwise.nil,λ_ hm=>(nomatch hm)⟩⟩,h2,h3,h4⟩
end Att
namespace L2
open PySem PySem.Spec PyProof.Rows
theorem DK:∀{vs:List Value}{ns:List Int},IntsAre vs ns->Vals (ns.map V.int) vs
 | _,_,.nil=>.nil
 | _,_,.cons n t h=>.cons ⟨t,rfl⟩ (DK h)
def PY(H:Hp):Prop:=∀b,H b=none\/∃o xs,H b=some (.Z2 o (.lst xs))
theorem OS{P:Program}{w:World}{K:PySem.W.Frag}{mg mb:Str->Option Value}{CX:nE}{k:Nat}{fa a:Addr}{fd:FuncData}{x:Str}{sp:Sp}{s₁:Shared}{vs:List Value}{ns:List Int}(KX:K.In s₁.heap)(hns:s₁.heap.Ns mainGlobals mg)(hb:s₁.heap.Ns builtinsNs mb)(hbb:∀x:Str,x≠"__name__"->mb x=bootBuiltins x)(aiQ:s₁.heap.NoLimit)(hg:s₁.gens=#[])(ha:s₁.heap.get? a=some { cls:=.type "list",data:=.seq vs.toArray })(hi:IntsAre vs ns)(hl:ns.length<=sizeLine)(hr:Ι k callerA)(F:∀base:Heap,K.In base->base.Ns mainGlobals mg->Ω P w K mg base CX k fa fd [x] sp)(aew:∀(s:Shared) (u:Value),BindsTo s fd ⟨[u],[]⟩ [(x,u)])(hsp:∀H:Hp,PY H->μ K H a (ns.map V.int)->sp [.ref a] H (λv _=>v=.bl true) λ_ _ _=>False)(hCX:∀H e s',CX [] H s₁ (λ_ _ _=>False) e s'->False):codeAny (model P w) callerA (.call (.ref fa) ⟨[.ref a],[]⟩) (λr s'=>r=.ok (.ret (.bool true))/\OldK s₁.heap s'.heap/\s'.os=s₁.os/\AllBare s'.gens) s₁:=by
 have rv:=DK hi;have aiS:=hi.length;have core:∀H:Hp,PY H->μ K H a (ns.map V.int)->Ϥ P w H s₁.heap->(∀b,H b≠none->b=a)->(H a≠none->K.lookup a=none)->codeAny (model P w) callerA (.call (.ref fa) ⟨[.ref a],[]⟩) (λr s'=>r=.ok (.ret (.bool true))/\OldK s₁.heap s'.heap/\s'.os=s₁.os/\AllBare s'.gens) s₁:=by
  intro H hO hS τ hA hK;have Zn:∀{b:Addr}{o:Obj},s₁.heap.get? b=some o->H b=none->(vJ s₁.heap H).get? b=some o:=λe n=>Nj e n;have noA:∀{b:Addr}{o:Obj}{es:Array DictEntry}{ep:Nat},s₁.heap.get? b=some o->o.data=.dict es ep->H b=none:=λ{b o es ep} e d=>by
   cases q:H b with
   | none=>rfl
   | some u=>
     have e':b=a:=hA b (by rw[q];simp);subst e';rw[ha]at e;cases e;have d':Data.seq vs.toArray _=Data.dict es ep:=d;cases d'
  have nsK:∀{b:Addr}{m:Str->Option Value},s₁.heap.Ns b m->(vJ s₁.heap H).Ns b m:=λ{b m} ⟨o,es,ep,e,d,r⟩=>⟨o,es,ep,Zn e (noA e d),d,r⟩;have hKb:K.In (vJ s₁.heap H):=λb o e=>Zn (KX b o e) (by
   cases q:H b with
   | none=>rfl
   | some u=>
     have e':b=a:=hA b (by rw[q];simp);subst e';rw[hK (by rw[q];simp)]at e;cases e)
  have hM:Mod K mg (vJ s₁.heap H):=⟨hKb,nsK hns,⟨mb,nsK hb,hbb⟩,let ⟨mc,h1,h2⟩:=aiQ;⟨mc,nsK h1,h2⟩⟩;have e0:Y2 P w K mg (vJ s₁.heap H) callerA [] s₁ H:=⟨rfl,hM,λb o e=>Q4 e,mY (Mn _ _),trivial,λb hb=>absurd (show b∈([]:List Addr)from hb) (by simp),τ,.of_eq hg⟩;refine iU ((F _ hKb (nsK hns)).run callerA [] s₁ H ⟨[.ref a],[]⟩ [.ref a] [.ref a] _ _ hr e0 (aew s₁ (.ref a)) (.cons rfl .nil) (hsp H hO hS)) λr s' h=>?_;cases r with
  | error e=>exact(hCX H e s' h).elim
  | ok fl=>
    cases fl with
    | next=>exact False.elim h
    | brk=>exact False.elim h
    | cont=>exact False.elim h
    | ret u=>
      obtain⟨v,H',os,bare,un,acJ,r',q⟩:=h;have q':v=.bl true:=q;subst q';obtain rfl:u=Value.bool true:=r';refine⟨rfl,OldK.of_keep λb o e=>?_,os,bare⟩;cases q:H b with
      | none=>exact un.keep b o e q (by intro z;exact absurd (show b∈([]:List Addr)from z) (by simp)) (by simp)
      | some u=>
        rcases hO b with z|⟨ob,xs,z⟩
        .rw[q]at z;cases z
        .have z2:=un.ϥ b ob _ z;obtain⟨e1,_⟩:=τ b _ z;obtain⟨e2,_⟩:=acJ b _ z2;rw[e]at e1;cases e1;exact e2
 cases hk:K.lookup a with
 | some o=>
   have e:=KX a o hk;rw[ha]at e;cases e;refine core (λ_=>none) (λ_=>.inl rfl) (.inr ⟨_,vs.toArray,_,hk,rfl,rfl,rfl,by rw[aN,aiS];exact hl,by simpa using rv⟩) (λb u z=>by have z':(none:Option HO)=some u:=z;cases z') (λb z=>absurd rfl z) λz=>absurd rfl z
 | none=>
   refine core (λb=>if b=a then some (.Z2 { cls:=.type "list",data:=.seq vs.toArray } (.lst (ns.map V.int)))else none) (λb=>?_) (.inl (.inr ⟨{ cls:=.type "list",data:=.seq vs.toArray },aj rfl⟩)) (λb u z=>?_) (λb z=>?_) λ_=>hk
   .by_cases hb:b=a
    .exact .inr ⟨_,_,aj hb⟩
    .exact .inl (ag hb)
   .by_cases hb:b=a
    .have z':=(aj hb).symm.trans z;cases z';subst hb;exact⟨ha,by rw[ah];exact hl,vs,_,rv,ha⟩
    .have z':=(ag hb).symm.trans z;cases z'
   .by_cases hb:b=a
    .exact hb
    .exact absurd (ag hb) z
theorem abd{l:PySem.W.OpenLaw}{n k:Nat}{q:Program}{loose:List Str}{XP:(Str->Option Value)->Heap->Prop}{YP:World->Heap->Prop}{d:DefRec}{K:Params->PySem.W.Frag}{CX:World->nE}{sp:World->Sp}{x:Str}(hn:l.most=some n)(hn2:n<=sizeLine)(hdf:d.params.defaults=[])(hr:Ι k callerA)(hY:∀(w:World) (h:Heap),YP w h->(K w.params).In h)(F:∀(w:World) (mg:Str->Option Value) (fa:Addr) (h:Heap),(K w.params).In h->h.Ns mainGlobals mg->mg d.name=some (.ref fa)->∃fd:FuncData,(∀(s:Shared) (u:Value),BindsTo s fd ⟨[u],[]⟩ [(x,u)])/\∀base:Heap,(K w.params).In base->base.Ns mainGlobals mg->Ω l.prog w (K w.params) mg base (CX w) k fa fd [x] (sp w))(hsp:∀(w:World) (H:Hp) (a:Addr) (ns:List Int),ns.length<=n->PY H->μ (K w.params) H a (ns.map V.int)->sp w [.ref a] H (λv _=>v=.bl true) λ_ _ _=>False)(hCX:∀(w:World) (H:Hp) (s:Shared) (e:Value) (s':Shared),CX w [] H s (λ_ _ _=>False) e s'->False):PySem.W.WalkO q loose XP YP l.row.toRowW d [] (λf vs=>PySem.call f vs):=by
 refine Att.YD hn hdf λw s₀ s₁ mg mb fa o pm cd doc a vs ns G Y ho hd ZF hmg acI hints hlen hg=>?_;have KX:=hY w _ Y;obtain⟨fd,hb,hF⟩:=F w mg fa _ KX G.T.g hmg;exact OS KX G.T.g G.T.b G.T.builtins G.T.nolimit hg acI hints (aU hlen hn2) hr hF hb (λH hO hS=>hsp w H a ns hlen hO hS) λH e s'=>hCX w H s₁ e s'
def Jp(s:Stmt)(j:Nat):Stmt:=match s with
 | .ClassDef _ _ _ body _ _ _ _ _ _ _=>body.getD j (.Pass ⟨0,0,0,0⟩)
 | _=>.Pass ⟨0,0,0,0⟩
def iA(s:Stmt):Arguments:=match s with
 | .FunctionDef _ a _ _ _ _ _ _ _ _=>a
 | _=>{ posonlyargs:=[],args:=[],vararg:=none,kwonlyargs:=[],kw_defaults:=[],kwarg:=none,defaults:=[] }
def gM(s:Stmt):List Stmt:=match s with
 | .FunctionDef _ _ b _ _ _ _ _ _ _=>b
 | _=>[]
def aJ(s:Stmt):Scope:=match s with
 | .FunctionDef _ _ _ _ _ _ sc _ _ _=>sc
 | _=>{ kind:=.function,names:=[],isGenerator:=false,isCoroutine:=false }
abbrev CX0:nE:=λ_ _ _ _ _ _=>False
abbrev E0:XK:=λ_ _ _=>False
structure Y8(K:PySem.W.Frag)(x qual:Str)(st:Stmt)(f:Addr)(fd:FuncData):Prop where
 ex:∃(oc:Value)(od:Option Addr)(kV doc pm:Value)(an:Option Addr)(ς ct:Value)(osl:Array (Option Value)),fd=PySem.W.fnOf x qual (iA st) (gM st) (aJ st) .none kV doc pm an ς ct/\K.lookup f=some ⟨oc,od,.func fd,osl⟩/\PySem.W.codeIn K ς qual=true
 kp:PySem.W.keepIn K (.ref f)=true
section
variable{P:Program}{w:World}{K:PySem.W.Frag}{mg:Str->Option Value}{base:Heap}
theorem Y8.binds{x qual:Str}{st:Stmt}{f:Addr}{fd:FuncData}{ps:List Str}(F:Y8 K x qual st f fd)(h:∀(kV doc pm:Value) (an:Option Addr) (ς ct:Value) (us:List Value),us.length=ps.length->bindArgs (PySem.W.fnOf x qual (iA st) (gM st) (aJ st) .none kV doc pm an ς ct) ⟨us,[]⟩=pure (ps.zip us)):Binds K fd ps []:=by
 obtain⟨oc,od,kV,doc,pm,an,ς,ct,osl,rfl,lk,ZF⟩:=F.ex;exact .all (h kV doc pm an ς ct)
theorem Bk{x qual:Str}{st:Stmt}{f:Addr}{oc:Value}{od an:Option Addr}{osl:Array (Option Value)}{kV doc pm ς ct:Value}(l:K.lookup f=some ⟨oc,od,.func (PySem.W.fnOf x qual (iA st) (gM st) (aJ st) .none kV doc pm an ς ct),osl⟩)(c:PySem.W.codeIn K ς qual=true)(k:PySem.W.keepIn K (.ref f)=true):Y8 K x qual st f (PySem.W.fnOf x qual (iA st) (gM st) (aJ st) .none kV doc pm an ς ct):=⟨⟨oc,od,kV,doc,pm,an,ς,ct,osl,rfl,l,c⟩,k⟩
end
theorem oS{A:Around}{k:Nat}(hr:Ι k A):A.units+1<cLine:=fu (Nat.add_le_add_left (by decide:1<=64) _) hr.units
section
variable{X:Cx}
theorem pv(i:Nat){x:Str}{pos:Pos}(hN:X.N[i]?=some x:=by rfl)(hv:Vis X.env.scope x:=by first|exact Or.inl rfl|exact Or.inr (Or.inl rfl)|exact Or.inr (Or.inr rfl))(hd:(x==("__debug__":Str))=false:=by decide)(ZF:(x==("__classdict__":Str))=false:=by decide):PE X (.Name x pos) (wX i):=F2 hN hv hd ZF
end
theorem Ud{A B:Prop}(h:B):if false=true then A else B:=by
 rw[ag bh];exact h
theorem RY{A B:Prop}(h:A):if true=true then A else B:=by
 rw[aj rfl];exact h
def δ(H H':Hp):Prop:=∀b o,H b=some o->H' b=some o
theorem δ.refl(H:Hp):δ H H:=λ_ _ h=>h
theorem δ.trans{H H1 H2:Hp}(a:δ H H1)(b:δ H1 H2):δ H H2:=λc o h=>b c o (a c o h)
theorem δ.free{H H':Hp}(e:δ H H'){l:Addr}(h:H' l=Option.none):H l=Option.none:=by
 cases q:H l with
 | none=>rfl
 | some o=>
   rw[e l o q]at h;cases h
theorem δ.seq{K:PySem.W.Frag}{H H':Hp}{a:Addr}{xs:List V}(e:δ H H')(h:μ K H a xs):μ K H' a xs:=by
 rcases h with(h|⟨o,h⟩)|h
 .exact .inl (.inl (e _ _ h))
 .exact .inl (.inr ⟨o,e _ _ h⟩)
 .exact .inr h
section
variable{X:Cx}
theorem LM:kR X (.builtin "len") (λxs H Q=>∃a η,xs=[V.ref a]/\H a=some (.dK η)/\Q (.int η.length) H):=by
 intro pins s σ H xs us Q I r h;obtain⟨a,η,rfl,ha,q⟩:=h;obtain⟨u,rfl,ru⟩:=sy r;cases ru;exact VB I (.inl ha) λt s' I'=>⟨.int η.length,H,I',⟨t,rfl⟩,q⟩
end
def Cx.comp(X:Cx)(Nc:List Str)(scope:Scope)(cl:List (Str×Addr))(C:Addr)(s₂:Shared)(H₁:Hp)(fp:List Addr):Cx where
 prog:=X.prog
 w:=X.w
 K:=X.K
 mg:=X.mg
 base:=X.base
 A:=X.A
 N:=Nc
 s₀:=s₂
 H₀:=H₁
 env:=compEnvC scope cl C X.env
 outer:=X.stack
 stack:=X.stack
 ex:=fp
 fn:=λ_=>false
 calm:=X.calm
 pn:=[]
 xe:=λ_ _=>False
structure ϝ(X:Cx)(Nc:List Str)(own:Nat)(js:List Nat)(scope:Scope)(cl:List (Str×Addr)):Prop where
 acK:closureFor scope X.env=pure cl
 kind:scope.kind=.function
 Y9:∀y∈scope.names,y.2≠.cell
 names:∀y∈scope.names,y.2=.local->scope.names.lookup y.1=some .local
 cells:∀x c,cl.lookup x=some c->X.env.cells.lookup x=some c
 has:∀x,((relabel scope X.env).names.lookup x=some .cell\/(relabel scope X.env).names.lookup x=some .free)->∃c,cl.lookup x=some c
 len:Nc.length=own+js.length
 outer:∀i x,Nc[own+i]?=some x->∃j,js[i]?=some j/\X.N[j]?=some x/\X.env.scope.names.lookup x=some .cell/\(relabel scope X.env).names.lookup x=some .cell
def mB(own:Nat)(js:List Nat)(σ:St):St:=List.replicate own none++js.map λj=>(σ[j]?).getD none
def Ks(own:Nat)(js:List Nat)(wi:TI)(g:TG)(tc:TT)(te:TE):TE:=λσ H Q=>wi σ H λJ H1=>∀p,H1 p=none->∃W:Nat->Nat->List V->St->Hp->Prop,(∃m,W 0 m [] (mB own js σ) (upd H1 p (.lst [])))/\∀i m ys σc Hc,W i m ys σc Hc->(J.stop i Hc/\Q (.ref p) Hc)\/(J.go i Hc/\∀x H',J.yld i Hc x H'->g x σc H' λσ2 H2=>tc σ2 H2 λb H3=>
 if b=true then te σ2 H3 λy H4=>H4 p=some (.lst ys)/\ys.length<sizeLine/\∃m',m'<m/\W (i+1) m' (ys++[y]) σ2 (upd H4 p (.lst (ys++[y])))
 else ∃m',m'<m/\W (i+1) m' ys σ2 H3)
def PTs(X:Cx)(ifs:List Expr)(t:TT):Prop:=∀(pins:List (Addr×Obj))(s:Shared)(σ:St)(H:Hp)(Q:Bool->Hp->Prop),Inv X pins σ H s->t σ H Q->wpAny (model X.prog X.w) X.A (forIn ifs true λc r=>if r=true then do let ok <-isTrue c X.env (eval c X.env);pure (ForInStep.yield ok)else pure (ForInStep.yield r)) (TP X pins σ Q) X.xe s
def acL:TT:=λ_ H Q=>Q true H
theorem mS{X:Cx}:PTs X [] acL:=λpins s σ H Q I h=>wpAny_tests_nil ⟨H,I,h⟩
theorem uQ{X:Cx}{c:Expr}{t:TT}(h:PT X c t):PTs X [c] t:=λpins s σ H Q I q=>wpAny_tests_one (h pins s σ H Q I q)
section
variable{prog:Program}{w:World}{A:Around}{E:Value->Shared->Prop}{R:Result->Shared->Prop}{s:Shared}
theorem yU{elt target iter:Expr}{ifs:List Expr}{scope:Scope}{pos:Pos}{it acc:Value}{env:Env}(I:Nat->Shared->Prop)(turn:∀n s,I n s->wpAny (model prog w) A (pyNext it) (λr s₁=>match r with
 | none=>R (.ok .next) s₁
 | some v=>wpAny (model prog w) A (letOwnedTupleGo target it v) (λ_ abY=>wpAny (model prog w) A (assign target env v) (λ_ s₂=>
  wpAny (model prog w) A (forIn ifs true λc r=>if r=true then do let ok <-isTrue c env (eval c env);pure (ForInStep.yield ok)else pure (ForInStep.yield r)) (λok s₃=>
   if ok=true then wpAny (model prog w) A (eval elt env) (λx s₄=>
    wpAny (model prog w) A (call (.builtin "list.append") [acc,x]) (λ_ s₅=>∃m,m<n/\I m s₅) (λ_ _=>False) s₄) (λ_ _=>False) s₃
   else ∃m,m<n/\I m s₃) (λ_ _=>False) s₂) (λ_ _=>False) abY) (λ_ _=>False) s₁) (λ_ _=>False) s)(n:Nat)(h:I n s):codeAny (model prog w) A (.compLoop (.ListComp elt [⟨target,iter,ifs,0⟩] scope pos) 0 it acc env) R s:=by
 refine codeAny_loop rfl I (λn s hI=>?_) n h;show wpAny _ A ((compTurn (.ListComp elt [⟨target,iter,ifs,0⟩] scope pos) 0 it acc env).onRaise (λx=>do noteFrame x env;theTreesLotGoes x)) _ _ s;refine wpAny_noted ?_;rw[compTurn_list];refine ak (iu (ak (b9 (turn n s hI) (λr s₁ h₁=>?_) λ_ _ h'=>h'.elim)));cases r with
 | none=>exact aR h₁
 | some v=>
   refine ak (b9 h₁ (λ_ abY aey=>?_) λ_ _ h'=>h'.elim);refine ak (b9 aey (λ_ s₂ h₂=>ak (b9 h₂ (λok s₃ h₃=>?_) λ_ _ h'=>h'.elim)) λ_ _ h'=>h'.elim);cases ok with
   | true=>
     rw[aj rfl]at h₃;simp only[if_true];exact ak (ak (b9 h₃ (λx s₄ h₄=>ak (b9 h₄ (λ_ s₅ h₅=>aR (aR ⟨rfl,h₅⟩)) λ_ _ h'=>h'.elim)) λ_ _ h'=>h'.elim))
   | false=>
     rw[ag bh]at h₃;simp only[bR,if_false]
     first
      | exact aR ⟨rfl,h₃⟩
      | exact ak (aR (aR ⟨rfl,h₃⟩))
end
section
variable{X:Cx}{Nc:List Str}{own:Nat}{js:List Nat}{scope:Scope}{cl:List (Str×Addr)}
theorem CT{pins:List (Addr×Obj)}{σ:St}{H₁:Hp}{s₂:Shared}{C:Addr}{fp:List Addr}(T:ϝ X Nc own js scope cl)(I:Inv X pins σ H₁ s₂)(hC:s₂.heap.objs.size<=C)(f1:∀b∈fp,oV X pins H₁ b)(Χ:∀b∈fp,b<s₂.heap.objs.size):(X.comp Nc scope cl C s₂ H₁ fp).Ok where
 mod:=I.ok.mod
 kind:=by show(relabel scope X.env).kind=_;exact T.kind
 glob:=I.ok.glob
 blt:=I.ok.blt
 above:=hC
 inj:=λx y c h1 h2=>I.ok.inj x y c (T.cells x c h1) (T.cells y c h2)
 has:=λx h=>T.has x h
 cab:=λx c h=>by cases h
 hd:=I.ok.hd
 frames:=I.ok.frames
 stk:=.inl rfl
 exf:=λb hb=>⟨aV (aW (Χ b hb) hC),λx c h=>(f1 b hb).2.2.2.2.1 x c (T.cells x c h)⟩
 bs:=I.bs
 Z3:=aU I.ok.Z3 I.sz
 Yw:=λb o e hb=>by
  rcases(f1 b hb).2.2.2.1 with z|z
  .exact I.ok.Yw b o e z
  .exact absurd (aW (aG (I.ok.bs b o e).1) z) (cG _)
 X5:=λb hb hs=>by
  rcases ar.mp (I.X6 b hs)with z|z
  .exact(f1 b hb).2.1 z
  .exact(f1 b hb).2.2.1 z
 Ϸ:=I.stack
 frf:=I.bV
theorem Gg{pins:List (Addr×Obj)}{σ:St}{H₁:Hp}{s₂:Shared}{C D:Addr}{fp:List Addr}{h₁:Heap}{t:Nat}{m:Str->Option Value}(T:ϝ X Nc own js scope cl)(I:Inv X pins σ H₁ s₂)(hC:s₂.heap.objs.size<=C)(hD:s₂.heap.objs.size<=D)(hDC:D≠C)(f1:∀b∈fp,oV X pins H₁ b)(Χ:∀b∈fp,b<s₂.heap.objs.size)(old:∀b o,s₂.heap.get? b=some o->h₁.get? b=some o)(hns:h₁.Ns C m)(iN:∃n,h₁.get? D=some { cls:=.type "list",data:=.seq ([]:List Value).toArray n }):Inv (X.comp Nc scope cl C s₂ H₁ fp) [] (mB own js σ) (upd H₁ D (.lst [])) { s₂ with heap:=h₁,toks:=t }:=by
 obtain⟨na,iN⟩:=iN;have cellK:∀c v,s₂.heap.IsCell c v->h₁.IsCell c v:=λc v ⟨o,ho,hd⟩=>⟨o,old c o ho,hd⟩;refine⟨CT T I hC f1 Χ,rfl,I.bare,Un.laid old hD (I.τ.fresh hD),⟨m,hns,λi x v e1 e2 e3=>?_⟩,λx c e=>?_,?_,λx c e=>?_,λp hp=>(by cases hp),I.τ.laid old hD ?_,?_⟩
 .have hN:Nc[i]?=some x:=e1;have hσ:(mB own js σ)[i]?=some (some v):=e2;unfold mB at hσ;by_cases hi:i<own
  .rw[dA (by simpa using hi),d7]at hσ;simp[hi]at hσ
  .obtain⟨k,rfl⟩:∃k,i=own+k:=⟨i-own,by lia⟩;rw[dc (by simp)]at hσ;simp only[bT,Nat.add_sub_cancel_left,aF]at hσ;obtain⟨j,hj,hx,hk,hr⟩:=T.outer k x hN;rw[hj]at hσ;replace hσ:some (σ[j]?.getD none)=some (some v):=hσ;have aiT:σ[j]?=some (some v):=by
    cases q:σ[j]? with
    | none=>rw[q]at hσ;simp at hσ
    | some y=>rw[q]at hσ;simpa using hσ
   obtain⟨m0,hn0,hl0⟩:=I.loc;obtain⟨u,ru,lk⟩:=hl0 j x v hx aiT (.inr (.inl hk));refine⟨u,ru,.inr ⟨.inl hr,?_⟩⟩;rcases lk with⟨z,_⟩|⟨_,c,hc,ϳ⟩
   .have z':X.env.scope.names.lookup x=some .local:=z;rw[hk]at z';cases z'
   .obtain⟨c',ZE⟩:=T.has x (.inl hr);have:=T.cells x c' ZE;rw[hc]at this;cases this;exact⟨c,ZE,cellK c _ ϳ⟩
 .obtain⟨v,z⟩:=I.cell x c (T.cells x c e);exact⟨v,cellK c v z⟩
 .show upd H₁ D (.lst []) C=none;rw[aO (Ne.symm hDC)];exact I.τ.fresh hC
 .have e':=T.cells x c e;obtain⟨v,o,ho,_⟩:=I.cell x c e';rw[aO (aV (aW (aG ho) hD))];exact I.Ρ x c e'
 .exact⟨bz _,[],na,.nil,iN⟩
 .show(mB own js σ).length=Nc.length;rw[T.len];simp[mB]
theorem Ds{pins:List (Addr×Obj)}{σ σc:St}{H₁ H':Hp}{s₂ s':Shared}{C:Addr}{fp:List Addr}{h':Heap}(I:Inv X pins σ H₁ s₂)(hC:s₂.heap.objs.size<=C)(f1:∀b∈fp,oV X pins H₁ b)(I':Inv (X.comp Nc scope cl C s₂ H₁ fp) [] σc H' s')(hs:Heap.SameBut C s'.heap h'):Inv X pins σ H' { s' with heap:=h' }:=by
 have u:Un (ϛ X.stack) fp H₁ H' s₂.heap s'.heap:=I'.base;have ne:∀b o,s₂.heap.get? b=some o->b≠C:=λb o e=>aV (aW (aG e) hC);have k:∀b o,b≠C->s'.heap.get? b=some o->h'.get? b=some o:=λb o n e=>hs.extBut b o n e;have u':Un (ϛ X.stack) fp H₁ H' s₂.heap h':=⟨λb o e n hb hx=>k b o (ne b o e) (u.keep b o e n hb hx),λb o e n hb hx=>let ⟨sl,q⟩:=u.slot b o e n hb hx;⟨sl,k b _ (ne b o e) q⟩,u.free,λb o e hx=>let ⟨o',q⟩:=u.there b o e hx;⟨o',k b o' (ne b o e) q⟩,u.ϭ,u.ϥ,u.Ϯ⟩
 have Yy:H' C=none:=I'.free;have acJ:Ϥ X.prog X.w H' h':=λa o e=>(I'.τ a o e).Ϭ (λb v hb q=>k b v (λz=>by
  rcases hb with y|y
  .rw[y]at z;rw[z,Yy]at e;cases e
  .rw[z,Yy]at y;cases y) q) (λ_ q=>q) λ_ _ q=>q
 exact I.Z6 (s':={ s' with heap:=h' }) (ch:=fp) I'.os u' acJ I'.bare λb hb=>⟨(f1 b hb).2.2.2.1,(f1 b hb).2.1,(f1 b hb).2.2.2.2.1,(f1 b hb).2.2.2.2.2⟩
theorem kN{elt target iter:Expr}{ifs:List Expr}{pos:Pos}{wi:TI}{g:TG}{tc:TT}{te:TE}(hc:X.calm=true)(T:ϝ X Nc own js scope cl)(hi:PI X target iter wi)(hg:∀C s₂ H₁ fp,PG (X.comp Nc scope cl C s₂ H₁ fp) target g)(ht:∀C s₂ H₁ fp,PTs (X.comp Nc scope cl C s₂ H₁ fp) ifs tc)(he:∀C s₂ H₁ fp,PE (X.comp Nc scope cl C s₂ H₁ fp) elt te)(hs:∀x,foldedSetIterable iter X.env x=pure x:=by intro _;rfl):PE X (.ListComp elt [⟨target,iter,ifs,0⟩] scope pos) (Ks own js wi g tc te):=by
 intro pins s σ H Q I h;rw[eval_ListComp];refine wpAny_comprehension_free (use:=none) rfl hs T.acK T.kind T.names (Ψ (hi pins s σ H _ I h) λv s1 h1=>Ψ h1 λitv s2 h2=>?_);obtain⟨it,fp,tn,J,H1,rfl,I1,Tn,st,f1,R⟩:=h2;have hfp:∀b∈fp,b<s2.heap.objs.size:=λb hb=>let ⟨o,e,_⟩:=Tn.obj _ _ st b hb;aG e;refine fD (wpAny_newFunctionEnv T.Y9 (by intro y hy;simp at hy) (λh₁ Ϲ Ϟ=>?_) T.kind);dsimp only at Ϲ Ϟ ⊢;generalize hH2:s2.heap.push { cls:=.type "list",dict:=none,data:=.seq ([]:List Value).toArray }=H2 at Ϲ Ϟ ⊢;have hC:H2.objs.size=s2.heap.objs.size+1:=by rw[<-hH2,dF]
 have hDC:s2.heap.objs.size≠H2.objs.size:=by rw[hC];exact aV (eU _)
 have Xu:s2.heap.objs.size<=H2.objs.size:=by rw[hC];exact fe _
 have cR:∀b,b<s2.heap.objs.size->b≠H2.objs.size:=λb hb=>by rw[hC];exact aV (fE hb)
 have old:∀b o,s2.heap.get? b=some o->h₁.get? b=some o:=λb o e=>Ϟ.extBut b o (cR b (aG e)) (aw _ (hH2▸aw _ e));have iN:∃n,h₁.get? s2.heap.objs.size=some { cls:=.type "list",data:=.seq ([]:List Value).toArray n }:=⟨_,Ϟ.extBut _ _ hDC (aw _ (hH2▸ba _ rfl))⟩;have YF:tn 0 h₁:=Tn.keep _ _ _ st λb _ o e=>old b o e;obtain⟨W,⟨m0,w0⟩,turn⟩:=R s2.heap.objs.size I1.fresh;have Ic:=Gg (t:=s2.toks+([]:List (Str×Value)).length) T I1 Xu (aA _) hDC f1 hfp old Ϲ iN;generalize hXc:X.comp Nc scope cl H2.objs.size s2 H1 fp=Xc at Ic;have stat:∀{H':Hp},(∀b∈fp,H' b=none)->∀b∈fp,oV Xc [] H' b:=λ{H'} hn b hb=>by
  subst hXc;exact⟨hn b hb,cR b (hfp b hb),(CT T I1 Xu f1 hfp).X5 b hb,.inl hb,λx c e=>(f1 b hb).2.2.2.2.1 x c (T.cells x c e),λp hp=>by cases hp⟩
 have fr0:∀b∈fp,upd H1 s2.heap.objs.size (.lst []) b=none:=λb hb=>by
  rw[aO (aV (hfp b hb))];exact(f1 b hb).1
 have aez:Xc.calm=true:=by subst hXc;exact hc
 have loop:∀s₃:Shared,s₃={ s2 with heap:=h₁,toks:=s2.toks+([]:List (Str×Value)).length }->codeAny (model X.prog X.w) X.A (.compLoop (.ListComp elt [⟨target,iter,ifs,0⟩] scope pos) 0 (.ref it) (.ref s2.heap.objs.size) (compEnvC scope cl H2.objs.size X.env))
  (compPost (model X.prog X.w) X.A X.xe none (EP X pins σ Q) (.ref s2.heap.objs.size) H2.objs.size) s₃:=by
  rintro s₃ rfl;refine yU (λn s'=>∃i ys σ' H',Inv Xc [] σ' H' s'/\tn i s'.heap/\(∀b∈fp,H' b=none)/\W i n ys σ' H') ?_ m0 ⟨0,[],_,_,Ic,YF,fr0,w0⟩;rintro n s3 ⟨i,ys,σ3,H3,I3,st3,fr3,w3⟩;rcases turn i n ys σ3 H3 w3 with⟨stop,q⟩|⟨go,step⟩
  .subst hXc;refine Ψ (Tn.done (X.comp Nc scope cl H2.objs.size s2 H1 fp) rfl rfl rfl hc i [] s3 σ3 H3 _ I3 (stat fr3) st3 stop) λr s4 ⟨hr,I4⟩=>?_;subst hr;obtain⟨m4,hn4,_⟩:=id I4.loc;exact⟨m4,hn4,λh' hs'=>⟨.ref s2.heap.objs.size,H3,Ds I1 Xu f1 I4 hs',rfl,q⟩⟩
  .subst hXc;refine Ψ (Tn.item (X.comp Nc scope cl H2.objs.size s2 H1 fp) rfl rfl rfl hc i [] s3 σ3 H3 _ I3 (stat fr3) st3 go) λr s4 ⟨u,hr,h4⟩=>?_;subst hr;refine Ψ h4 λ_ s5 ⟨x,H5,I5,r5,y5,st5,fr5⟩=>?_;have I5':=I5.pinned (stat fr5) (Tn.obj _ _ st5);have back:∀{σ7:St}{H7:Hp}{s7:Shared},Inv (X.comp Nc scope cl H2.objs.size s2 H1 fp) ([]++ve fp s5.heap) σ7 H7 s7->Inv (X.comp Nc scope cl H2.objs.size s2 H1 fp) [] σ7 H7 s7/\tn (i+1) s7.heap/\∀b∈fp,H7 b=none:=λ{σ7 H7 s7} I7=>by
    refine⟨I7.Ϧ,Tn.keep _ _ _ st5 λb hb o e=>(I7.pin (b,o) (aY _ (aY _ (nR hb e)))).1,λb hb=>?_⟩;obtain⟨o,e,d⟩:=Tn.obj _ _ st5 b hb;exact(I7.pin (b,o) (aY _ (aY _ (nR hb e)))).2.1
   refine Ψ (hg _ _ _ _ _ s5 σ3 H5 x u _ I5' r5 (step x H5 y5)) λ_ s6 ⟨σ6,H6,I6,q6⟩=>?_;refine CU (ht _ _ _ _ _ s6 σ6 H6 _ I6 q6) λok s7 H7 I7 q7=>?_;cases ok with
   | false=>
     rw[ag bh]at q7 ⊢;obtain⟨m',hm,w7⟩:=q7;obtain⟨J1,J2,J3⟩:=back I7;exact⟨m',hm,i+1,ys,σ6,H7,J1,J2,J3,w7⟩
   | true=>
     rw[aj rfl]at q7 ⊢;refine d5 (he _ _ _ _ _ s7 σ6 H7 _ I7 q7) λy s8 yv H8 I8 r8 ⟨hp8,hl8,m',hm,w8⟩=>?_;refine Ψ (fY _ s8 σ6 H8 (.ref s2.heap.objs.size) [yv] _ [y] (λv' H'=>W (i+1) m' (ys++[yv]) σ6 H') I8 rfl (.cons r8 .nil) ⟨_,ys,yv,rfl,rfl,hp8,hl8,w8⟩) λv9 s9 ⟨_,H9,I9,_,w9⟩=>?_;obtain⟨J1,J2,J3⟩:=back I9;exact⟨m',hm,i+1,ys++[yv],σ6,H9,J1,J2,J3,w9⟩
 exact codeAny_compStart_list (loop _ rfl) (Tn.self _ 0 _ _ _ YF (loop _ rfl))
end
section
variable{X:Cx}
def X8:V->List V->Hp->VK->Prop:=λx vs H Q=>∃(l:Addr)(xs:List V)(i:Int)(y:V),x=.ref l/\vs=[.int i,y]/\H l=some (.lst xs)/\0<=i/\i<=xs.length/\xs.length<sizeLine/\Q .ο (upd H l (.lst (xs.take i.toNat++y::xs.drop i.toNat)))
theorem xT:MtM X "list.insert" X8:=by
 intro pins s σ H x vs v us Q I rx rv h;obtain⟨l,xs,i,y,rfl,rfl,hH,h0,hk,hz,q⟩:=h;cases rx;obtain⟨u1,u2,rfl,⟨t,rfl⟩,ru⟩:=rv.two;obtain⟨z,its,n,r,hl,e⟩:=I.Xs hH;have hn:=tQ;have hf:Builtin.List.listFitsIndex i=true:=by
  unfold Builtin.List.listFitsIndex;rw[cj];exact⟨bg (by lia),bg (by lia)⟩
 have hf':¬(!Builtin.List.listFitsIndex i)=true:=by rw[hf];decide
 have hzz:its.toArray.size<=sizeLine:=by rw[aN,<-hl];exact z
 refine call_meets fU ⟨_,e,rfl⟩ PySem.F.entry_list_insert (PySem.F.args_list_insert_3 _ _ _) (PySem.AutoSeq1.list_insert_list_int_val_1 l its.toArray n i t u2 hf' hzz) ⟨e,?_⟩;refine⟨.ο,_,I.aaf (its':=its.take i.toNat++u2::its.drop i.toNat) hH e ?_ ((r.take i.toNat).append (.cons ru (r.drop i.toNat))) ?_,rfl,q⟩
 .show(its.toArray.extract 0 (if i<0 then(i+(its.toArray.size:Int)).toNat else min i.toNat its.toArray.size)).push u2++its.toArray.extract (if i<0 then(i+(its.toArray.size:Int)).toNat else min i.toNat its.toArray.size)=_;have e0:(if i<0 then(i+(its.toArray.size:Int)).toNat else min i.toNat its.toArray.size)=i.toNat:=by
   rw[ag (by lia),aN]
   lia
  rw[e0];exact PySem.W.kl_ins_eq its i.toNat u2
 .rw[aP,aE,bd,dj]
  lia
theorem mR:ϸ X (binaryOp .Mult) (rI (λi j=>IntMulOk i j) λi j=>.int (i*j)):=opI λi j t u s Q E h q=>PyProof.Rows.mul_int q h
theorem Ql(hc:X.calm=true):kR X (.builtin "all") (λxs H Q=>∃(p:Addr)(bs:List Bool),xs=[.ref p]/\μ X.K H p (bs.map V.bl)/\Q (.bl (bs.all id)) H):=by
 intro pins s σ H xs us Q I r h;obtain⟨p,bs,rfl,hp,q⟩:=h;obtain⟨u,rfl,ru⟩:=sy r;cases ru;obtain⟨its,rv,pl,hz⟩:=I.list hp;have hl:=pl.isList;have Χ:=pl.lt;have hh:X.A.in1.handled=none:=I.ok.hd hc;have hlen:its.length=bs.length:=by rw[<-rv.length,ah]
 refine call_all_walk (gm hl ?_);refine⟨s.heap.objs.size,[s.heap.objs.size,p],[s.heap.objs.size],its.toArray.size,_,_,λi=>(bs[i]?).getD true,rfl,Walks.list (A:=X.A.in1) hh _ p (aV Χ) its.toArray,⟨⟨_,ba _ rfl,rfl,rfl⟩,hl.push _⟩,λi v s' Q' E' hP hQ=>?_,λh' tk hk=>?_⟩
 .have hi:its[i]?=some v:=by simpa using hP
  have hib:i<bs.length:=by rw[<-hlen];exact(aq.mp hi).1
  obtain⟨u,hu,ru⟩:=rv.get (i:=i) (x:=V.bl bs[i]) (by rw[aF,ap hib];rfl);rw[hi]at hu;cases hu;cases ru;replace hQ:Q' (bs[i]?.getD true) s':=hQ;rw[ap hib]at hQ;exact c9 hQ
 .have e:((List.range its.toArray.size).all λi=>(bs[i]?).getD true)=bs.all id:=by
   rw[aN,hlen];rw[gD,fX,fX]
   constructor
   .intro z b hb;obtain⟨i,hi,rfl⟩:=dL hb;have:=z i (b6.mpr hi);rw[ap hi]at this;exact this
   .intro z i hi;have hi':=b6.mp hi;rw[ap hi'];exact z _ (ee hi')
  have kk:∀b o,s.heap.get? b=some o->h'.get? b=some o:=λb o eb=>hk b o (λhm=>by rw[aB.mp hm]at eb;exact cG _ (aG eb)) (aw _ eb);rw[e];exact⟨.bl _,H,I.kept (t':=tk) kk,rfl,q⟩
end
mutual
inductive Ϻ(K:PySem.W.Frag)(H:Hp):V->PyData->Prop
 | ο:Ϻ K H .ο .none
 | bl (b:Bool):Ϻ K H (.bl b) (.bool b)
 | int (i:Int):Ϻ K H (.int i) (.int i)
 | str {x:Str}:PyData.canLay0 (.str x)=true->Ϻ K H (.str x) (.str x)
 | lst {a:Addr} {xs:List V} {ds:List PyData}:μ K H a xs->Ξ K H xs ds->Ϻ K H (.ref a) (.list ds)
 | tup {a:Addr} {xs:List V} {ds:List PyData}:Η K H a xs->Ξ K H xs ds->Ϻ K H (.ref a) (.tuple ds)
inductive Ξ(K:PySem.W.Frag)(H:Hp):List V->List PyData->Prop
 | nil:Ξ K H [] []
 | cons {x:V} {d:PyData} {xs:List V} {ds:List PyData}:Ϻ K H x d->Ξ K H xs ds->Ξ K H (x::xs) (d::ds)
end
mutual
theorem Ϻ.reads{X:Cx}{pins:List (Addr×Obj)}{σ:St}{H:Hp}{s:Shared}(I:Inv X pins σ H s):∀{x:V}{d:PyData}{u:Value},Ϻ X.K H x d->RelV x u->(∃as,Reads s.heap u d as)/\d.canLay0=true
 | _,_,_,.ο,r=>by cases(show _=Value.none from r);exact⟨⟨_,.none⟩,by simp[PyData.canLay0]⟩
 | _,_,_,.bl b,r=>by cases(show _=Value.bool b from r);exact⟨⟨_,.bool b⟩,by simp[PyData.canLay0]⟩
 | _,_,_,.int i,r=>by obtain⟨t,e⟩:=(show ∃t,_=Value.int i t from r);cases e;exact⟨⟨_,.int i t⟩,by simp[PyData.canLay0]⟩
 | _,_,_,.str (x:=x) h,r=>by obtain⟨t,e⟩:=(show ∃t,_=Value.str x t from r);cases e;exact⟨⟨_,.str x t⟩,h⟩
 | _,_,_,.lst (a:=a) h hs,r=>by
   cases(show _=Value.ref a from r);obtain⟨its,rv,⟨o,n,e,c,_,dd⟩,hz⟩:=I.list h;obtain⟨⟨as,ra⟩,cl⟩:=Ξ.reads I hs rv;exact⟨⟨_,.list e c dd (by simpa using ra)⟩,by simpa[PyData.canLay0]using cl⟩
 | _,_,_,.tup (a:=a) h hs,r=>by
   cases(show _=Value.ref a from r);obtain⟨its,rv,⟨o,e,c,n,dd⟩,hz⟩:=I.tuple h;obtain⟨⟨as,ra⟩,cl⟩:=Ξ.reads I hs rv;exact⟨⟨_,.tuple e c dd (by simpa using ra)⟩,by simpa[PyData.canLay0]using cl⟩
theorem Ξ.reads{X:Cx}{pins:List (Addr×Obj)}{σ:St}{H:Hp}{s:Shared}(I:Inv X pins σ H s):∀{xs:List V}{ds:List PyData}{us:List Value},Ξ X.K H xs ds->Vals xs us->(∃as,ReadsAll s.heap us ds as)/\PyData.canLayAll0 ds=true
 | _,_,_,.nil,.nil=>⟨⟨_,.nil⟩,by simp[PyData.canLayAll0]⟩
 | _,_,_,.cons h hs,.cons r rs=>by
   obtain⟨⟨as,ra⟩,c1⟩:=Ϻ.reads I h r;obtain⟨⟨bs,rb⟩,c2⟩:=Ξ.reads I hs rs;exact⟨⟨_,.cons ra rb⟩,by simp[PyData.canLayAll0,c1,c2]⟩
end
section
variable{X:Cx}
def V3(K:PySem.W.Frag):R2:=λx y H Q=>∃d e,Ϻ K H x d/\Ϻ K H y e/\d.depth<=40/\Q (.bl (PyData.eqv d e)) H
def SC(K:PySem.W.Frag):R2:=λx y H Q=>∃d e,Ϻ K H x d/\Ϻ K H y e/\d.depth<=40/\Q (.bl (!PyData.eqv d e)) H
theorem R8(hu:X.A.units+64<cLine):ϸ X (compareOp .Eq) (V3 X.K):=by
 intro pins s σ H x y v u Q I rx ry h;obtain⟨d,e,hd,he,hp,q⟩:=h;obtain⟨⟨as,ra⟩,ca⟩:=hd.reads I rx;obtain⟨⟨bs,rb⟩,cb⟩:=he.reads I ry;exact PySem.SeqAt.compareEq_reads ra rb ca cb (by lia) ⟨.bl _,H,I,rfl,q⟩
theorem To(hu:X.A.units+64<cLine):ϸ X (compareOp .NotEq) (SC X.K):=by
 intro pins s σ H x y v u Q I rx ry h;obtain⟨d,e,hd,he,hp,q⟩:=h;obtain⟨⟨as,ra⟩,ca⟩:=hd.reads I rx;obtain⟨⟨bs,rb⟩,cb⟩:=he.reads I ry;exact PySem.SeqAt.compareNe_reads ra rb ca cb (by lia) ⟨.bl _,H,I,rfl,q⟩
end
structure iO(P:Program)(w:World)(l:Addr)(ob:Obj)(src:Heap->Array Value->Prop)(at':Addr->Nat->Heap->Prop):Prop where
 start:∀(A:Around)(s:Shared)(vs:Array Value)(Q:Value->Shared->Prop)(E:Value->Shared->Prop),src s.heap vs->Q (.ref s.heap.objs.size) { s with heap:=s.heap.push ob }->wpAny (model P w) A (pyIter (.ref l)) Q E s
 first:∀it h,h.get? it=some ob->at' it 0 h
 atK:∀it i h h',at' it i h->(∀o,h.get? it=some o->h'.get? it=some o)->at' it i h'
 X9:∀h h' vs,src h vs->(∀o,h.get? l=some o->h'.get? l=some o)->src h' vs
 obj:∀it i h,at' it i h->∃o,h.get? it=some o/\∀v,o.data≠.cell v
 item:∀(A:Around)(s:Shared)(it:Addr)(i:Nat)(vs:Array Value)(x:Value)(Q:Value->Shared->Prop)(E:Value->Shared->Prop),at' it i s.heap->src s.heap vs->vs[i]?=some x->(∀h',at' it (i+1) h'->Heap.SameBut it s.heap h'->Q x { s with heap:=h' })->wpAny (model P w) A (Builtin.SmallTypes.nextOf (.ref it)) Q E s
 fin:∀(A:Around)(s:Shared)(it:Addr)(i:Nat)(vs:Array Value)(Q:Value->Shared->Prop)(E:Value->Shared->Prop),A.handled=none->at' it i s.heap->src s.heap vs->vs[i]?=none->(∀h' e,Heap.ExtBut it s.heap h'->(∃o,h'.get? e=some o/\o.cls=.type "StopIteration")->E (.ref e) { s with heap:=h' })->wpAny (model P w) A (Builtin.SmallTypes.nextOf (.ref it)) Q E s
theorem LX{P:Program}{w:World}(l:Addr):iO P w l { cls:=.type "list_iterator",data:=.fields #[.ref l,.int 0 0] } (λh vs=>h.IsList l vs) (λit i h=>h.IsListIter it l i) where
 start:=λA s vs Q E hl hq=>gm hl hq
 first:=λit h e=>⟨_,e,rfl,rfl⟩
 atK:=λit i h h' x k=>x.at k
 X9:=λh h' vs x k=>x.at k
 obj:=λit i h x=>by
  obtain⟨o,ho,_,hd⟩:=x;exact⟨o,ho,λv z=>by rw[hd]at z;cases z⟩
 item:=λA s it i vs x Q E ha hs hx hq=>wpAny_nextOf_list_item ha hs hx hq
 fin:=λA s it i vs Q E hh ha hs hx hq=>wpAny_nextOf_list_end hh ha hs hx hq
section
variable{P:Program}{w:World}{A:Around}{E:Value->Shared->Prop}{s:Shared}
theorem yE{it t:Addr}{i:Nat}{vs:Array Value}{x:Value}{Q:Value->Shared->Prop}(hi:s.heap.IsTupleIter it t i)(ht:s.heap.IsTuple t vs)(hx:vs[i]?=some x)(hq:∀h',h'.IsTupleIter it t (i+1)->Heap.SameBut it s.heap h'->Q x { s with heap:=h' }):wpAny (model P w) A (Builtin.SmallTypes.nextOf (.ref it)) Q E s:=by
 obtain⟨oi,hoi,hci,hdi⟩:=id hi;obtain⟨ot,hot,_,nt,hdt⟩:=ht;unfold Builtin.SmallTypes.nextOf;refine ak (wpAny_callSpecial?_slot (name:=Str.ofString "__next__") hi.typeIs fP (iG fP hi.typeIs kj ?_ (jS _)));show wpAny (model P w) _ (field (.ref it) 0>>=_) _ _ s;refine ak (cC hoi hdi (x:=.ref t) rfl ?_);show wpAny (model P w) _ (if(Value.ref t==Value.none)=true then _ else _) _ _ s;rw[ag (by exact bh)];show wpAny (model P w) _ (field (.ref it) 1>>=_) _ _ s;refine ak (cC hoi hdi (x:=.int i 0) rfl ?_);show wpAny (model P w) _ (seqItems? (.ref t)>>=_) _ _ s;refine ak (cV hot hdt ?_);simp only[bD,hx];refine ak (gZ hoi hdi (by simp) (aR ⟨x,rfl,aR (hq _ ?_ (Heap.SameBut.update ..))⟩));exact⟨_,dC _ hoi (gG (eB hdi _)),(Obj.cls_mapFields ..).trans hci,by rw[eB hdi];simp[rawInt]⟩
theorem Ag{it t:Addr}{i:Nat}{vs:Array Value}{Q:Value->Shared->Prop}(hh:A.handled=none)(hi:s.heap.IsTupleIter it t i)(ht:s.heap.IsTuple t vs)(hx:vs[i]?=none)(hE:∀h' e,Heap.ExtBut it s.heap h'->(∃o,h'.get? e=some o/\o.cls=.type "StopIteration")->E (.ref e) { s with heap:=h' }):wpAny (model P w) A (Builtin.SmallTypes.nextOf (.ref it)) Q E s:=by
 obtain⟨oi,hoi,hci,hdi⟩:=id hi;obtain⟨ot,hot,_,nt,hdt⟩:=ht;unfold Builtin.SmallTypes.nextOf;refine ak (wpAny_callSpecial?_slot (name:=Str.ofString "__next__") hi.typeIs fP (iG fP hi.typeIs kj ?_ (jS _)));show wpAny (model P w) _ (field (.ref it) 0>>=_) _ _ s;refine ak (cC hoi hdi (x:=.ref t) rfl ?_);show wpAny (model P w) _ (if(Value.ref t==Value.none)=true then _ else _) _ _ s;rw[ag (by exact bh)];show wpAny (model P w) _ (field (.ref it) 1>>=_) _ _ s;refine ak (cC hoi hdi (x:=.int i 0) rfl ?_);show wpAny (model P w) _ (seqItems? (.ref t)>>=_) _ _ s;refine ak (cV hot hdt ?_);simp only[bD,hx];refine ak (wpAny_rule (ak (gZ hoi hdi (by simp) ?_)));show wpAny (model P w) _ (newExc (.type "StopIteration") []>>=_) _ _ _;refine ak ?_;simp only[newExc,newTuple];refine ak (fD ?_ (by size_fits));refine ak (m:=firstArgMember _ _) (wpAny_of_eq (a:=Value.none) (by first|rfl|(simp only[firstArgMember];rfl)) ?_);refine fD ?_ (by size_fits);simp only[raiseNew];refine ak (wpAny_handled ?_)
 first|rw[show A.in1.handled=none from hh]|rw[hh]
 refine ak (aR (wpAny_throw ?_));exact hE _ _ (((Heap.SameBut.update ..).extBut.push _).push _) ⟨_,ba _ rfl,rfl⟩
end
theorem OY{P:Program}{w:World}(l:Addr):iO P w l { cls:=.type "tuple_iterator",data:=.fields #[.ref l,.int 0 0] } (λh vs=>h.IsTuple l vs) (λit i h=>h.IsTupleIter it l i) where
 start:=λA s vs Q E hl hq=>j4 hl hq
 first:=λit h e=>⟨_,e,rfl,rfl⟩
 atK:=λit i h h' x k=>let ⟨o,ho,r⟩:=x;⟨o,k o ho,r⟩
 X9:=λh h' vs x k=>let ⟨o,ho,r⟩:=x;⟨o,k o ho,r⟩
 obj:=λit i h x=>by
  obtain⟨o,ho,_,hd⟩:=x;exact⟨o,ho,λv z=>by rw[hd]at z;cases z⟩
 item:=λA s it i vs x Q E ha hs hx hq=>yE ha hs hx hq
 fin:=λA s it i vs Q E hh ha hs hx hq=>Ag hh ha hs hx hq
structure ZAp(z TI TO i1 i2 l1 l2:Addr):Prop where
 a1:TI≠z
 a2:TO≠z
 a3:i1≠z
 a4:i2≠z
 a5:TI≠TO
 a6:TI≠i1
 a7:TI≠i2
 a8:TO≠i1
 a9:TO≠i2
 a0:i1≠i2
 b1:l1≠z/\l1≠TO/\l1≠i1/\l1≠i2
 b2:l2≠z/\l2≠TO/\l2≠i1/\l2≠i2
section
variable{P:Program}{w:World}{A:Around}{E:Value->Shared->Prop}{s:Shared}{l1 l2:Addr}{ϯ ϻ:Obj}{XO Xv:Heap->Array Value->Prop}{at1 at2:Addr->Nat->Heap->Prop}
theorem FK(S1:iO P w l1 ϯ XO at1)(S2:iO P w l2 ϻ Xv at2){z TI TO i1 i2:Addr}{k1 k2:Nat}{xs ys:Array Value}{x y a b:Value}{Q:Value->Shared->Prop}(D:ZAp z TI TO i1 i2 l1 l2)(Hz:IsZip s.heap z TI TO .none)(HI:IsPair s.heap TI (.ref i1) (.ref i2))(HO':IsPair s.heap TO a b)(p1:at1 i1 k1 s.heap)(p2:at2 i2 k2 s.heap)(q1:XO s.heap xs)(q2:Xv s.heap ys)(hx:xs[k1]?=some x)(hy:ys[k2]?=some y)(hQ:∀h',IsZip h' z TI TO (rawInt s.heap.objs.size)->IsPair h' TO x y->at1 i1 (k1+1) h'->at2 i2 (k2+1) h'->IsPair h' s.heap.objs.size x y->h'.objs.size=s.heap.objs.size+1->(∀c o,c≠z->c≠TO->c≠i1->c≠i2->s.heap.get? c=some o->h'.get? c=some o)->Q (.ref s.heap.objs.size) { s with heap:=h' }):wpAny (model P w) A (Builtin.«zip.__next__» ⟨[.ref z],[]⟩) (λfn s'=>∃v,fn=.done (.ret v)/\Q v s') E s:=by
 show wpAny (model P w) _ (field (.ref z) 2>>=_) _ _ _;refine ak (cC Hz rfl (x:=.bool false) rfl ?_);show wpAny (model P w) _ (field (.ref z) 3>>=_) _ _ _;refine ak (cC Hz rfl (x:=.ref TI) rfl ?_);refine ak (cV HI rfl ?_);show wpAny (model P w) _ (Builtin.SmallTypes.ownedTupleIsFree (.ref z)>>=_) _ _ _;refine ak ?_;unfold Builtin.SmallTypes.ownedTupleIsFree;refine ak (cC Hz rfl (x:=.none) rfl (aR ?_));simp only[if_true];refine ak (wpAny_rule ?_);refine ak (cC Hz rfl (x:=.ref TO) rfl ?_);refine ak (ft Hz (by simp) λg1 z1 e1=>?_);replace z1:IsZip g1 z TI TO .ellipsis:=z1;refine ak ?_;simp only[List.zipIdx_cons,List.zipIdx_nil,l9,List.forIn_nil];refine ak (ak (ip ?_));show wpAny (model P w) _ (Builtin.SmallTypes.nextOf (.ref i1)>>=_) _ _ _;refine ak (S1.item _ { s with heap:=g1 } i1 k1 xs x _ _ (S1.atK _ _ _ _ p1 λo e=>e1.extBut _ _ D.a3 e) (S1.X9 _ _ _ q1 λo e=>e1.extBut _ _ D.b1.1 e) hx λg2 p1b e2=>aR ?_);have o2:IsPair g2 TO a b:=e2.extBut _ _ D.a8 (e1.extBut _ _ D.a2 HO');refine ak (cV o2 rfl ?_);refine ak (jq o2 λg3 o3 e3=>?_);replace o3:IsPair g3 TO x b:=o3;refine ak (fJ (aR ?_));refine ak (ak (ip ?_));show wpAny (model P w) _ (Builtin.SmallTypes.nextOf (.ref i2)>>=_) _ _ _;refine ak (S2.item _ { s with heap:=g3 } i2 k2 ys y _ _ (S2.atK _ _ _ _ p2 λo e=>e3.extBut _ _ D.a9.symm (e2.extBut _ _ D.a0.symm (e1.extBut _ _ D.a4 e))) (S2.X9 _ _ _ q2 λo e=>e3.extBut _ _ D.b2.2.1 (e2.extBut _ _ D.b2.2.2.1 (e1.extBut _ _ D.b2.1 e))) hy λg4 p2b e4=>aR ?_);have o4:IsPair g4 TO x b:=e4.extBut _ _ D.a9 o3;refine ak (cV o4 rfl ?_);refine ak (jq o4 λg5 o5 e5=>?_);replace o5:IsPair g5 TO x y:=o5;refine ak (fJ (aR (aR ?_)));refine ak (cV o5 rfl ?_);refine ak (wpAny_newTuple ?_);have sz:g5.objs.size=s.heap.objs.size:=by rw[e5.1,e4.1,e3.1,e2.1,e1.1]
 have z5:IsZip g5 z TI TO .ellipsis:=e5.extBut _ _ D.a2.symm (e4.extBut _ _ D.a4.symm (e3.extBut _ _ D.a2.symm (e2.extBut _ _ D.a3.symm z1)));have k5:∀c o,c≠z->c≠TO->c≠i1->c≠i2->s.heap.get? c=some o->g5.get? c=some o:=λc o c1 c2 c3 c4 e=>
  e5.extBut _ _ c2 (e4.extBut _ _ c4 (e3.extBut _ _ c2 (e2.extBut _ _ c3 (e1.extBut _ _ c1 e))))
 have p15:at1 i1 (k1+1) g5:=S1.atK _ _ _ _ p1b λo e=>e5.extBut _ _ D.a8.symm (e4.extBut _ _ D.a0 (e3.extBut _ _ D.a8.symm e));have p25:at2 i2 (k2+1) g5:=S2.atK _ _ _ _ p2b λo e=>e5.extBut _ _ D.a9.symm e;have zlt:z<g5.objs.size:=aG z5;show wpAny (model P w) _ (Builtin.SmallTypes.ownedTupleHandOut (.ref z) (.ref g5.objs.size)>>=_) _ _ _;refine ak ?_;unfold Builtin.SmallTypes.ownedTupleHandOut;have z6:IsZip (g5.push { cls:=.type "tuple",data:=.seq #[x,y] }) z TI TO .ellipsis:=aw _ z5;refine ak (ft z6 (by simp) λg7 z7 e7=>?_);replace z7:IsZip g7 z TI TO (rawInt g5.objs.size):=z7;refine ft z7 (by simp) λg8 z8 e8=>?_;replace z8:IsZip g8 z TI TO (rawInt g5.objs.size):=z8;have up:∀c o,c≠z->g5.get? c=some o->g8.get? c=some o:=λc o c1 e=>e8.extBut _ _ c1 (e7.extBut _ _ c1 (aw _ e));have t8:IsPair g8 g5.objs.size x y:=e8.extBut _ _ (eL zlt) (e7.extBut _ _ (eL zlt) (ba _ rfl));have s8:g8.objs.size=g5.objs.size+1:=by rw[e8.1,e7.1,dF]
 rw[sz]at z8 t8 s8;refine aR ⟨_,rfl,?_⟩;show Q (.ref g5.objs.size) _;rw[sz];exact hQ g8 z8 (up _ _ D.a2 o5) (S1.atK _ _ _ _ p15 λo e=>up _ o D.a3 e) (S2.atK _ _ _ _ p25 λo e=>up _ o D.a4 e) t8 s8 λc o c1 c2 c3 c4 e=>up c o c1 (k5 c o c1 c2 c3 c4 e)
theorem Hf(S1:iO P w l1 ϯ XO at1)(S2:iO P w l2 ϻ Xv at2){z TI TO i1 i2:Addr}{k1 k2:Nat}{xs ys:Array Value}{a b:Value}{Q:Fin->Shared->Prop}(hh:A.handled=none)(D:ZAp z TI TO i1 i2 l1 l2)(Hz:IsZip s.heap z TI TO .none)(HI:IsPair s.heap TI (.ref i1) (.ref i2))(HO':IsPair s.heap TO a b)(p1:at1 i1 k1 s.heap)(p2:at2 i2 k2 s.heap)(q1:XO s.heap xs)(q2:Xv s.heap ys)(abh:xs[k1]?=none\/ys[k2]?=none)(hE:∀h' e,(∀c o,c≠z->c≠TO->c≠i1->c≠i2->s.heap.get? c=some o->h'.get? c=some o)->(∃o,h'.get? e=some o/\o.cls=.type "StopIteration")->E (.ref e) { s with heap:=h' }):wpAny (model P w) A (Builtin.«zip.__next__» ⟨[.ref z],[]⟩) Q E s:=by
 show wpAny (model P w) _ (field (.ref z) 2>>=_) _ _ _;refine ak (cC Hz rfl (x:=.bool false) rfl ?_);show wpAny (model P w) _ (field (.ref z) 3>>=_) _ _ _;refine ak (cC Hz rfl (x:=.ref TI) rfl ?_);refine ak (cV HI rfl ?_);show wpAny (model P w) _ (Builtin.SmallTypes.ownedTupleIsFree (.ref z)>>=_) _ _ _;refine ak ?_;unfold Builtin.SmallTypes.ownedTupleIsFree;refine ak (cC Hz rfl (x:=.none) rfl (aR ?_));simp only[if_true];refine ak (wpAny_rule ?_);refine ak (cC Hz rfl (x:=.ref TO) rfl ?_);refine ak (ft Hz (by simp) λg1 z1 e1=>?_);replace z1:IsZip g1 z TI TO .ellipsis:=z1;refine ak ?_;simp only[List.zipIdx_cons,List.zipIdx_nil,l9,List.forIn_nil];refine ak (ak (ip ?_));show wpAny (model P w) _ (Builtin.SmallTypes.nextOf (.ref i1)>>=_) _ _ _;have p1a:at1 i1 k1 g1:=S1.atK _ _ _ _ p1 λo e=>e1.extBut _ _ D.a3 e;have q1a:XO g1 xs:=S1.X9 _ _ _ q1 λo e=>e1.extBut _ _ D.b1.1 e;cases hx:xs[k1]? with
 | none=>
   refine ak (S1.fin _ { s with heap:=g1 } i1 k1 xs _ _ hh p1a q1a hx λg2 e e2 he=>?_);obtain⟨oe,hoe,hce⟩:=he;have z2:IsZip g2 z TI TO .ellipsis:=e2 _ _ D.a3.symm z1;have ez:e≠z:=λt=>by subst t;rw[z2]at hoe;cases hoe;simp at hce
   refine ft z2 (by simp) λg3 _ e3=>hE g3 e (λc o c1 _ c3 _ t=>e3.extBut _ _ c1 (e2 _ _ c3 (e1.extBut _ _ c1 t))) ⟨oe,e3.extBut _ _ ez hoe,hce⟩
 | some x=>
   have hy:ys[k2]?=none:=by
    rcases abh with h|h
    .rw[hx]at h;cases h
    .exact h
   refine ak (S1.item _ { s with heap:=g1 } i1 k1 xs x _ _ p1a q1a hx λg2 p1b e2=>aR ?_);have o2:IsPair g2 TO a b:=e2.extBut _ _ D.a8 (e1.extBut _ _ D.a2 HO');refine ak (cV o2 rfl ?_);refine ak (jq o2 λg3 o3 e3=>?_);refine ak (fJ (aR ?_));refine ak (ak (ip ?_));show wpAny (model P w) _ (Builtin.SmallTypes.nextOf (.ref i2)>>=_) _ _ _;refine ak (S2.fin _ { s with heap:=g3 } i2 k2 ys _ _ hh (S2.atK _ _ _ _ p2 λo e=>e3.extBut _ _ D.a9.symm (e2.extBut _ _ D.a0.symm (e1.extBut _ _ D.a4 e))) (S2.X9 _ _ _ q2 λo e=>e3.extBut _ _ D.b2.2.1 (e2.extBut _ _ D.b2.2.2.1 (e1.extBut _ _ D.b2.1 e))) hy λg4 e e4 he=>?_);obtain⟨oe,hoe,hce⟩:=he;have z4:IsZip g4 z TI TO .ellipsis:=e4 _ _ D.a4.symm (e3.extBut _ _ D.a2.symm (e2.extBut _ _ D.a3.symm z1));have ez:e≠z:=λt=>by subst t;rw[z4]at hoe;cases hoe;simp at hce
   refine ft z4 (by simp) λg5 _ e5=>hE g5 e (λc o c1 c2 c3 c4 t=>e5.extBut _ _ c1 (e4 _ _ c4 (e3.extBut _ _ c2 (e2.extBut _ _ c3 (e1.extBut _ _ c1 t))))) ⟨oe,e5.extBut _ _ ez hoe,hce⟩
abbrev zp1(h:Heap)(ϯ ϻ:Obj):Heap:=(h.push ϯ).push ϻ
abbrev zp2(h:Heap)(ϯ ϻ:Obj):Heap:=(zp1 h ϯ ϻ).push { cls:=.type "tuple",data:=.seq #[.ref h.objs.size,.ref (h.push ϯ).objs.size] }
abbrev zp3(h:Heap)(ϯ ϻ:Obj):Heap:=(zp2 h ϯ ϻ).push { cls:=.type "tuple",data:=.seq #[.none,.none] }
abbrev zp4(h:Heap)(ϯ ϻ:Obj):Heap:=(zp3 h ϯ ϻ).push { cls:=.type "zip",data:=.fields #[.none,.bool false,.bool false,.ref (zp1 h ϯ ϻ).objs.size,.ref (zp2 h ϯ ϻ).objs.size] }
theorem En(S1:∀P w,iO P w l1 ϯ XO at1)(S2:∀P w,iO P w l2 ϻ Xv at2)(ne:∀h vs,Xv h vs->∃o,h.get? l2=some o)(xs ys:Array Value):Meets (Builtin.«zip.__new__» ⟨[.type "zip",.ref l1,.ref l2],[]⟩) (λ_ R s=>XO s.heap xs/\Xv s.heap ys/\R (.ok (.ret (.ref (zp3 s.heap ϯ ϻ).objs.size))) { s with heap:=zp4 s.heap ϯ ϻ }):=.of_wp λprog w A R s hyp=>by
 obtain⟨hp,g,d,tk,os⟩:=s;obtain⟨q1,q2,r⟩:=hyp;have aja:=sub_zip;have B1:XO (Shared.heap ⟨hp,g,d,tk,os⟩) xs:=q1;have B2:Xv (Shared.heap ⟨hp.push ϯ,g,d,tk,os⟩) ys:=(S2 prog w).X9 _ _ _ q2 λo e=>aw _ e
 wp_walk using ((S1 prog w).start _ _ _ _ _ B1),((S2 prog w).start _ _ _ _ _ B2)
 exact⟨_,rfl,r⟩
theorem OU(S1:∀P w,iO P w l1 ϯ XO at1)(S2:∀P w,iO P w l2 ϻ Xv at2)(ne:∀h vs,Xv h vs->∃o,h.get? l2=some o){xs ys:Array Value}{Q:Value->Shared->Prop}(q1:XO s.heap xs)(q2:Xv s.heap ys)(h:∀h',IsZip h' (s.heap.objs.size+4) (s.heap.objs.size+2) (s.heap.objs.size+3) .none->IsPair h' (s.heap.objs.size+2) (.ref s.heap.objs.size) (.ref (s.heap.objs.size+1))->IsPair h' (s.heap.objs.size+3) .none .none->at1 s.heap.objs.size 0 h'->at2 (s.heap.objs.size+1) 0 h'->(∀c o,s.heap.get? c=some o->h'.get? c=some o)->Q (.ref (s.heap.objs.size+4)) { s with heap:=h' })(f1:ϯ.isFreed=false)(f2:ϻ.isFreed=false):wpAny (model P w) A (call (.type "zip") [.ref l1,.ref l2]) Q E s:=by
 refine callType_new F.called_zip (by decide) (F.typeCall_zip_2 _ _) (F.newCall_zip_2 _ _) (λobj=>F.args_object_init_3 obj _ _) F.entry_zip_new (En S1 S2 ne xs ys) ⟨q1,q2,?_⟩;have n0:(s.heap.push ϯ).objs.size=s.heap.objs.size+1:=dF ..;have n1:(zp1 s.heap ϯ ϻ).objs.size=s.heap.objs.size+2:=by rw[dF,n0]
 have n2:(zp2 s.heap ϯ ϻ).objs.size=s.heap.objs.size+3:=by rw[dF,n1]
 have n3:(zp3 s.heap ϯ ϻ).objs.size=s.heap.objs.size+4:=by rw[dF,n2]
 have c5:(zp4 s.heap ϯ ϻ).get? (zp3 s.heap ϯ ϻ).objs.size=some _:=ba _ rfl;have c4:(zp4 s.heap ϯ ϻ).get? (zp2 s.heap ϯ ϻ).objs.size=some _:=aw _ (ba _ rfl);have c3:(zp4 s.heap ϯ ϻ).get? (zp1 s.heap ϯ ϻ).objs.size=some _:=aw _ (aw _ (ba _ rfl));have c2:(zp4 s.heap ϯ ϻ).get? (s.heap.push ϯ).objs.size=some ϻ:=aw _ (aw _ (aw _ (ba _ f2)));have c1:(zp4 s.heap ϯ ϻ).get? s.heap.objs.size=some ϯ:=aw _ (aw _ (aw _ (aw _ (ba _ f1))));show _/\_;rw[n1,n2,n3]at c5;rw[n0,n1]at c3;rw[n2]at c4;rw[n0]at c2;rw[n3];exact⟨⟨_,c5,rfl⟩,h _ c5 c3 c4 ((S1 P w).first _ _ c1) ((S2 P w).first _ _ c2) λc o e=>aw _ (aw _ (aw _ (aw _ (aw _ e))))⟩
end
def ϧ(K:PySem.W.Frag):Bool->Hp->Addr->List V->Prop
 | true,H,a,xs=>μ K H a xs
 | false,H,a,xs=>Η K H a xs
def Itz(K:PySem.W.Frag)(c d:Bool)(a b:Addr):It:=⟨λi H=>∃xs ys x y,ϧ K c H a xs/\ϧ K d H b ys/\xs[i]?=some x/\ys[i]?=some y,λi H v H'=>∃p x y,H p=none/\v=.ref p/\H'=upd H p (.tup [x,y])/\(∀xs,ϧ K c H a xs->xs[i]?=some x)/\∀ys,ϧ K d H b ys->ys[i]?=some y,λi H=>∃xs ys,ϧ K c H a xs/\ϧ K d H b ys/\(xs.length<=i\/ys.length<=i)⟩
def US(a:Addr):Bool->Obj
 | true=>{ cls:=.type "list_iterator",data:=.fields #[.ref a,.int 0 0] }
 | false=>{ cls:=.type "tuple_iterator",data:=.fields #[.ref a,.int 0 0] }
def K2(a:Addr):Bool->Heap->Array Value->Prop
 | true,h,vs=>h.IsList a vs
 | false,h,vs=>h.IsTuple a vs
def zAt(a:Addr):Bool->Addr->Nat->Heap->Prop
 | true,it,i,h=>h.IsListIter it a i
 | false,it,i,h=>h.IsTupleIter it a i
theorem j8(a:Addr)(c:Bool)(P:Program)(w:World):iO P w a (US a c) (K2 a c) (zAt a c):=by
 cases c
 .exact OY a
 .exact LX a
theorem wP(a:Addr)(c:Bool):(US a c).isFreed=false:=by cases c<;>rfl
theorem sk(a:Addr)(c:Bool)(h:Heap)(vs:Array Value)(e:K2 a c h vs):∃o,h.get? a=some o:=by
 cases c
 .obtain⟨o,ho,_⟩:=e;exact⟨o,ho⟩
 .obtain⟨o,ho,_⟩:=e;exact⟨o,ho⟩
theorem Inv.X1{X:Cx}{pins:List (Addr×Obj)}{σ:St}{H:Hp}{s:Shared}{c:Bool}{a:Addr}{xs:List V}(I:Inv X pins σ H s)(h:ϧ X.K c H a xs):∃its:List Value,Vals xs its/\K2 a c s.heap its.toArray:=by
 cases c with
 | true=>
   obtain⟨its,r,pl,_⟩:=I.list h;exact⟨its,r,pl.isList⟩
 | false=>
   obtain⟨its,r,⟨o,ho,hc,n,hd⟩,_⟩:=I.tuple h;exact⟨its,r,⟨o,ho,hc,n,hd⟩⟩
theorem Inv.Yb{X:Cx}{pins:List (Addr×Obj)}{σ:St}{H:Hp}{s:Shared}{c:Bool}{a:Addr}{xs ys:List V}(I:Inv X pins σ H s)(h:ϧ X.K c H a xs)(h':ϧ X.K c H a ys):xs=ys:=by
 cases c with
 | true=>exact I.bY h h'
 | false=>exact I.XY h h'
theorem Qa{P:Program}{w:World}{K:PySem.W.Frag}{elts:List Expr}{x1}{Ge:Pos}(c d:Bool)(a b z TI TO i1 i2:Addr)(D:ZAp z TI TO i1 i2 a b):Turn P w K (.Tuple elts x1 Ge) (Itz K c d a b) [z,TI,TO,i1,i2] z (λi h=>IsZip h z TI TO .none/\IsPair h TI (.ref i1) (.ref i2)/\(∃u v,IsPair h TO u v)/\zAt a c i1 i h/\zAt b d i2 i h) where
 mem:=by simp
 obj:=λi h t e he=>by
  obtain⟨t1,t2,⟨u,v,t3⟩,t4,t5⟩:=t;simp only[ar,dQ,or_false]at he;rcases he with rfl|rfl|rfl|rfl|rfl
  .exact⟨_,t1,λv z=>by cases z⟩
  .exact⟨_,t2,λv z=>by cases z⟩
  .exact⟨_,t3,λv z=>by cases z⟩
  .exact(j8 a c P w).obj _ _ _ t4
  .exact(j8 b d P w).obj _ _ _ t5
 keep:=λi h h' t k=>by
  obtain⟨t1,t2,⟨u,v,t3⟩,t4,t5⟩:=t;exact⟨k z (by simp) _ t1,k TI (by simp) _ t2,⟨u,v,k TO (by simp) _ t3⟩,(j8 a c P w).atK _ _ _ _ t4 λo e=>k i1 (by simp) o e,(j8 b d P w).atK _ _ _ _ t5 λo e=>k i2 (by simp) o e⟩
 item:=λX e1 e2 e3 hc i pins s σ H E I f t g=>by
  subst e1 e2 e3;obtain⟨t1,t2,⟨u,v,t3⟩,t4,t5⟩:=t;obtain⟨xs,ys,x,y,s1,s2,hx,hy⟩:=g;obtain⟨us,r1,q1⟩:=I.X1 s1;obtain⟨vs,r2,q2⟩:=I.X1 s2;obtain⟨xu,hxu,rx⟩:=r1.get hx;obtain⟨yu,hyu,ry⟩:=r2.get hy;have hT:s.TypeIs (.ref z) "zip":=⟨_,t1,rfl⟩;unfold pyNext;refine ak (j9 (wpAny_callSpecial?_slot (name:=Str.ofString "__next__") hT jJ (iG jJ hT F.entry_zip_next
   (FK (j8 a c _ _) (j8 b d _ _) D t1 t2 t3 t4 t5 q1 q2 (x:=xu) (y:=yu) (by simpa using hxu) (by simpa using hyu) λh' w1 w2 w3 w4 w5 w6 w7=>aR ?_) (F.args_zip_next_1 _))))
  refine⟨_,rfl,wpAny_letOwnedTupleGo_zip w1 λh2 n1 n2=>?_⟩;have fz:∀q∈[z,TI,TO,i1,i2],oV X pins H q:=f;have lt0:s.heap.objs.size≠z:=eL (aG t1);have new:IsPair h2 s.heap.objs.size xu yu:=n2.extBut _ _ lt0 w5;have kp:∀q o,q∉[z,TI,TO,i1,i2]->s.heap.get? q=some o->h2.get? q=some o:=λq o hq e=>by
   simp only[ar,dQ,or_false,not_or]at hq;exact n2.extBut _ _ hq.1 (w7 q o hq.1 hq.2.2.1 hq.2.2.2.1 hq.2.2.2.2 e)
  have kTI:h2.get? TI=some _:=n2.extBut _ _ D.a1 (w7 TI _ D.a1 D.a5 D.a6 D.a7 t2);have Hn:∀q u,H q=some u->q∉[z,TI,TO,i1,i2]:=λq u e hq=>by rw[(fz q hq).1]at e;cases e
  have I2:Inv X pins σ H { s with heap:=h2 }:=by
   refine I.step (g':=s.gens) (d':=s.drawn) (t':=s.toks) (ch:=[z,TI,TO,i1,i2]) (λq hq=>⟨(fz q hq).2.2.2.1,(fz q hq).2.1,(fz q hq).2.2.2.2.1,(fz q hq).2.2.2.2.2⟩) (λq o _ _ hq e _=>kp q o hq e) (λq o _ _ hq e _=>⟨o.slots,kp q o hq e⟩) (λ_ _ _ _ n=>n)
    (λq o hq e=>⟨o,kp q o hq e⟩) (λ_ _ e=>e) (λ_ _ _ e=>e) (λq ps e=>⟨#[],by rw[e];simp⟩) (λm hm=>?_) (λq u e=>?_) I.bare
   .obtain⟨o,es,ep,ho,r⟩:=hm;exact⟨o,es,ep,kp _ o (λhq=>(fz _ hq).2.1 rfl) ho,r⟩
   .refine(I.τ q u e).Ϭ (λq' v Io e'=>kp q' v ?_ e') (λ_ e'=>e') λ_ _ e'=>e';rcases Io with rfl|Io
    .exact Hn _ u e
    .exact Hn _ _ Io
  have nH:H s.heap.objs.size=none:=I.fresh;have I3:Inv X pins σ (upd H s.heap.objs.size (.tup [x,y])) { s with heap:=h2 }:=by
   refine⟨I2.ok,I2.os,I2.bare,?_,I2.loc,I2.cell,?_,λn c e=>?_,λp hp=>?_,λq u e=>?_,I2.len⟩
   .refine⟨I2.base.keep,I2.base.slot,λq o e n hx=>?_,I2.base.there,λq xs e=>?_,λq o u e=>?_,λq ps e=>?_⟩
    .have lt:q<X.s₀.heap.objs.size:=aG e;rw[aO (aV (aW lt I.sz))];exact I2.base.free q o e n hx
    .have e':=I2.base.ϭ q xs e;rw[aO (λz=>by rw[z,nH]at e';cases e')];exact e'
    .have e':=I2.base.ϥ q o u e;rw[aO (λz=>by rw[z,nH]at e';cases e')];exact e'
    .obtain⟨more,e'⟩:=I2.base.Ϯ q ps e;exact⟨more,by rw[aO (λz=>by rw[z,nH]at e';cases e')];exact e'⟩
   .rw[aO (aV I.lt)];exact I2.free
   .obtain⟨vv,o,ho,_⟩:=I.cell n c e;rw[aO (aV (aG ho))];exact I2.Ρ n c e
   .obtain⟨k1,k2,k3⟩:=I.pin p hp;rw[aO (aV (aG k1))];exact I2.pin p hp
   .by_cases hq:q=s.heap.objs.size
    .subst hq;rw[ax]at e;cases e;exact⟨by show 2<=sizeLine;decide,[xu,yu],.cons rx (.cons ry .nil),_,new,rfl,_,rfl⟩
    .rw[aO hq]at e;refine(I2.τ q u e).Ϭ (λ_ _ _ e'=>e') (λq' e'=>?_) λq' xs e'=>?_
     .rw[aO (λz=>by rw[z,nH]at e';cases e')];exact e'
     .rw[aO (λz=>by rw[z,nH]at e';cases e')];exact e'
  refine⟨.ref s.heap.objs.size,_,I3,rfl,⟨_,x,y,nH,rfl,rfl,λxs' q=>?_,λaC q=>?_⟩,⟨n1,kTI,⟨_,_,n2.extBut _ _ D.a2 w2⟩,(j8 a c X.prog X.w).atK _ _ _ _ w3 λo e=>n2.extBut _ _ D.a3 e,(j8 b d X.prog X.w).atK _ _ _ _ w4 λo e=>n2.extBut _ _ D.a4 e⟩,λq hq=>?_⟩
  .rw[<-I.Yb s1 q];exact hx
  .rw[<-I.Yb s2 q];exact hy
  .have Χ:q<s.heap.objs.size:=by
    simp only[ar,dQ,or_false]at hq;rcases hq with rfl|rfl|rfl|rfl|rfl
    .exact aG t1
    .exact aG t2
    .exact aG t3
    .exact let ⟨o,e,_⟩:=(j8 a c X.prog X.w).obj _ _ _ t4;aG e
    .exact let ⟨o,e,_⟩:=(j8 b d X.prog X.w).obj _ _ _ t5;aG e
   rw[aO (aV Χ)];exact(fz q hq).1
 done:=λX e1 e2 e3 hc i pins s σ H E I f t g=>by
  subst e1 e2 e3;obtain⟨t1,t2,⟨u,v,t3⟩,t4,t5⟩:=t;obtain⟨xs,ys,s1,s2,abh⟩:=g;obtain⟨us,r1,q1⟩:=I.X1 s1;obtain⟨vs,r2,q2⟩:=I.X1 s2;have fz:∀q∈[z,TI,TO,i1,i2],oV X pins H q:=f;have hh:X.A.handled=none:=I.ok.hd hc;have hT:s.TypeIs (.ref z) "zip":=⟨_,t1,rfl⟩;have aeE:us.toArray[i]?=none\/vs.toArray[i]?=none:=by
   rcases abh with e|e
   .exact .inl (by have:=r1.length;simp;lia)
   .exact .inr (by have:=r2.length;simp;lia)
  unfold pyNext;refine ak (j9 (wpAny_callSpecial?_slot (name:=Str.ofString "__next__") hT jJ (iG jJ hT F.entry_zip_next
   (Hf (j8 a c _ _) (j8 b d _ _) hh D t1 t2 t3 t4 t5 q1 q2 aeE λh' e hk he=>?_) (F.args_zip_next_1 _))))
  obtain⟨o,ho,hcl⟩:=he;refine ak (wpAny_isInstance (T:="StopIteration") (b:=true) ⟨o,ho,hcl⟩ isSubtype_stop (aR ⟨rfl,?_⟩));have kp:∀q o,q∉[z,TI,TO,i1,i2]->s.heap.get? q=some o->h'.get? q=some o:=λq o hq e=>by
   simp only[ar,dQ,or_false,not_or]at hq;exact hk q o hq.1 hq.2.2.1 hq.2.2.2.1 hq.2.2.2.2 e
  have Hn:∀q u,H q=some u->q∉[z,TI,TO,i1,i2]:=λq u e hq=>by rw[(fz q hq).1]at e;cases e
  refine I.step (g':=s.gens) (d':=s.drawn) (t':=s.toks) (ch:=[z,TI,TO,i1,i2]) (λq hq=>⟨(fz q hq).2.2.2.1,(fz q hq).2.1,(fz q hq).2.2.2.2.1,(fz q hq).2.2.2.2.2⟩) (λq o _ _ hq e _=>kp q o hq e) (λq o _ _ hq e _=>⟨o.slots,kp q o hq e⟩) (λ_ _ _ _ n=>n)
   (λq o hq e=>⟨o,kp q o hq e⟩) (λ_ _ e=>e) (λ_ _ _ e=>e) (λq ps e=>⟨#[],by rw[e];simp⟩) (λm hm=>?_) (λq u e=>?_) I.bare
  .obtain⟨o,es,ep,ho,r⟩:=hm;exact⟨o,es,ep,kp _ o (λhq=>(fz _ hq).2.1 rfl) ho,r⟩
  .refine(I.τ q u e).Ϭ (λq' v Io e'=>kp q' v ?_ e') (λ_ e'=>e') λ_ _ e'=>e';rcases Io with rfl|Io
   .exact Hn _ u e
   .exact Hn _ _ Io
 self:=λA i s Q E t q=>wpAny_pyIter_zip t.1 q
section
variable{X:Cx}{pins:List (Addr×Obj)}{σ:St}{H H2:Hp}{s s2:Shared}{a:Addr}{o:HO}
theorem Inv.aeF(I:Inv X pins σ H s)(I2:Inv X pins σ H2 s2)(ha:s.heap.objs.size<=a)(hn:H2 a=none)(new:Γ X.prog X.w (upd H2 a o) s2.heap a o):Inv X pins σ (upd H2 a o) s2:=by
 refine⟨I2.ok,I2.os,I2.bare,?_,I2.loc,I2.cell,?_,λn c e=>?_,λp hp=>?_,λq u e=>?_,I2.len⟩
 .refine⟨I2.base.keep,I2.base.slot,λq oq e n hx=>?_,I2.base.there,λq xs e=>?_,λq oq u e=>?_,λq ps e=>?_⟩
  .rw[aO (aV (aW (aW (aG e) I.sz) ha))];exact I2.base.free q oq e n hx
  .have e':=I2.base.ϭ q xs e;rw[aO (λz=>by rw[z,hn]at e';cases e')];exact e'
  .have e':=I2.base.ϥ q oq u e;rw[aO (λz=>by rw[z,hn]at e';cases e')];exact e'
  .obtain⟨more,e'⟩:=I2.base.Ϯ q ps e;exact⟨more,by rw[aO (λz=>by rw[z,hn]at e';cases e')];exact e'⟩
 .rw[aO (aV (aW I.lt ha))];exact I2.free
 .obtain⟨vv,oc,ho,_⟩:=I.cell n c e;rw[aO (aV (aW (aG ho) ha))];exact I2.Ρ n c e
 .obtain⟨k1,k2,k3⟩:=I.pin p hp;rw[aO (aV (aW (aG k1) ha))];exact I2.pin p hp
 .by_cases hq:q=a
  .subst hq;rw[ax]at e;cases e;exact new
  .rw[aO hq]at e;refine(I2.τ q u e).Ϭ (λ_ _ _ e'=>e') (λq' e'=>?_) λq' xs e'=>?_
   .rw[aO (λz=>by rw[z,hn]at e';cases e')];exact e'
   .rw[aO (λz=>by rw[z,hn]at e';cases e')];exact e'
end
theorem Jv:typeLookup (.type "list_reverseiterator") "__len__"=pure none:=by rw[typeLookup_type,builtinLookup_eq_fast];kernel_rfl
theorem Nl:typeLookup (.type "list_reverseiterator") "__length_hint__"=pure (some (.builtin "list_reverseiterator.__length_hint__")):=by rw[typeLookup_type,builtinLookup_eq_fast];kernel_rfl
section
variable{P:Program}{w:World}{A:Around}{E:Value->Shared->Prop}{s:Shared}
theorem Pm{it:Addr}{Q:Bool->Shared->Prop}(hT:s.TypeIs (.ref it) "list_reverseiterator")(h:Q false s):wpAny (model P w) A (Builtin.List.listLengthHint (.ref it)) Q E s:=by
 unfold Builtin.List.listLengthHint;refine ak (lq hT Jv ?_);refine fV (λhab=>absurd hab (by decide)) (λ_=>?_);refine fV (λhab=>absurd hab (by decide)) (λ_=>?_);refine ak (lq hT Nl ?_);generalize hid:("list_reverseiterator.__length_hint__":String)=id0
 wp_delta
 rw[show splitId id0=some ("list_reverseiterator","__length_hint__")from by subst hid;decide +kernel];subst hid;refine ak (wpAny_isInstance (T:="list_reverseiterator") (b:=true) hT (by rw[isSubtype_type];kernel_rfl) ?_);refine fV (λhab=>absurd hab (by decide)) (λ_=>?_);refine fV (λ_=>?_) (λhab=>absurd (by decide +kernel) hab);refine fV (λhab=>absurd hab (by decide +kernel)) (λ_=>?_);exact aR h
end
def JH(I l:Addr)(its:Array Value)(i:Nat)(h:Heap):Prop:=i<=its.size/\h.IsRevIter I l ((its.size:Int)-1-(i:Int))/\h.IsList l its
def JN(its:Array Value)(i:Nat)(v:Value):Prop:=its[its.size-1-i]?=some v
section
variable{P:Program}{w:World}{A:Around}{E:Value->Shared->Prop}{s:Shared}{R:Result->Shared->Prop}
theorem JQ(hh:A.handled=none){I l S:Addr}{its:Array Value}{res:Value}{c0:Nat}(st:JH I l its 0 s.heap)(ne:l≠I)(n1:S≠I)(n2:S≠l)(hz:its.size<=sizeLine)(hS:s.heap.get? S=some { cls:=.type "list",data:=.seq #[] c0 })(hR:∀s' acc c',Moved [S,I] (λa b=>b=a) s s'->s'.heap.get? S=some { cls:=.type "list",dict:=none,data:=.seq acc c',slots:=#[] }->ItemsOf (JN its) acc its.size->R (.ok (.ret res)) s'):wpAny (model P w) A.in1 (Builtin.List.listExtendWith (.ref S) (.ref I) res) (λfn s'=>match fn with|.done f=>R (.ok f) s'|.again c'=>c'.quiet=true/\codeAny (model P w) A c' R s') (λe s'=>R (.error e) s') s:=by
 have W:=(Walks.listRev (prog:=P) (w:=w) (A:=A.in1) hh I l ne its).toS;have hT:s.TypeIs (.ref I) "list_reverseiterator":=st.2.1.typeIs;unfold Builtin.List.listExtendWith;refine ak (wpAny_typeOf hT ?_);have t1:Builtin.List.listSameRef (.ref S) (.ref I)=false:=by simp[Builtin.List.listSameRef,n1]
 have t2:(Value.type "list_reverseiterator" == Value.type "list")=false:=by decide
 have t3:(Value.type "list_reverseiterator" == Value.type "tuple")=false:=by decide
 simp only[t1,t2,t3,m3,bR,if_false];refine ak (jt st.2.1 ?_);refine ak (fh (Pm hT ?_));refine fV (λhab=>absurd hab (by decide +kernel)) (λ_=>?_);refine aR ⟨plainId_quiet F.plain_extend_loop _,codeAny_extend_loopS W hz S (by simp[n1,n2]) res its.size 0 _ #[] c0 rfl (bz _) st hS (ItemsOf.nil _) λs' acc c' hm hS' iN=>?_⟩;exact hR s' acc c' hm hS' iN
theorem D1(hh:A.handled=none){I l:Addr}{its:Array Value}{Q:Value->Shared->Prop}(st:JH I l its 0 s.heap)(ne:l≠I)(hz:its.size<=sizeLine)(hQ:∀(s':Shared) (acc:Array Value) (c':Nat),s'.os=s.os->s'.gens=s.gens->s'.drawn=s.drawn->(∀b o,b≠I->s.heap.get? b=some o->s'.heap.get? b=some o)->s'.heap.get? s.heap.objs.size=some { cls:=.type "list",dict:=none,data:=.seq acc c',slots:=#[] }->ItemsOf (JN its) acc its.size->Q (.ref s.heap.objs.size) s'):wpAny (model P w) A (call (.type "list") [.ref I]) Q E s:=by
 obtain⟨oI,hoI,_⟩:=id st.2.1;obtain⟨ol,hol,_⟩:=id st.2.2;have n1:s.heap.objs.size≠I:=eL (aG hoI);have n2:s.heap.objs.size≠l:=eL (aG hol);refine callType_codes (Q₁:=λobj s₁=>obj=.ref s.heap.objs.size/\s₁={ s with heap:=s.heap.push { cls:=.type "list",data:=.seq #[] } }) F.called_list (F.typeCall_list_1 _) F.entry_list_init (code_list_new _ ⟨rfl,rfl⟩) λobj s₁ h₁=>?_;obtain⟨rfl,rfl⟩:=h₁;have b1:(s.heap.push { cls:=.type "list",data:=.seq #[] }).get? s.heap.objs.size=some { cls:=.type "list",data:=.seq #[] }:=ba _ rfl;refine⟨⟨_,b1,rfl⟩,F.args_list_init_2 _ _,?_⟩;show wpAny (model P w) A.in1.in1 (do let old <-Builtin.List.listItems (.ref s.heap.objs.size);Builtin.List.listUpdate (.ref s.heap.objs.size) (λ_=>#[]);letGo old.toList.reverse;Builtin.List.listExtendWith (.ref s.heap.objs.size) (.ref I) .none) _ _ _;refine ak ?_;unfold Builtin.List.listItems;refine ak (cV b1 rfl (aR ?_));show wpAny (model P w) A.in1.in1 (updateSeq s.heap.objs.size (λ_=>#[])>>=λ_=>letGo (#[]:Array Value).toList.reverse>>=λ_=>Builtin.List.listExtendWith (.ref s.heap.objs.size) (.ref I) .none) _ _ _;refine ak (je b1 rfl ?_);have b2:=dC (Obj.mapSeq (λ_=>(#[]:Array Value))) b1 rfl;have kk:∀b o,s.heap.get? b=some o->((s.heap.push { cls:=.type "list",data:=.seq #[] }).update s.heap.objs.size (Obj.mapSeq (λ_=>(#[]:Array Value)))).get? b=some o:=λb o e=>(bM _ _ (eL (aG e))).trans (aw _ e)
 refine ak (fJ ?_);refine JQ (A:=A.in1) hh (I:=I) (l:=l) (its:=its) ⟨st.1,st.2.1.at λo e=>kk _ o e,st.2.2.at λo e=>kk _ o e⟩ ne n1 n2 hz b2 λs' acc c' hm hS' iN=>?_;refine⟨rfl,hQ s' acc c' hm.os hm.gens hm.drawn (λb o hb e=>hm.heap b o (λz=>?_) (kk b o e)) hS' iN⟩;simp only[ar,dQ,or_false]at z;rcases z with z|z
 .exact absurd (aG e) (by rw[z];exact cG _)
 .exact hb z
end
theorem Mp{its acc:List Value}(h:ItemsOf (JN its.toArray) acc.toArray its.toArray.size):acc=its.reverse:=by
 obtain⟨h1,h2⟩:=h;simp only[aN]at h1;refine eW λj=>?_;by_cases hj:j<acc.length
 .have q:=h2 j acc[j] (by simp[hj]);unfold JN at q;rw[ap hj,cB (by lia)];simp only[aN,List.getElem?_toArray]at q;exact q.symm
 .rw[bI (by lia),bI (by rw[bj];lia)]
section
variable{X:Cx}{e:Expr}{te:TE}{p1 p2 pos YG:Pos}
def QG(K:PySem.W.Frag)(te:TE):TE:=λσ H Q=>te σ H λx H1=>∃a ys,x=.ref a/\μ K H1 a ys/\∀l,H1 l=none->Q (.ref l) (upd H1 l (.lst ys.reverse))
theorem Q3{pins:List (Addr×Obj)}{s:Shared}{σ:St}{H:Hp}{R:List Value->Shared->Prop}(hg:Gl X "reversed")(hm:X.mg "reversed"=none)(he:PE X e te)(I:Inv X pins σ H s){Q':V->Hp->Prop}(h:te σ H Q')(h1:starEach [.Call (.Name "reversed" p2) [e] [] YG] X.env=[(false,eval (.Call (.Name "reversed" p2) [e] [] YG) X.env)])(h2:starEach [e] X.env=[(false,eval e X.env)])(k:∀s1 H1 x a ys (its:List Value),Inv X pins σ H1 s1->Q' x H1->x=.ref a->μ X.K H1 a ys->Vals ys its->JH s1.heap.objs.size a its.toArray 0 (s1.heap.push (revObj a ((its.toArray.size:Int)-1)))->a≠s1.heap.objs.size->its.toArray.size<=sizeLine->R [.ref s1.heap.objs.size] { s1 with heap:=s1.heap.push (revObj a ((its.toArray.size:Int)-1)) })(sq:∀x H1,Q' x H1->∃a ys,x=.ref a/\μ X.K H1 a ys):wpAny (model X.prog X.w) X.A (spliced (backTo pos (starEach [.Call (.Name "reversed" p2) [e] [] YG] X.env))) R X.xe s:=by
 rw[h1];show wpAny _ _ (spliced ((false,eval (.Call (.Name "reversed" p2) [e] [] YG) X.env)::backTo pos [])) _ _ s;refine gB ?_;refine Call_ (nI I hg hm boot_reversed (cD ?_ h2 rfl));rw[h2];show wpAny _ _ (spliced ((false,eval e X.env)::backTo YG [])) _ _ s;refine gB (d5 (he pins s σ H _ I h) λu s1 x H1 I1 r1 q1=>gI ?_);obtain⟨a,ys,ex,sa⟩:=sq x H1 q1;subst ex;cases r1;obtain⟨its,rv,pl,hz⟩:=I1.list sa;have ne:a≠s1.heap.objs.size:=aV pl.lt;refine call_reversed_list pl.isList (gI ?_);refine k s1 H1 _ a ys its I1 q1 rfl sa rv ⟨bz _,⟨_,ba _ rfl,rfl,?_⟩,pl.isList.push _⟩ ne (by rw[aN,<-rv.length];exact hz);simp[revObj]
theorem RG(hc:X.calm=true)(hg:Gl X "reversed")(hm:X.mg "reversed"=none)(hg1:Gl X "list")(hm1:X.mg "list"=none)(he:PE X e te)(h1:starEach [.Call (.Name "reversed" p2) [e] [] YG] X.env=[(false,eval (.Call (.Name "reversed" p2) [e] [] YG) X.env)]:=by rfl)(h2:starEach [e] X.env=[(false,eval e X.env)]:=by rfl):PE X (.Call (.Name "list" p1) [.Call (.Name "reversed" p2) [e] [] YG] [] pos) (QG X.K te):=by
 intro pins s σ H Q I h;refine Call_ (nI I hg1 hm1 boot_list (cD ?_ h1 rfl));refine Q3 hg hm he I h h1 h2 (λs1 H1 x a ys its I1 q1 ex sa rv st ne hz=>?_) λx H1 ⟨a,ys,ex,sa,_⟩=>⟨a,ys,ex,sa⟩;obtain⟨a',aC,ex',sa',q⟩:=q1;rw[ex]at ex';cases ex';have ey:=I1.bY sa sa';subst ey;refine D1 (I1.ok.hd hc) st ne hz λs' acc c' e1 e2 e3 k5 e5 iN=>?_;obtain⟨hs,gs,ds,ts,os'⟩:=s';simp only at e1 e2 e3 k5 e5;subst e1 e2 e3;obtain⟨al,rfl⟩:∃al:List Value,acc=al.toArray:=⟨acc.toList,by simp⟩;have er:=Mp iN;subst er;have kk:∀b u,s1.heap.get? b=some u->hs.get? b=some u:=λb u eb=>k5 b u (aV (aG eb)) (aw _ eb);have I2:Inv X pins σ H1 { s1 with heap:=hs,toks:=ts }:=I1.kept kk;have sz:(s1.heap.push (revObj a ((its.toArray.size:Int)-1))).objs.size=s1.heap.objs.size+1:=dF ..;rw[sz]at e5;show EP X pins σ Q (.ref (s1.heap.push (revObj a ((its.toArray.size:Int)-1))).objs.size) _;rw[sz];have nH:H1 (s1.heap.objs.size+1)=none:=I1.τ.fresh (fe _);refine⟨.ref _,_,I1.aeF (o:=.lst ys.reverse) I2 (fe _) nH ⟨?_,its.reverse,c',rv.reverse,e5⟩,rfl,q _ nH⟩;rw[bj,rv.length]
 simpa using hz
end
theorem kJ{a b:Nat}(h:a<b\/b<a):a≠b:=by lia
theorem Vt(n a b:Nat)(h1:a<n)(h2:b<n):ZAp (n+4) (n+2) (n+3) n (n+1) a b:=⟨kJ (by lia),kJ (by lia),kJ (by lia),kJ (by lia),kJ (by lia),kJ (by lia),kJ (by lia),kJ (by lia),kJ (by lia),kJ (by lia),⟨kJ (by lia),kJ (by lia),kJ (by lia),kJ (by lia)⟩,⟨kJ (by lia),kJ (by lia),kJ (by lia),kJ (by lia)⟩⟩
section
variable{X:Cx}
def O3(K:PySem.W.Frag)(c d:Bool)(ta:TA):TI:=λσ H R=>ta σ H λvs H1=>∃a b,vs=[.ref a,.ref b]/\(∃xs,ϧ K c H1 a xs)/\(∃ys,ϧ K d H1 b ys)/\R (Itz K c d a b) H1
theorem UJ{elts:List Expr}{x1}{Ge:Pos}{ea eb:Expr}{ta:TA}{p pos:Pos}(c d:Bool)(hg:Gl X "zip")(hm:X.mg "zip"=none)(ha:PA X [ea,eb] ta)(hs:starEach [ea,eb] X.env=[(false,eval ea X.env),(false,eval eb X.env)]:=by rfl)(hs2:starEach [eb] X.env=[(false,eval eb X.env)]:=by rfl):PI X (.Tuple elts x1 Ge) (.Call (.Name "zip" p) [ea,eb] [] pos) (O3 X.K c d ta):=by
 intro pins s σ H R I h;refine Call_ (nI I hg hm boot_zip (cD (rL (ha pos pins s σ H _ I h) λus s1 vs H1 I1 r1 q1=>?_) (by rw[hs,hs2]) (by rw[hs2];rfl)));obtain⟨a,b,e,⟨xs,sa⟩,⟨ys,sb⟩,q⟩:=q1;subst e;obtain⟨u,v,rfl,ru,rv⟩:=EB r1;cases ru;cases rv;obtain⟨us,r1,q1⟩:=I1.X1 sa;obtain⟨vs,r2,q2⟩:=I1.X1 sb;obtain⟨oa,hoa⟩:=sk a c _ _ q1;obtain⟨ob,hob⟩:=sk b d _ _ q2;have la:=aG hoa;have lb:=aG hob;refine OU (j8 a c) (j8 b d) (sk b d) q1 q2 (λh' w1 w2 w3 w4 w5 w6=>?_) (wP a c) (wP b d);refine wpAny_pyIter_zip w1 ?_;have D:=Vt s1.heap.objs.size a b la lb;refine⟨_,[s1.heap.objs.size+4,s1.heap.objs.size+2,s1.heap.objs.size+3,s1.heap.objs.size,s1.heap.objs.size+1],_,_,H1,rfl,I1.kept (t':=s1.toks) w6,Qa c d a b _ _ _ _ _ D,⟨w1,w2,⟨_,_,w3⟩,w4,w5⟩,λq hq=>?_,q⟩;have hle:s1.heap.objs.size<=q:=by
  simp only[ar,dQ,or_false]at hq;rcases hq with rfl|rfl|rfl|rfl|rfl
  .exact iI _ 4
  .exact iI _ 2
  .exact iI _ 3
  .exact aA _
  .exact iI _ 1
 exact I1.ZG hle (I1.τ.fresh hle)
end
end L2
namespace Pb
structure Road where
 a:Int
 b:Int
 t:Int
 u:Int
 deriving DecidableEq
def MH(m:Int)(rs:List Road):Prop:=∀S:Int->Prop,S 0->(∀r∈rs,(S r.a↔S r.b))->∀v,0<=v->v<m->S v
structure Yc(m:Int)(r:Road):Prop where
 a0:0<=r.a
 a1:r.a<m
 b0:0<=r.b
 b1:r.b<m
 ne:r.a≠r.b
 t0:2<=r.t
 t1:r.t<=1000000
 u0:2<=r.u
 u1:r.u<=1000000
structure Good(m:Int)(rs:List Road):Prop where
 m1:1<=m
 Ζ:m<=24
 len:(rs.length:Int)=m-1
 ok:∀r∈rs,Yc m r
 jn:MH m rs
theorem qh{α:Type}[DecidableEq α]:∀{l l':List α},l.Nodup->(∀x∈l,x∈l')->l.length<=l'.length
 | [],_,_,_=>bz _
 | x::r,l',hn,hs=>by
   obtain⟨h1,h2⟩:=bn.mp hn;have hx:x∈l':=hs x aK;have:r.length<=(l'.erase x).length:=qh h2 λy hy=>(mn (λ(e:y=x)=>h1 (by rw[<-e];exact hy))).mpr (hs y (aI _ hy));rw[List.length_erase_of_mem hx]at this;have hp:0<l'.length:=List.length_pos_of_mem hx;rw[aE]
   lia
def cR(n:Nat):List Int:=(List.range n).map λ(k:Nat)=>(k:Int)
theorem gq{n:Nat}{v:Int}:v∈cR n↔0<=v/\v<n:=by
 unfold cR;rw[bu]
 constructor
 .rintro⟨k,hk,rfl⟩;have:=b6.mp hk
  lia
 .rintro⟨h0,h1⟩;exact⟨v.toNat,b6.mpr (by lia),by lia⟩
theorem da(n:Nat):(cR n).length=n:=by simp[cR]
theorem kh(n:Nat):(cR n).Nodup:=by
 unfold cR;refine List.Pairwise.map _ (λa b h=>?_) (List.nodup_range (n:=n));intro e;exact h (by lia)
theorem gx{m:Int}{l:List Int}(hm:0<=m)(hn:l.Nodup)(h:∀x∈l,0<=x/\x<m):(l.length:Int)<=m:=by
 have:=qh (l':=cR m.toNat) hn λx hx=>gq.mpr ⟨(h x hx).1,by have:=(h x hx).2;lia⟩;rw[da]at this
 lia
theorem O7{m:Int}{l:List Int}(hm:0<=m)(h:∀v,0<=v->v<m->v∈l):m<=(l.length:Int):=by
 have:=qh (l:=cR m.toNat) (l':=l) (kh _) λx hx=>by
  obtain⟨h0,h1⟩:=gq.mp hx;exact h x h0 (by lia)
 rw[da]at this
 lia
def ua(p:Int)(r:Road):List Int:=(if r.a=p then[r.b]else[])++(if r.b=p then[r.a]else[])
def f6(rs:List Road)(p:Int):List Int:=rs.flatMap (ua p)
theorem sZ{rs:List Road}{p e:Int}:e∈f6 rs p↔∃r∈rs,(r.a=p/\r.b=e)\/(r.b=p/\r.a=e):=by
 unfold f6 ua;rw[gH]
 constructor
 .rintro⟨r,hr,h⟩;refine⟨r,hr,?_⟩;rcases bc.mp h with h|h
  .by_cases c:r.a=p
   .rw[aj c]at h;exact .inl ⟨c,(aB.mp h).symm⟩
   .rw[ag c]at h;cases h
  .by_cases c:r.b=p
   .rw[aj c]at h;exact .inr ⟨c,(aB.mp h).symm⟩
   .rw[ag c]at h;cases h
 .rintro⟨r,hr,h⟩;refine⟨r,hr,bc.mpr ?_⟩;rcases h with⟨h1,h2⟩|⟨h1,h2⟩
  .exact .inl (by rw[aj h1,h2];exact aB.mpr rfl)
  .exact .inr (by rw[aj h1,h2];exact aB.mpr rfl)
theorem FB(rs:List Road)(p:Int):(f6 rs p).length<=2*rs.length:=by
 unfold f6
 induction rs with
 | nil=>simp
 | cons r rs ih=>
   rw[di,aP,aE];have:(ua p r).length<=2:=by
    unfold ua;rw[aP];by_cases c:r.a=p<;>by_cases d:r.b=p<;>simp[c,d]
   lia
theorem ue(rs:List Road)(r:Road)(p:Int):f6 (rs++[r]) p=f6 rs p++ua p r:=by
 unfold f6;rw[m6];simp
def Bg(c:List Int×List Int)(e:Int):List Int×List Int:=if e∈c.1 then c else(c.1++[e],c.2++[e])
structure YH(m:Int)(rs:List Road)(ks ws:List Int):Prop where
 nd:ks.Nodup
 zero:0∈ks
 Μ:∀k∈ks,0<=k/\k<m
 sub:∀w∈ws,w∈ks
 cl:∀k∈ks,k∉ws->∀e∈f6 rs k,e∈ks
 wl:ws.length<=ks.length
theorem J5{l:List Int}{e:Int}(h:l.Nodup)(he:e∉l):(l++[e]).Nodup:=by
 rw[fI];refine⟨h,by simp,λa ha b hb=>?_⟩;rw[aB.mp hb];exact λz=>he (z▸ha)
structure Yd(m:Int)(rs:List Road)(p:Int)(es ks ws ks0:List Int)(n0:Nat):Prop where
 nd:ks.Nodup
 zero:0∈ks
 Μ:∀k∈ks,0<=k/\k<m
 sub:∀w∈ws,w∈ks
 cl:∀k∈ks,k∉ws->k=p\/∀e∈f6 rs k,e∈ks
 seen:∀e∈es,e∈ks
 pin:p∈ks
 mu:ks.length+n0=ks0.length+ws.length
 up:ks0.length<=ks.length
 wl:ws.length<=ks.length
theorem Yd.start{m:Int}{rs:List Road}{ks ws:List Int}{p:Int}(h:YH m rs ks (ws++[p])):Yd m rs p [] ks ws ks ws.length where
 nd:=h.nd
 zero:=h.zero
 Μ:=h.Μ
 sub:=λw hw=>h.sub w (bo _ hw)
 cl:=λk hk hw=>by
  by_cases e:k=p
  .exact .inl e
  .exact .inr (h.cl k hk λz=>by
    rcases bc.mp z with z|z
    .exact hw z
    .exact e (aB.mp z))
 seen:=λe he=>by cases he
 pin:=h.sub p (aY _ (aB.mpr rfl))
 mu:=rfl
 up:=aA _
 wl:=by have:=h.wl;rw[aP]at this;simp at this;lia
theorem Yd.step{m:Int}{rs:List Road}{p:Int}{es ks ws ks0:List Int}{n0:Nat}{e:Int}(h:Yd m rs p es ks ws ks0 n0)(h0:0<=e)(h1:e<m):Yd m rs p (es++[e]) (Bg (ks,ws) e).1 (Bg (ks,ws) e).2 ks0 n0:=by
 unfold Bg;by_cases c:e∈ks
 .rw[aj c];refine⟨h.nd,h.zero,h.Μ,h.sub,h.cl,λx hx=>?_,h.pin,h.mu,h.up,h.wl⟩;rcases bc.mp hx with z|z
  .exact h.seen x z
  .rw[aB.mp z];exact c
 .rw[ag c];dsimp only;refine⟨J5 h.nd c,bo _ h.zero,λk hk=>?_,λw hw=>?_,λk hk hw=>?_,λx hx=>?_,bo _ h.pin,?_,by have:=h.up;simp;lia,by have:=h.wl;simp;exact this⟩
  .rcases bc.mp hk with z|z
   .exact h.Μ k z
   .rw[aB.mp z];exact⟨h0,h1⟩
  .rcases bc.mp hw with z|z
   .exact bo _ (h.sub w z)
   .exact aY _ z
  .rcases bc.mp hk with z|z
   .rcases h.cl k z λy=>hw (bo _ y)with y|y
    .exact .inl y
    .exact .inr λx hx=>bo _ (y x hx)
   .exact absurd (aY _ z) hw
  .rcases bc.mp hx with z|z
   .exact bo _ (h.seen x z)
   .exact aY _ z
  .have:=h.mu;simp only[aP,aE,eD]
   lia
theorem Yd.done{m:Int}{rs:List Road}{p:Int}{ks ws ks0:List Int}{n0:Nat}(h:Yd m rs p (f6 rs p) ks ws ks0 n0):YH m rs ks ws where
 nd:=h.nd
 zero:=h.zero
 Μ:=h.Μ
 sub:=h.sub
 cl:=λk hk hw=>by
  rcases h.cl k hk hw with z|z
  .rw[z];exact h.seen
  .exact z
 wl:=h.wl
theorem YH.start{m:Int}{rs:List Road}(hm:1<=m):YH m rs [0] [0] where
 nd:=by simp
 zero:=by simp
 Μ:=λk hk=>by rw[aB.mp hk];lia
 sub:=λw hw=>hw
 cl:=λk hk hw=>absurd hk hw
 wl:=by simp
theorem YH.all{m:Int}{rs:List Road}{ks:List Int}(h:YH m rs ks [])(hm:1<=m)(j:MH m rs):(ks.length:Int)=m:=by
 have up:=gx (by lia) h.nd h.Μ;have:∀v,0<=v->v<m->v∈ks:=j (λv=>v∈ks) h.zero λr hr=>by
  constructor
  .intro ha;exact h.cl r.a ha (by simp) r.b (sZ.mpr ⟨r,hr,.inl ⟨rfl,rfl⟩⟩)
  .intro hb;exact h.cl r.b hb (by simp) r.a (sZ.mpr ⟨r,hr,.inr ⟨rfl,rfl⟩⟩)
 have:=O7 (by lia) this
 lia
theorem P9{m:Int}{rs:List Road}(h:∀r∈rs,Yc m r){p e:Int}(he:e∈f6 rs p):0<=e/\e<m:=by
 obtain⟨r,hr,z⟩:=sZ.mp he;have k:=h r hr;rcases z with⟨_,rfl⟩|⟨_,rfl⟩
 .exact⟨k.b0,k.b1⟩
 .exact⟨k.a0,k.a1⟩
structure Row where
 k:Int
 un:Int
 t:Int
 u:Int
 sw:Int
 sp:Int
structure Zo(r:Row):Prop where
 u0:0<=r.un
 u1:r.un<r.k
 t0:2<=r.t
 t1:r.t<=1000000
 v0:2<=r.u
 v1:r.u<=1000000
 s0:0<=r.sp
 s1:r.sp<r.k
structure Rows(n:Nat)(rows:List Row):Prop where
 len:rows.length=n
 ok:∀(i:Nat)(r:Row),rows[i]?=some r->r.k=(i:Int)+1/\Zo r
structure ύ(n:Nat)(ls:List Int):Prop where
 len:ls.length=n
 nd:ls.Nodup
 all:∀v:Int,0<=v->v<n->v∈ls
 Μ:∀v∈ls,0<=v/\v<n
theorem ύ.nil:ύ 0 []:=⟨rfl,by simp,λv h0 h1=>(by lia),λv h=>(by cases h)⟩
theorem sC{α:Type}{l:List α}{k:Nat}{x y:α}:y∈l.take k++x::l.drop k↔y=x\/y∈l:=by
 rw[bc,ar]
 constructor
 .rintro(h|h|h)
  .exact .inr (gJ h)
  .exact .inl h
  .exact .inr (cI h)
 .rintro(h|h)
  .exact .inr (.inl h)
  .rw[<-b8 k l]at h;rcases bc.mp h with z|z
   .exact .inl z
   .exact .inr (.inr z)
theorem ύ.put{n:Nat}{ls:List Int}(h:ύ n ls)(k:Nat)(hk:k<=n):ύ (n+1) (ls.take k++(n:Int)::ls.drop k) where
 len:=by
  rw[aP,aE,bd,dj,h.len]
  lia
 nd:=by
  have p:(ls.take k++(n:Int)::ls.drop k).Perm ((n:Int)::ls):=by
   refine List.perm_middle.trans ?_;rw[b8]
  refine p.nodup_iff.mpr (bn.mpr ⟨λz=>?_,h.nd⟩);have:=(h.Μ _ z).2
  lia
 all:=λv h0 h1=>by
  rw[sC];by_cases e:v=n
  .exact .inl e
  .exact .inr (h.all v h0 (by lia))
 Μ:=λv hv=>by
  rcases sC.mp hv with z|z
  .lia
  .have:=h.Μ v z
   lia
def m9(ls:List Int)(r:Row):Road:=if r.sw=1 then⟨ls.getD r.un.toNat 0,ls.getD r.k.toNat 0,r.t,r.u⟩else⟨ls.getD r.k.toNat 0,ls.getD r.un.toNat 0,r.t,r.u⟩
structure Put(ls:List Int)(rows:List Row)(rs:List Road):Prop where
 len:rs.length=rows.length
 of:∀r∈rs,∃w∈rows,r=m9 ls w
 to:∀w∈rows,m9 ls w∈rs
theorem Put.nil(ls:List Int):Put ls [] []:=⟨rfl,λr h=>(by cases h),λr h=>(by cases h)⟩
theorem Put.step{ls:List Int}{rows:List Row}{rs:List Road}(h:Put ls rows rs)(w:Row)(k:Nat):Put ls (rows++[w]) (rs.take k++m9 ls w::rs.drop k) where
 len:=by
  rw[aP,aE,bd,dj,aP,h.len];simp
  lia
 of:=λr hr=>by
  rcases sC.mp hr with z|z
  .exact⟨w,by simp,z⟩
  .obtain⟨w',hw,e⟩:=h.of r z;exact⟨w',bo _ hw,e⟩
 to:=λw' hw=>by
  rw[sC];rcases bc.mp hw with z|z
  .exact .inr (h.to w' z)
  .exact .inl (by rw[aB.mp z])
theorem sO{ls:List Int}{n:Nat}(h:ύ n ls){i:Nat}(hi:i<n):ls[i]?=some (ls.getD i 0):=by
 have:i<ls.length:=by rw[h.len];exact hi
 simp[List.getD,ap this]
theorem Ga{ls:List Int}{n:Nat}(h:ύ n ls){i:Nat}(hi:i<n):ls.getD i 0∈ls:=aM (sO h hi)
theorem Ni{ls:List Int}{n:Nat}(h:ύ n ls){i j:Nat}(hi:i<n)(hj:j<n)(e:ls.getD i 0=ls.getD j 0):i=j:=by
 have h1:i<ls.length:=by rw[h.len];exact hi
 have h2:j<ls.length:=by rw[h.len];exact hj
 have e1:=sO h hi;have e2:=sO h hj;rw[e]at e1;have e3:ls[i]'h1=ls[j]'h2:=by
  rw[ap h1]at e1;rw[ap h2]at e2;exact bq (e1.trans e2.symm)
 have nd:=eK.mp h.nd;rcases Nat.lt_trichotomy i j with z|z|z
 .exact absurd e3 (nd i j h1 h2 z)
 .exact z
 .exact absurd e3.symm (nd j i h2 h1 z)
theorem RH{n:Nat}{ls:List Int}{rows:List Row}{rs:List Road}(h1:1<=n)(h24:n<=24)(L:ύ n ls)(W:Rows (n-1) rows)(P:Put ls rows rs):Good n rs where
 m1:=by lia
 Ζ:=by lia
 len:=by rw[P.len,W.len];lia
 ok:=λr hr=>by
  obtain⟨w,hw,rfl⟩:=P.of r hr;obtain⟨i,hi⟩:=cL hw;obtain⟨ek,ok⟩:=W.ok i w hi;have Za:i<rows.length:=(aq.mp hi).1;rw[W.len]at Za;have hk:w.k.toNat<n:=by lia
  have hu:w.un.toNat<n:=by have:=ok.u0;have:=ok.u1;lia
  have r1:=L.Μ _ (Ga L hk);have r2:=L.Μ _ (Ga L hu);have ne:ls.getD w.k.toNat 0≠ls.getD w.un.toNat 0:=λe=>by
   have:=Ni L hk hu e;have:=ok.u0;have:=ok.u1
   lia
  unfold m9;by_cases c:w.sw=1
  .rw[aj c];exact⟨r2.1,r2.2,r1.1,r1.2,ne.symm,ok.t0,ok.t1,ok.v0,ok.v1⟩
  .rw[ag c];exact⟨r1.1,r1.2,r2.1,r2.2,ne,ok.t0,ok.t1,ok.v0,ok.v1⟩
 jn:=by
  intro S s0 hS;have key:∀i:Nat,i<n->(S (ls.getD i 0)↔S (ls.getD 0 0)):=by
   intro i
   induction i using Nat.strongRecOn with
   | ind i ih=>
     intro hi;by_cases z:i=0
     .rw[z]
     .have Za:i-1<rows.length:=(by rw[W.len];lia);obtain⟨ek,ok⟩:=W.ok (i-1) rows[i-1] (ap Za);have hm:=P.to rows[i-1] (ee Za);have hr:=hS _ hm;have hk:(rows[i-1]).k.toNat=i:=(by lia);have hu:(rows[i-1]).un.toNat<i:=(by have:=ok.u0;have:=ok.u1;lia);have hh:=ih _ hu (by lia);unfold m9 at hr;rw[hk]at hr;by_cases c:(rows[i-1]).sw=1
      .rw[aj c]at hr;exact hr.symm.trans hh
      .rw[ag c]at hr;exact hr.trans hh
  have at_:∀v,0<=v->v<(n:Int)->∃i,i<n/\ls.getD i 0=v:=λv h0 h1=>by
   obtain⟨i,hi⟩:=cL (L.all v h0 h1);have Za:i<n:=(by have:=(aq.mp hi).1;rw[L.len]at this;exact this);refine⟨i,Za,?_⟩;have:=sO L Za;rw[hi]at this;exact(bq this).symm
  intro v h0 hv;obtain⟨i,hi,rfl⟩:=at_ v h0 hv;obtain⟨j,hj,ej⟩:=at_ 0 (by lia) (by lia);refine(key i hi).mpr ((key j hj).mp ?_);rw[ej];exact s0
def ZK(rs:List Road)(a b:Int):Prop:=∃x∈rs,(x.a=a/\x.b=b)\/(x.b=a/\x.a=b)
theorem ZK.symm{rs:List Road}{a b:Int}(h:ZK rs a b):ZK rs b a:=by
 obtain⟨x,hx,h⟩:=h;rcases h with⟨h1,h2⟩|⟨h1,h2⟩
 .exact⟨x,hx,.inr ⟨h2,h1⟩⟩
 .exact⟨x,hx,.inl ⟨h2,h1⟩⟩
theorem zt{rs:List Road}{a b:Int}:b∈f6 rs a↔ZK rs a b:=sZ
theorem Good.adj{m:Int}{rs:List Road}(g:Good m rs){a b:Int}(h:ZK rs a b):(0<=a/\a<m)/\(0<=b/\b<m)/\a≠b:=by
 obtain⟨x,hx,h⟩:=h;have k:=g.ok x hx;rcases h with⟨h1,h2⟩|⟨h1,h2⟩
 .subst h1 h2;exact⟨⟨k.a0,k.a1⟩,⟨k.b0,k.b1⟩,k.ne⟩
 .subst h1 h2;exact⟨⟨k.b0,k.b1⟩,⟨k.a0,k.a1⟩,k.ne.symm⟩
theorem Good.from{m:Int}{rs:List Road}(g:Good m rs){r:Int}(h0:0<=r)(h1:r<m)(S:Int->Prop)(sr:S r)(hS:∀x∈rs,(S x.a↔S x.b)):∀v,0<=v->v<m->S v:=by
 have key:∀v,0<=v->v<m->(S v↔S 0):=g.jn (λv=>S v↔S 0) Iff.rfl λx hx=>by
  have:=hS x hx;exact⟨λh=>this.symm.trans h,λh=>this.trans h⟩
 intro v a b;exact(key v a b).mpr ((key r h0 h1).mp sr)
inductive Xw(rs:List Road)(r:Int):Nat->Int->Prop
 | zero:Xw rs r 0 r
 | step {n:Nat} {u v:Int}:Xw rs r n u->ZK rs u v->Xw rs r (n+1) v
theorem VG{P:Nat->Prop}:∀n,P n->∃k,P k/\∀j,j<k->¬P j:=by
 intro n
 induction n using Nat.strongRecOn with
 | ind n ih=>
   intro h;by_cases z:∃j,j<n/\P j
   .obtain⟨j,hj,hp⟩:=z;exact ih j hj hp
   .exact⟨n,h,λj hj hp=>z ⟨j,hj,hp⟩⟩
structure ε(m:Int)(rs:List Road)(r:Int)(par:Int->Int)(dep:Int->Nat):Prop where
 root:dep r=0
 up:∀v,0<=v->v<m->v≠r->(0<=par v/\par v<m)/\ZK rs v (par v)/\dep (par v)+1=dep v
 road:∀x∈rs,(x.a≠r/\par x.a=x.b)\/(x.b≠r/\par x.b=x.a)
 one:(rs.map λx=>if x.a≠r/\par x.a=x.b then x.a else x.b).Nodup
theorem Q0{n:Nat}{l:List Nat}(hn:l.Nodup)(hl:l.length=n)(hb:∀x∈l,x<n):∀i,i<n->i∈l:=by
 intro i hi;by_cases z:i∈l
 .exact z
 .have:=qh (l:=i::l) (l':=List.range n) (bn.mpr ⟨z,hn⟩) λx hx=>by
   rcases ar.mp hx with rfl|hx
   .exact b6.mpr hi
   .exact b6.mpr (hb x hx)
  rw[aE,bC]at this
  lia
theorem BZ{m:Int}{rs:List Road}(g:Good m rs){r:Int}(h0:0<=r)(h1:r<m):∃par dep,ε m rs r par dep:=by
 classical
 have reach:∀v,0<=v->v<m->∃n,Xw rs r n v:=g.from h0 h1 (λv=>∃n,Xw rs r n v) ⟨0,.zero⟩ λx hx=>by
  constructor
  .rintro⟨n,d⟩;exact⟨n+1,d.step ⟨x,hx,.inl ⟨rfl,rfl⟩⟩⟩
  .rintro⟨n,d⟩;exact⟨n+1,d.step ⟨x,hx,.inr ⟨rfl,rfl⟩⟩⟩
 have hd:∀v,∃k,(0<=v/\v<m)->Xw rs r k v/\∀j,j<k->¬Xw rs r j v:=λv=>by
  by_cases z:0<=v/\v<m
  .obtain⟨n,d⟩:=reach v z.1 z.2;obtain⟨k,h⟩:=VG (P:=λk=>Xw rs r k v) n d;exact⟨k,λ_=>h⟩
  .exact⟨0,λh=>absurd h z⟩
 let dep:Int->Nat:=λv=>(hd v).choose
 have Zq:∀v,0<=v->v<m->Xw rs r (dep v) v/\∀j,j<dep v->¬Xw rs r j v:=λv a b=>(hd v).choose_spec ⟨a,b⟩;have dr:dep r=0:=by
  have:=(Zq r h0 h1).2 0;by_cases z:dep r=0
  .exact z
  .exact absurd Xw.zero (this (by lia))
 have hp:∀v,∃u,(0<=v/\v<m/\v≠r)->ZK rs v u/\dep u+1=dep v:=λv=>by
  by_cases z:0<=v/\v<m/\v≠r
  .obtain⟨a,b,c⟩:=z;obtain⟨d,dm⟩:=Zq v a b;generalize hk:dep v=k at d dm;cases d with
   | zero=>exact absurd rfl c
   | @step n u _ d e=>
     refine⟨u,λ_=>⟨e.symm,?_⟩⟩;obtain⟨⟨u0,u1⟩,_⟩:=g.adj e;have l1:dep u<=n:=by
      by_cases w:dep u<=n
      .exact w
      .exact absurd d ((Zq u u0 u1).2 n (by lia))
     have l2:¬dep u<n:=λw=>dm (dep u+1) (by lia) ((Zq u u0 u1).1.step e)
     lia
  .exact⟨0,λh=>absurd h z⟩
 let par:Int->Int:=λv=>(hp v).choose
 have X2:∀v,0<=v->v<m->v≠r->ZK rs v (par v)/\dep (par v)+1=dep v:=λv a b c=>(hp v).choose_spec ⟨a,b,c⟩;have hi:∀v,∃i:Nat,(0<=v/\v<m/\v≠r)->∃x,rs[i]?=some x/\((x.a=v/\x.b=par v)\/(x.b=v/\x.a=par v)):=λv=>by
  by_cases z:0<=v/\v<m/\v≠r
  .obtain⟨x,hx,h⟩:=(X2 v z.1 z.2.1 z.2.2).1;obtain⟨i,e⟩:=cL hx;exact⟨i,λ_=>⟨x,e,h⟩⟩
  .exact⟨0,λh=>absurd h z⟩
 let ix:Int->Nat:=λv=>(hi v).choose
 have Zr:∀v,0<=v->v<m->v≠r->∃x,rs[ix v]?=some x/\((x.a=v/\x.b=par v)\/(x.b=v/\x.a=par v)):=λv a b c=>(hi v).choose_spec ⟨a,b,c⟩;have inj:∀v u,0<=v->v<m->v≠r->0<=u->u<m->u≠r->ix v=ix u->v=u:=by
  intro v u a b c a' b' c' e;obtain⟨x,hx,h⟩:=Zr v a b c;obtain⟨y,hy,h'⟩:=Zr u a' b' c';rw[e,hy]at hx;cases hx;have d1:=(X2 v a b c).2;have d2:=(X2 u a' b' c').2;rcases h with⟨p,q⟩|⟨p,q⟩<;>rcases h' with⟨p',q'⟩|⟨p',q'⟩
  .exact p.symm.trans p'
  .exfalso
   have e1:v=par u:=p.symm.trans q';have e2:u=par v:=p'.symm.trans q;rw[<-e1]at d2;rw[<-e2]at d1
   lia
  .exfalso
   have e1:v=par u:=p.symm.trans q';have e2:u=par v:=p'.symm.trans q;rw[<-e1]at d2;rw[<-e2]at d1
   lia
  .exact p.symm.trans p'
 let vs:List Int:=(cR m.toNat).filter λv=>decide (v≠r)
 have mv:∀v,v∈vs↔(0<=v/\v<m/\v≠r):=λv=>by
  rw[b5,gq,bK]
  constructor
  .rintro⟨⟨a,b⟩,c⟩;exact⟨a,by lia,c⟩
  .rintro⟨a,b,c⟩;exact⟨⟨a,by lia⟩,c⟩
 have nv:vs.Nodup:=(kh _).filter _;have lv:vs.length=rs.length:=by
  have e1:(r::vs).length<=(cR m.toNat).length:=qh (bn.mpr ⟨λh=>((mv r).mp h).2.2 rfl,nv⟩) λx hx=>by
   rcases ar.mp hx with rfl|hx
   .exact gq.mpr ⟨h0,by lia⟩
   .have:=(mv x).mp hx;exact gq.mpr ⟨this.1,by lia⟩
  have e2:(cR m.toNat).length<=(r::vs).length:=qh (kh _) λx hx=>by
   have:=gq.mp hx;by_cases z:x=r
   .rw[z];exact aK
   .exact aI _ ((mv x).mpr ⟨this.1,by lia,z⟩)
  rw[da,aE]at e1 e2;have:=g.len;have:=g.m1
  lia
 have il:(vs.map ix).Nodup:=by
  have:∀(l:List Int),l.Nodup->(∀v∈l,0<=v/\v<m/\v≠r)->(l.map ix).Nodup:=by
   intro l
   induction l with
   | nil=>intro _ _;simp
   | cons v l ih=>
     intro hn hm;obtain⟨n1,n2⟩:=bn.mp hn;rw[aH];refine bn.mpr ⟨λz=>?_,ih n2 λu hu=>hm u (aI _ hu)⟩;obtain⟨u,hu,e⟩:=bu.mp z;obtain⟨a,b,c⟩:=hm v aK;obtain⟨a',b',c'⟩:=hm u (aI _ hu);exact n1 (inj u v a' b' c' a b c e▸hu)
  exact this vs nv λv hv=>(mv v).mp hv
 have ib:∀i∈vs.map ix,i<rs.length:=λi hi'=>by
  obtain⟨v,hv,rfl⟩:=bu.mp hi';obtain⟨a,b,c⟩:=(mv v).mp hv;obtain⟨x,hx,_⟩:=Zr v a b c;exact(aq.mp hx).1
 have all:=Q0 il (by rw[ah,lv]) ib;have back:∀i x,rs[i]?=some x->∃v,(0<=v/\v<m/\v≠r)/\ix v=i/\((x.a=v/\x.b=par v)\/(x.b=v/\x.a=par v)):=λi x e=>by
  obtain⟨v,hv,rfl⟩:=bu.mp (all i (aq.mp e).1);obtain⟨a,b,c⟩:=(mv v).mp hv;obtain⟨y,hy,h⟩:=Zr v a b c;rw[e]at hy;cases hy;exact⟨v,⟨a,b,c⟩,rfl,h⟩
 have acQ:∀v,0<=v->v<m->v≠r->par v≠r->par (par v)≠v:=λv a b c c' z=>by
  have d1:=X2 v a b c;obtain⟨_,⟨a',b'⟩,_⟩:=g.adj d1.1;have d2:=X2 (par v) a' b' c';rw[z]at d2
  lia
 have kid:∀i x,rs[i]?=some x->∃v,(0<=v/\v<m/\v≠r)/\ix v=i/\(if x.a≠r/\par x.a=x.b then x.a else x.b)=v:=λi x e=>by
  obtain⟨v,⟨a,b,c⟩,hv,h⟩:=back i x e;refine⟨v,⟨a,b,c⟩,hv,?_⟩;rcases h with⟨p,q⟩|⟨p,q⟩
  .rw[aj ⟨by rw[p];exact c,by rw[p];exact q.symm⟩];exact p
  .rw[ag]
   .exact p
   .rintro⟨z1,z2⟩;rw[q]at z1 z2;exact acQ v a b c z1 (z2.trans p)
 refine⟨par,dep,dr,λv a b c=>?_,λx hx=>?_,?_⟩
 .obtain⟨p,q⟩:=X2 v a b c;obtain⟨_,w,_⟩:=g.adj p;exact⟨w,p,q⟩
 .obtain⟨i,e⟩:=cL hx;obtain⟨v,⟨a,b,c⟩,_,h⟩:=back i x e;rcases h with⟨p,q⟩|⟨p,q⟩
  .exact .inl ⟨by rw[p];exact c,by rw[p];exact q.symm⟩
  .exact .inr ⟨by rw[p];exact c,by rw[p];exact q.symm⟩
 .refine eK.mpr λi j hi' hj' lt=>?_;rw[ah]at hi' hj';rw[iH,iH];intro z;obtain⟨v,_,e1,k1⟩:=kid i rs[i] (ap hi');obtain⟨u,_,e2,k2⟩:=kid j rs[j] (ap hj');rw[k1,k2]at z;rw[z]at e1
  lia
theorem Jw{m:Int}{rs:List Road}(g:Good m rs){p:Int}(h0:0<=p)(h1:p<m):(f6 rs p).Nodup:=by
 obtain⟨par,dep,R⟩:=BZ g h0 h1;have one:=R.one;have ok:=g.ok;have road:=R.road;clear R g
 induction rs with
 | nil=>simp[f6]
 | cons x l ih=>
   have ox:=ok x aK;have ol:∀y∈l,Yc m y:=λy hy=>ok y (aI _ hy);rw[aH]at one;obtain⟨n1,n2⟩:=bn.mp one;have il:=ih n2 ol λy hy=>road y (aI _ hy);have e:f6 (x::l) p=ua p x++f6 l p:=by unfold f6;rw[di]
   rw[e];have kid:∀y,Yc m y->((y.a≠p/\par y.a=y.b)\/(y.b≠p/\par y.b=y.a))->(y.a=p->(if y.a≠p/\par y.a=y.b then y.a else y.b)=y.b)/\(y.b=p->(if y.a≠p/\par y.a=y.b then y.a else y.b)=y.a):=λy oy hy=>by
    constructor
    .intro z;rw[ag (λw=>w.1 z)]
    .intro z;rcases hy with hy|hy
     .rw[aj hy]
     .exact absurd z hy.1
   have kx:=kid x ox (road x aK);have inl:∀e∈f6 l p,e∈l.map λy=>if y.a≠p/\par y.a=y.b then y.a else y.b:=λe he=>by
    obtain⟨y,hy,h⟩:=sZ.mp he;have ky:=kid y (ol y hy) (road y (aI _ hy));refine bu.mpr ⟨y,hy,?_⟩;rcases h with⟨p1,q1⟩|⟨p1,q1⟩
    .rw[ky.1 p1];exact q1
    .rw[ky.2 p1];exact q1
   unfold ua;by_cases c:x.a=p
   .have d:¬x.b=p:=λz=>ox.ne (c.trans z.symm);rw[aj c,ag d,bX];refine bn.mpr ⟨λz=>n1 ?_,il⟩;rw[kx.1 c];exact inl _ z
   .rw[ag c,jg];by_cases d:x.b=p
    .rw[aj d];refine bn.mpr ⟨λz=>n1 ?_,il⟩;rw[kx.2 d];exact inl _ z
    .rw[ag d];exact il
def lO(m:Int)(rs:List Road)(p:Int):List Int:=(cR m.toNat).filter λq=>decide (q∈f6 rs p)
theorem Dv:∀{l l':List Int},l.Perm l'->l.Pairwise (·<=·)->l'.Pairwise (·<=·)->l=l'
 | [],l',p,_,_=>(List.Perm.nil_eq p)
 | a::l,l',p,h,h'=>by
   cases l' with
   | nil=>exact absurd p.symm.nil_eq (by simp)
   | cons b r=>
     obtain⟨h1,h2⟩:=List.pairwise_cons.mp h;obtain⟨h1',h2'⟩:=List.pairwise_cons.mp h';have e:a=b:=by
      have ma:a∈b::r:=p.subset aK;have mb:b∈a::l:=p.symm.subset aK;rcases ar.mp ma with z|z
      .exact z
      .rcases ar.mp mb with w|w
       .exact w.symm
       .have:=h1 b w;have:=h1' a z
        lia
     subst e;rw[Dv (List.Perm.cons_inv p) h2 h2']
theorem FX(n:Nat):(cR n).Pairwise (·<=·):=by
 unfold cR;refine List.Pairwise.map _ (λa b (h:a<b)=>?_) List.pairwise_lt_range
 lia
theorem G3(m:Int)(rs:List Road)(p:Int):(lO m rs p).Pairwise (·<=·):=(FX _).filter _
theorem BC(m:Int)(rs:List Road)(p:Int):(lO m rs p).Nodup:=(kh _).filter _
theorem FF{m:Int}{rs:List Road}(g:Good m rs){p q:Int}:q∈lO m rs p↔ZK rs p q:=by
 unfold lO;rw[b5,bK,zt,gq]
 constructor
 .exact λh=>h.2
 .intro h;obtain⟨_,⟨a,b⟩,_⟩:=g.adj h;exact⟨⟨a,by lia⟩,h⟩
theorem iC:∀{l l':List Int},l.Nodup->l'.Nodup->(∀x,x∈l↔x∈l')->l.Perm l'
 | [],l',_,_,h=>by
   cases l' with
   | nil=>exact .nil
   | cons b r=>exact absurd ((h b).mpr aK) (by simp)
 | a::l,l',n,n',h=>by
   obtain⟨n1,n2⟩:=bn.mp n;have ma:a∈l':=(h a).mp aK;refine List.Perm.trans (List.Perm.cons a ?_) (List.perm_cons_erase ma).symm;refine iC n2 (n'.erase a) λx=>?_
   constructor
   .intro hx;have ne:x≠a:=λz=>n1 (z▸hx);exact(mn ne).mpr ((h x).mp (aI _ hx))
   .intro hx;have:x≠a:=λz=>by
     subst z;exact(List.Nodup.not_mem_erase n') hx
    rcases ar.mp ((h x).mpr (List.mem_of_mem_erase hx))with z|z
    .exact absurd z this
    .exact z
theorem Ru{m:Int}{rs:List Road}(g:Good m rs){p:Int}(h0:0<=p)(h1:p<m){zs:List Int}(hp:zs.Perm (f6 rs p))(hs:zs.Pairwise (·<=·)):zs=lO m rs p:=by
 refine Dv (hp.trans (iC (Jw g h0 h1) (BC m rs p) λx=>?_)) hs (G3 m rs p);rw[FF g,zt]
def jk(a b:Int)(x:Road):Option Int:=if x.a=a/\x.b=b then some x.t else if x.a=b/\x.b=a then some x.u else none
def cX(rs:List Road)(a b:Int):Option Int:=rs.findSome? (jk a b)
theorem zU{rs:List Road}{a b:Int}:(cX rs a b).isSome=true↔ZK rs a b:=by
 unfold cX;rw[List.findSome?_isSome_iff]
 constructor
 .rintro⟨x,hx,h⟩;unfold jk at h;by_cases c:x.a=a/\x.b=b
  .exact⟨x,hx,.inl c⟩
  .rw[ag c]at h;by_cases d:x.a=b/\x.b=a
   .exact⟨x,hx,.inr ⟨d.2,d.1⟩⟩
   .rw[ag d]at h;cases h
 .rintro⟨x,hx,h⟩;refine⟨x,hx,?_⟩;unfold jk;rcases h with h|h
  .rw[aj h];rfl
  .by_cases c:x.a=a/\x.b=b
   .rw[aj c];rfl
   .rw[ag c,aj ⟨h.2,h.1⟩];rfl
def sF(x:Road)(a b:Int):Prop:=(x.a=a/\x.b=b)\/(x.b=a/\x.a=b)
theorem De{m:Int}{rs:List Road}(g:Good m rs){a b:Int}{i j:Nat}{x y:Road}(hi:rs[i]?=some x)(hj:rs[j]?=some y)(jx:sF x a b)(jy:sF y a b):i=j:=by
 obtain⟨⟨a0,a1⟩,_,_⟩:=g.adj (show ZK rs a b from⟨x,aM hi,jx⟩);obtain⟨par,dep,R⟩:=BZ g a0 a1;have kid:∀z∈rs,sF z a b->(if z.a≠a/\par z.a=z.b then z.a else z.b)=b:=λz hz jz=>by
  rcases jz with⟨p,q⟩|⟨p,q⟩
  .rw[ag (λw=>w.1 p)];exact q
  .rcases R.road z hz with w|w
   .rw[aj w];exact q
   .exact absurd p w.1
 have li:=(aq.mp hi);have lj:=(aq.mp hj);obtain⟨li,ei⟩:=li;obtain⟨lj,ej⟩:=lj;have nd:=eK.mp R.one;have vi:(rs.map λz=>if z.a≠a/\par z.a=z.b then z.a else z.b)[i]'(by rw[ah];exact li)=b:=by
  rw[iH];exact kid _ (ee li) (ei▸jx)
 have vj:(rs.map λz=>if z.a≠a/\par z.a=z.b then z.a else z.b)[j]'(by rw[ah];exact lj)=b:=by
  rw[iH];exact kid _ (ee lj) (ej▸jy)
 rcases Nat.lt_trichotomy i j with z|z|z
 .exact absurd (vi.trans vj.symm) (nd i j _ _ z)
 .exact z
 .exact absurd (vj.trans vi.symm) (nd j i _ _ z)
theorem JV{a b:Int}{x:Road}(h:¬sF x a b):jk a b x=none:=by
 unfold jk;rw[ag (λz=>h (.inl z)),ag (λz=>h (.inr ⟨z.2,z.1⟩))]
theorem xk{m:Int}{rs:List Road}(g:Good m rs){a b:Int}{i:Nat}{x:Road}(hi:rs[i]?=some x)(j:sF x a b):cX rs a b=jk a b x:=by
 have lt:=(aq.mp hi);obtain⟨lt,ex⟩:=lt;have e:rs=rs.take i++x::rs.drop (i+1):=by rw[<-ex,lF,b8]
 have pre:cX (rs.take i) a b=none:=by
  unfold cX;rw[List.findSome?_eq_none_iff];intro y hy;refine JV λjy=>?_;obtain⟨k,hk⟩:=cL hy;have lk:=(aq.mp hk).1;rw[bd]at lk;rw[hZ (by lia)]at hk;have:=De g hk hi jy j
  lia
 have hx:(jk a b x).isSome=true:=by
  unfold jk;rcases j with z|z
  .rw[aj z];rfl
  .by_cases c:x.a=a/\x.b=b
   .rw[aj c];rfl
   .rw[ag c,aj ⟨z.2,z.1⟩];rfl
 obtain⟨v,hv⟩:=dU.mp hx;have:cX (rs.take i++x::rs.drop (i+1)) a b=jk a b x:=by
  unfold cX at pre ⊢;rw[jp,pre,j3,hv]
  rfl
 rw[<-e]at this;exact this
theorem MZ{rs:List Road}{a b:Int}(h:¬ZK rs a b):cX rs a b=none:=by
 cases q:cX rs a b with
 | none=>rfl
 | some v=>exact absurd (zU.mp (by rw[q];rfl)) h
theorem Nr{x:Road}(h:x.a≠x.b):jk x.a x.b x=some x.t:=by unfold jk;rw[aj ⟨rfl,rfl⟩]
theorem NA{x:Road}(h:x.a≠x.b):jk x.b x.a x=some x.u:=by unfold jk;rw[ag (λz=>h z.1),aj ⟨rfl,rfl⟩]
theorem LV{m:Int}{rs:List Road}(p:Int):lO m rs p=(cR m.toNat).filter λq=>(cX rs p q).isSome:=by
 unfold lO
 congr 1
 funext q
 rw[gD,bK,zU,zt]
end Pb
namespace L2
open PySem PySem.Spec PyProof.Rows
def bU(CX:nE):Prop:=∀outer H s e s',¬CX outer H s E0 e s'
theorem yf{CX:nE}(q:bU CX){X:Cx}:q9 CX X E0:=λ_ _ _ _ _ _ _ h=>(q _ _ _ _ _ h).elim
structure Df(K:PySem.W.Frag)(mg:Str->Option Value)(x:Str)(st:Stmt)(ps:List Str)(f:Addr)(fd:FuncData):Prop where
 F:Y8 K x x st f fd
 m:mg x=some (.ref f)
 b:Binds K fd ps []
section
variable{P:Program}{w:World}{K:PySem.W.Frag}{mg:Str->Option Value}{base:Heap}{CX:nE}
theorem Y8.ϔ{x qual:Str}{st:Stmt}{f:Addr}{fd:FuncData}{N ps:List Str}{k:Nat}{sp:Sp}(F:Y8 K x qual st f fd)(S:ζ N ps (aJ st))(len:∀vs H Q E,sp vs H Q E->vs.length=ps.length)(YB:∀(ς:Value) (A:Around) (outer:List Env) (s:Shared) (H:Hp) (vs:List V) (Q:VK) (E:XK),Ι k (A.deeper (envOfC qual (aJ st) s.heap.objs.size f ς))->sp vs H Q E->∃t,Y0 (rG CX P w K mg base N qual (aJ st) f ς A outer s H E).nox (gM st) t/\t { nx:=λ_ H'=>Q .ο H',rt:=Q } (start N vs) H):Ω P w K mg base CX (k+1) f fd ps sp:=by
 obtain⟨oc,od,kV,doc,pm,an,ς,ct,osl,rfl,lk,ZF⟩:=F.ex;refine QF lk ZF S len λA outer s H vs Q E hr hsp=>?_;obtain⟨t,h,q⟩:=YB ς A outer s H vs Q E hr hsp;exact⟨t,h.nox,q⟩
end
structure Zt(sc:Scope)(x:Str):Prop where
 l:sc.names.lookup x=some .local
 d:(x==("__debug__":Str))=false
 c:(x==("__classdict__":Str))=false
structure ZU(sc:Scope)(x:Str):Prop where
 l:sc.names.lookup x=some .cell
 d:(x==("__debug__":Str))=false
 c:(x==("__classdict__":Str))=false
structure ϗ(sc:Scope)(x:Str):Prop where
 g:sc.names.lookup x=some .globalImplicit
 d:(x==("__debug__":Str))=false
 n:x≠"__name__"
theorem us1{us:List Value}(h:us.length=1):∃a0,us=[a0]:=List.length_eq_one_iff.mp h
theorem us2{us:List Value}(h:us.length=2):∃a0 a1,us=[a0,a1]:=by
 cases us with
 | nil=>cases h
 | cons a0 t=>
   obtain⟨a1,e⟩:=us1 (iQ h);subst e;exact⟨a0,a1,rfl⟩
theorem us3{us:List Value}(h:us.length=3):∃a0 a1 a2,us=[a0,a1,a2]:=by
 cases us with
 | nil=>cases h
 | cons a0 t=>
   obtain⟨a1,a2,e⟩:=us2 (iQ h);subst e;exact⟨a0,a1,a2,rfl⟩
theorem us4{us:List Value}(h:us.length=4):∃a0 a1 a2 a3,us=[a0,a1,a2,a3]:=by
 cases us with
 | nil=>cases h
 | cons a0 t=>
   obtain⟨a1,a2,a3,e⟩:=us3 (iQ h);subst e;exact⟨a0,a1,a2,a3,rfl⟩
theorem us5{us:List Value}(h:us.length=5):∃a0 a1 a2 a3 a4,us=[a0,a1,a2,a3,a4]:=by
 cases us with
 | nil=>cases h
 | cons a0 t=>
   obtain⟨a1,a2,a3,a4,e⟩:=us4 (iQ h);subst e;exact⟨a0,a1,a2,a3,a4,rfl⟩
theorem us6{us:List Value}(h:us.length=6):∃a0 a1 a2 a3 a4 a5,us=[a0,a1,a2,a3,a4,a5]:=by
 cases us with
 | nil=>cases h
 | cons a0 t=>
   obtain⟨a1,a2,a3,a4,a5,e⟩:=us5 (iQ h);subst e;exact⟨a0,a1,a2,a3,a4,a5,rfl⟩
def nmL(sc:Scope)(x:Str):Bool:=decide (sc.names.lookup x=some .local)&&!(x==("__debug__":Str))&&!(x==("__classdict__":Str))
def nmC(sc:Scope)(x:Str):Bool:=decide (sc.names.lookup x=some .cell)&&!(x==("__debug__":Str))&&!(x==("__classdict__":Str))
def nmG(sc:Scope)(x:Str):Bool:=decide (sc.names.lookup x=some .globalImplicit)&&!(x==("__debug__":Str))&&!decide (x="__name__")
theorem Zt.of{sc:Scope}{x:Str}(h:nmL sc x=true):Zt sc x:=by
 unfold nmL at h;simp only[cj,bK,iJ]at h;exact⟨h.1.1,h.1.2,h.2⟩
theorem ZU.of{sc:Scope}{x:Str}(h:nmC sc x=true):ZU sc x:=by
 unfold nmC at h;simp only[cj,bK,iJ]at h;exact⟨h.1.1,h.1.2,h.2⟩
theorem ϗ.of{sc:Scope}{x:Str}(h:nmG sc x=true):ϗ sc x:=by
 unfold nmG at h;simp only[cj,bK,iJ,decide_eq_false_iff_not]at h;exact⟨h.1.1,h.1.2,h.2⟩
def UG(N ps:List Str)(sc:Scope):Bool:=decide (sc.kind=.function)&&!sc.isCoroutine&&!sc.isGenerator&&decide N.Nodup&&decide (N.take ps.length=ps)&&(ps.all λx=>decide (sc.names.lookup x=some .local\/sc.names.lookup x=some .cell))&&(sc.names.all λy=>decide (y.2≠.free))
theorem ζ.of{N ps:List Str}{sc:Scope}(h:UG N ps sc=true:=by kernel_rfl):ζ N ps sc:=by
 unfold UG at h;simp only[cj,bK,iJ,fX]at h;obtain⟨⟨⟨⟨⟨⟨h1,h2⟩,h3⟩,h4⟩,h5⟩,h6⟩,h7⟩:=h;exact⟨h1,h2,h3,h4,h5,h6,h7⟩
theorem pvl{X:Cx}(i:Nat){x:Str}{pos:Pos}(n:Zt X.env.scope x)(hN:X.N[i]?=some x:=by rfl):PE X (.Name x pos) (wX i):=F2 hN (.inl n.l) n.d n.c
theorem pvc{X:Cx}(i:Nat){x:Str}{pos:Pos}(n:ZU X.env.scope x)(hN:X.N[i]?=some x:=by rfl):PE X (.Name x pos) (wX i):=F2 hN (.inr (.inl n.l)) n.d n.c
theorem LY{CX:nE}{P:Program}{w:World}{K:PySem.W.Frag}{mg:Str->Option Value}{base:Heap}{N:List Str}{qual:Str}{scope:Scope}{f:Addr}{cd:Value}{A:Around}{outer:List Env}{s:Shared}{H:Hp}{E:XK}:(rG CX P w K mg base N qual scope f cd A outer s H E).K=K:=rfl
theorem Dx(D:Ends)(σ:St)(H:Hp):Z9 D σ H=False:=rfl
theorem RB(i j:Int):pP (.int i) (.int j)=true:=rfl
theorem QQ(i j:Bool):pP (.bl i) (.bl j)=true:=rfl
theorem Q5(i:Int):pP (.int i) .ο=true:=rfl
theorem QH(i:Int):pP .ο (.int i)=true:=rfl
theorem RI:pP .ο .ο=true:=rfl
theorem QY(i j:Str):pP (.str i) (.str j)=true:=rfl
theorem XI{K:PySem.W.Frag}{H:Hp}{p:Addr}{xs:List V}{i:Int}{v:V}{Q:VK}(h:H p=some (.tup xs))(e:Ϣ xs i=some v)(q:Q v H):PL K (.ref p) (.int i) H Q:=⟨p,xs,i,v,rfl,rfl,Η.of h,e,q⟩
theorem Ε{K:PySem.W.Frag}{H:Hp}{p:Addr}{xs:List V}{i:Int}{v:V}{Q:VK}(h:H p=some (.lst xs))(e:Ϣ xs i=some v)(q:Q v H):FZ K (.ref p) (.int i) H Q:=⟨p,xs,i,v,rfl,rfl,μ.of h,e,q⟩
theorem ixS{K:PySem.W.Frag}{H:Hp}{p:Addr}{xs:List V}{i:Int}{v:V}{Q:VK}(h:μ K H p xs)(e:Ϣ xs i=some v)(q:Q v H):FZ K (.ref p) (.int i) H Q:=⟨p,xs,i,v,rfl,rfl,h,e,q⟩
theorem oK{K:PySem.W.Frag}{H:Hp}{l:Addr}{xs:List V}(h:H l=some (.lst xs)):tyV K "list" (.ref l) H:=.inl ⟨rfl,_,μ.of h⟩
theorem rP{H:Hp}{l:Addr}{xs:List V}{y:V}{Q:VK}(h:H l=some (.lst xs))(hz:xs.length<sizeLine)(q:Q .ο (upd H l (.lst (xs++[y])))):X7 (.ref l) [y] H Q:=⟨l,xs,y,rfl,rfl,h,hz,q⟩
theorem NT{H:Hp}{l:Addr}{xs:List V}{i:Int}{y:V}{Q:VK}(h:H l=some (.lst xs))(h0:0<=i)(h1:i<=xs.length)(hz:xs.length<sizeLine)(q:Q .ο (upd H l (.lst (xs.take i.toNat++y::xs.drop i.toNat)))):X8 (.ref l) [.int i,y] H Q:=⟨l,xs,i,y,rfl,rfl,h,h0,h1,hz,q⟩
theorem Nv{H:Hp}{l:Addr}{xs:List V}{y:V}{Q:VK}(h:H l=some (.lst (xs++[y])))(q:Q y (upd H l (.lst xs))):aeq (.ref l) [] H Q:=⟨l,xs++[y],y,rfl,rfl,h,by simp,by rw[List.dropLast_concat];exact q⟩
theorem ff{n:Nat}(h:n<=100000):n<sizeLine:=fu h (by decide)
theorem bN{n:Nat}(h:n<=100000):n<=sizeLine:=iP (ff h)
theorem cq{α:Type}{xs:List α}{i:Int}{v:α}(h0:0<=i)(h:xs[i.toNat]?=some v):Ϣ xs i=some v:=by
 obtain⟨n,rfl⟩:∃n:Nat,i=n:=⟨i.toNat,by lia⟩;exact IY (by simpa using h)
theorem wq{X:Cx}{x:Str}{i:Int}{pos:Pos}(hg:Gl X x)(hm:∃t,X.mg x=some (.int i t))(hd:(x==("__debug__":Str))=false:=by decide):PE X (.Name x pos) (tC (.int i)):=by
 obtain⟨t,e⟩:=hm;exact IZ hg e ⟨t,rfl⟩ hd
def Itx(K:PySem.W.Frag):Bool->Addr->It
 | true,a=>Itl K a
 | false,a=>Itt K a
def P3(K:PySem.W.Frag)(c:Bool)(tl:TE):TI:=λσ H R=>tl σ H λx H1=>∃a,x=.ref a/\(∃xs,ϧ K c H1 a xs)/\R (Itx K c a) H1
theorem MY{X:Cx}{tg l:Expr}{tl:TE}(c:Bool)(hl:PE X l tl):PI X tg l (P3 X.K c tl):=by
 cases c
 .exact xC hl
 .exact hG hl
def vc(J:It)(p:Addr)(Q:VK)(g:TG)(tc:TT)(te:TE)(σ0:St)(H0:Hp):Prop:=∃W:Nat->Nat->List V->St->Hp->Prop,(∃m,W 0 m [] σ0 H0)/\∀i m ys σc Hc,W i m ys σc Hc->(J.stop i Hc/\Q (.ref p) Hc)\/(J.go i Hc/\∀x H',J.yld i Hc x H'->g x σc H' λσ2 H2=>tc σ2 H2 λb H3=>
 if b=true then te σ2 H3 λy H4=>H4 p=some (.lst ys)/\ys.length<sizeLine/\∃m',m'<m/\W (i+1) m' (ys++[y]) σ2 (upd H4 p (.lst (ys++[y])))
 else ∃m',m'<m/\W (i+1) m' ys σ2 H3)
theorem DG{own:Nat}{js:List Nat}{wi:TI}{g:TG}{tc:TT}{te:TE}{σ:St}{H:Hp}{Q:VK}:Ks own js wi g tc te σ H Q=wi σ H λJ H1=>∀p,H1 p=none->vc J p Q g tc te (mB own js σ) (upd H1 p (.lst [])):=rfl
def si(J:It)(D:Ends)(g:TG)(tb:TS)(σ:St)(H:Hp):Prop:=∃W:Nat->Nat->St->Hp->Prop,(∃m,W 0 m σ H)/\∀i m σ H,W i m σ H->(J.stop i H/\D.nx σ H)\/(J.go i H/\∃N:St->Hp->Prop,(∀σ' H',N σ' H'->∃m',m'<m/\W (i+1) m' σ' H')/\∀x H',J.yld i H x H'->g x σ H' λσ2 H2=>tb { D with nx:=N,ct:=N,bk:=D.nx } σ2 H2)
theorem Ie{wi:TI}{g:TG}{tb:TS}{D:Ends}{σ:St}{H:Hp}:Sd wi g tb D σ H=wi σ H λJ H1=>si J D g tb σ H1:=rfl
theorem oZ{K:PySem.W.Frag}{c:Bool}{a p:Addr}{xs:List V}{Q:VK}{g:TG}{tc:TT}{te:TE}{σ0:St}{H0:Hp}(Pv:Nat->List V->St->Hp->Prop)(h0:Pv 0 [] σ0 H0)(hl:∀i ys σ H,i<=xs.length->Pv i ys σ H->ϧ K c H a xs)(hs:∀(i:Nat) (x:V) (ys:List V) (σ:St) (H:Hp) (N:List V->St->Hp->Prop),(∀aC σ' H',Pv (i+1) aC σ' H'->N aC σ' H')->xs[i]?=some x->Pv i ys σ H->g x σ H λσ2 H2=>tc σ2 H2 λb H3=>
 if b=true then te σ2 H3 λy H4=>H4 p=some (.lst ys)/\ys.length<sizeLine/\N (ys++[y]) σ2 (upd H4 p (.lst (ys++[y])))else N ys σ2 H3)(hd:∀ys σ H,Pv xs.length ys σ H->Q (.ref p) H):vc (Itx K c a) p Q g tc te σ0 H0:=by
 refine⟨λi m ys σ H=>m=xs.length-i/\i<=xs.length/\Pv i ys σ H,⟨xs.length,by simp,bz _,h0⟩,?_⟩;rintro i m ys σ H ⟨rfl,hi,pv⟩;have q:=hl i ys σ H hi pv;by_cases Χ:i<xs.length
 .refine .inr ⟨?_,λx H' y=>?_⟩
  .cases c
   .exact⟨xs,xs[i],q,by simp[Χ]⟩
   .exact⟨xs,xs[i],q,by simp[Χ]⟩
  .have e:H'=H/\xs[i]?=some x:=by
    cases c
    .exact⟨y.1,y.2 xs q⟩
    .exact⟨y.1,y.2 xs q⟩
   obtain⟨rfl,hx⟩:=e;exact hs i x ys σ _ (λaC σ' H'=>∃m',m'<xs.length-i/\(m'=xs.length-(i+1)/\i+1<=xs.length/\Pv (i+1) aC σ' H')) (λaC σ' H' pv'=>⟨xs.length-(i+1),by lia,rfl,Χ,pv'⟩) hx pv
 .have e:i=xs.length:=by lia
  subst e;refine .inl ⟨?_,hd ys σ H pv⟩;cases c
  .exact⟨xs,q,aA _⟩
  .exact⟨xs,q,aA _⟩
theorem pZ{lo:Int}{n:Nat}{p:Addr}{Q:VK}{g:TG}{tc:TT}{te:TE}{σ0:St}{H0:Hp}(Pv:Nat->List V->St->Hp->Prop)(h0:Pv 0 [] σ0 H0)(hs:∀(i:Nat) (ys:List V) (σ:St) (H:Hp) (N:List V->St->Hp->Prop),(∀aC σ' H',Pv (i+1) aC σ' H'->N aC σ' H')->i<n->Pv i ys σ H->g (.int (lo+i)) σ H λσ2 H2=>tc σ2 H2 λb H3=>
 if b=true then te σ2 H3 λy H4=>H4 p=some (.lst ys)/\ys.length<sizeLine/\N (ys++[y]) σ2 (upd H4 p (.lst (ys++[y])))else N ys σ2 H3)(hd:∀ys σ H,Pv n ys σ H->Q (.ref p) H):vc (Itr lo n) p Q g tc te σ0 H0:=by
 refine⟨λi m ys σ H=>m=n-i/\i<=n/\Pv i ys σ H,⟨n,by simp,bz _,h0⟩,?_⟩;rintro i m ys σ H ⟨rfl,hi,pv⟩;by_cases Χ:i<n
 .refine .inr ⟨Χ,λx H' y=>?_⟩;obtain⟨rfl,rfl⟩:=y;exact hs i ys σ _ (λaC σ' H'=>∃m',m'<n-i/\(m'=n-(i+1)/\i+1<=n/\Pv (i+1) aC σ' H')) (λaC σ' H' pv'=>⟨n-(i+1),by lia,rfl,Χ,pv'⟩) Χ pv
 .have e:i=n:=by lia
  subst e;exact .inl ⟨aA _,hd ys σ H pv⟩
theorem Uw:bootBuiltins "min"=some (.builtin "min"):=by decide +kernel
theorem N7:bootBuiltins "tuple"=some (.type "tuple"):=by decide +kernel
section
variable{X:Cx}{a b o e:Expr}{es:List Expr}{ta tb to:TE}{t:TA}{pos apos Υ:Pos}{f name:Str}{T id:String}{r:V->List V->Hp->VK->Prop}
theorem CD(K:PySem.W.Frag)(h:X.K=K):kR X (.type "tuple") (λxs H Q=>∃p ys,xs=[.ref p]/\((μ K H p ys/\∀l,H l=none->Q (.ref l) (upd H l (.tup ys)))\/(Η K H p ys/\Q (.ref p) H))):=by subst h;exact oP
theorem mE(K:PySem.W.Frag)(h:X.K=K):IxR X (FZ K):=by subst h;exact bB
theorem Jn(K:PySem.W.Frag)(h:X.K=K):IxR X (PL K):=by subst h;exact g9
end
theorem B4{x:Str}{k:NameKind}:∀{l:List (Str×NameKind)},l.lookup x=some k->∃y,(y,k)∈l
 | [],h=>by simp at h
 | (n,j)::r,h=>by
   rw[cH]at h;cases q:x==n with
   | true=>
     rw[q]at h;cases h;exact⟨n,aK⟩
   | false=>
     rw[q]at h;obtain⟨y,hy⟩:=B4 h;exact⟨y,aI _ hy⟩
theorem zX{X:Cx}{Nc:List Str}{scope:Scope}(own:Nat)(hf:∀y∈scope.names,y.2≠.free)(hc:∀y∈scope.names,y.2≠.cell)(hk:scope.kind=.function)(hn:∀y∈scope.names,y.2=.local->scope.names.lookup y.1=some .local)(hl:Nc.length=own):ϝ X Nc own [] scope [] where
 acK:=closureFor_none hf
 kind:=hk
 Y9:=hc
 names:=hn
 cells:=λx c h=>by cases h
 has:=λx h=>by
  have key:∀k,(relabel scope X.env).names.lookup x=some k->k≠.cell/\k≠.free:=λk e=>by
   obtain⟨y,hy⟩:=B4 e;obtain⟨⟨n,k0⟩,hm,e2⟩:=bu.mp hy;have h1:=hf _ hm;have h2:=hc _ hm;have e3:(k0==NameKind.free)=false:=(by simpa using h1);simp only[e3,iV,bR,if_false]at e2;cases e2;exact⟨h2,h1⟩
  rcases h with h|h
  .exact absurd rfl (key _ h).1
  .exact absurd rfl (key _ h).2
 len:=by simpa using hl
 outer:=λi x h=>by
  rw[bI (by lia)]at h;cases h
theorem uh{K:PySem.W.Frag}{a:Addr}{xs:List V}{g:TG}{tb:TS}{D:Ends}{σ:St}{H:Hp}(Pv:Nat->St->Hp->Prop)(h0:Pv 0 σ H)(hl:∀i σ H,i<=xs.length->Pv i σ H->μ K H a xs)(hs:∀(i:Nat) (x:V) (σ:St) (H:Hp) (N:St->Hp->Prop),(∀σ' H',Pv (i+1) σ' H'->N σ' H')->xs[i]?=some x->Pv i σ H->g x σ H λσ2 H2=>tb { D with nx:=N,ct:=N,bk:=D.nx } σ2 H2)(hd:∀σ H,Pv xs.length σ H->D.nx σ H):si (Itl K a) D g tb σ H:=Qb Pv h0 hl (λi x σ H hx p=>hs i x σ H (Pv (i+1)) (λ_ _ z=>z) hx p) hd
theorem GC{K:PySem.W.Frag}{a:Addr}{xs:List V}{g:TG}{tb:TS}{D:Ends}{σ:St}{H:Hp}(Pv:Nat->St->Hp->Prop)(h0:Pv 0 σ H)(hl:∀i σ H,i<=xs.length->Pv i σ H->Η K H a xs)(hs:∀(i:Nat) (x:V) (σ:St) (H:Hp) (N:St->Hp->Prop),(∀σ' H',Pv (i+1) σ' H'->N σ' H')->xs[i]?=some x->Pv i σ H->g x σ H λσ2 H2=>tb { D with nx:=N,ct:=N,bk:=D.nx } σ2 H2)(hd:∀σ H,Pv xs.length σ H->D.nx σ H):si (Itt K a) D g tb σ H:=Cn Pv h0 hl (λi x σ H hx p=>hs i x σ H (Pv (i+1)) (λ_ _ z=>z) hx p) hd
theorem sA{lo:Int}{n:Nat}{g:TG}{tb:TS}{D:Ends}{σ:St}{H:Hp}(Pv:Nat->St->Hp->Prop)(h0:Pv 0 σ H)(hs:∀(i:Nat) (σ:St) (H:Hp) (N:St->Hp->Prop),(∀σ' H',Pv (i+1) σ' H'->N σ' H')->i<n->Pv i σ H->g (.int (lo+i)) σ H λσ2 H2=>tb { D with nx:=N,ct:=N,bk:=D.nx } σ2 H2)(hd:∀σ H,Pv n σ H->D.nx σ H):si (Itr lo n) D g tb σ H:=L9 Pv h0 (λi σ H hi p=>hs i σ H (Pv (i+1)) (λ_ _ z=>z) hi p) hd
theorem vg{c:TT}{tb:TS}{D:Ends}{σ:St}{H:Hp}(W:Nat->St->Hp->Prop)(n0:Nat)(h0:W n0 σ H)(hs:∀(n:Nat) (σ:St) (H:Hp) (N:St->Hp->Prop),(∀n' σ' H',n'<n->W n' σ' H'->N σ' H')->(∀σ' H',N σ' H'->∃m',m'<n/\W m' σ' H')->W n σ H->c σ H λb H1=>if b=true then ∃N:St->Hp->Prop,(∀σ' H',N σ' H'->∃m',m'<n/\W m' σ' H')/\tb { D with nx:=N,ct:=N,bk:=D.nx } σ H1 else D.nx σ H1):Fw c tb D σ H:=⟨W,⟨n0,h0⟩,λn σ H w=>hs n σ H (λσ' H'=>∃m',m'<n/\W m' σ' H') (λn' _ _ hn w'=>⟨n',hn,w'⟩) (λ_ _ z=>z) w⟩
theorem xX{a:Int}{n:Nat}(h:a.natAbs<2^n):Builtin.Int.intBits a<=n:=by
 unfold Builtin.Int.intBits;by_cases z:a=0
 .subst z;simp
 .have hz:(a==0)=false:=by simpa using z
  rw[hz];simp only[bR,if_false];have:=(nJ (by lia)).mpr h
  lia
theorem MT{a b:Int}(ha:a.natAbs<2^4000)(hb:b.natAbs<2^4000):IntMulOk a b:=IntMulOk.of_bits (aU (xX ha) (by decide)) (aU (xX hb) (by decide))
open Pb
def pT(r:Road):List V:=[.int r.a,.int r.b,.int r.t,.int r.u]
abbrev π(H:Hp):List Addr->List Road->Prop:=Paired λp r=>H p=some (.tup (pT r))
theorem π.same{H H':Hp}(e:δ H H'){ps:List Addr}{rs:List Road}(h:π H ps rs):π H' ps rs:=Paired.imp' (λp r q=>e p _ q) h
theorem π.get{H:Hp}:∀{ps:List Addr}{rs:List Road}{i:Nat}{x:V},π H ps rs->(ps.map V.ref)[i]?=some x->∃p r,x=.ref p/\ps[i]?=some p/\rs[i]?=some r/\H p=some (.tup (pT r))
 | _,_,i,x,.nil,e=>by simp at e
 | _,_,0,x,.cons (a:=p) (b:=r) h hs,e=>⟨p,r,by simpa using e.symm,by simp,by simp,h⟩
 | a::l1,_,i+1,x,.cons h hs,e=>by
   have e':(List.map V.ref l1)[i]?=some x:=by simpa using e
   obtain⟨p,r,h1,h2,h3,h4⟩:=π.get hs e';exact⟨p,r,h1,by simpa using h2,by simpa using h3,h4⟩
theorem δ.tup{K:PySem.W.Frag}{H H':Hp}{a:Addr}{xs:List V}(e:δ H H')(h:Η K H a xs):Η K H' a xs:=by
 rcases h with(h|⟨o,h⟩)|h
 .exact .inl (.inl (e _ _ h))
 .exact .inl (.inr ⟨o,e _ _ h⟩)
 .exact .inr h
theorem δ.X1{K:PySem.W.Frag}{H H':Hp}{c:Bool}{a:Addr}{xs:List V}(e:δ H H')(h:ϧ K c H a xs):ϧ K c H' a xs:=by
 cases c
 .exact δ.tup e h
 .exact δ.seq e h
theorem δ.new{H:Hp}{p:Addr}(o:HO)(h:H p=none):δ H (upd H p o):=λb u e=>by rw[aO (bQ e h)];exact e
end L2
namespace L2
open PySem PySem.Spec PyProof.Rows
abbrev bmV:List Value:=[.type "ValueError",.type "Exception",.type "BaseException",.type "object"]
structure iS(K:PySem.W.Frag)(C:Addr):Prop where
 ty:PySem.W.typeIn K (.ref C)=some (.type "type")
 ga:PySem.W.findIn K (.ref C) "__getattribute__"=some (some (.builtin "BaseException.__getattribute__"))
 gt:PySem.W.findIn K (.ref C) "__getattr__"=some none
 cl:PySem.W.findIn K (.ref C) "__class__"=some (some (.builtin "object.__class__"))
 gs:PySem.W.specialIn K (.builtin "object.__class__") "__get__"=some (some (.builtin "getset_descriptor.__get__"))
 tk:PySem.W.takesIn K (.builtin "object.__class__")=some true
 mo:PySem.W.mroIn K C (.type "object")=some true
 mb:PySem.W.mroIn K C (.type "BaseException")=some true
 hd:PySem.W.hasDictIn K C=true
 sf:PySem.W.mroIn K C (.ref C)=some true
theorem LP{K:PySem.W.Frag}{C:Addr}{od:Option Obj}{name:Str}{a g:Value}(hc:(PySem.W.clsIn K C).isSome=true)(ha:PySem.W.findIn K (.ref C) name=some (some a))(hg:PySem.W.specialIn K a "__get__"=some (some g))(ht:PySem.W.takesIn K a=some true):PySem.W.findObj K C od name=some (.bind g a):=by
 obtain⟨cd,hc⟩:=dU.mp hc;unfold PySem.W.findObj;rw[hc,iK,ha,iK];simp[hg,ht]
section
variable{prog:Program}{w:World}{A:Around}{E:Value->Shared->Prop}{s:Shared}{K:PySem.W.Frag}{x C:Addr}{ox:Obj}{od:Option Obj}
theorem Lg{M:Model}{nv:Value}{Q:Unit->Shared->Prop}(X:K.In s.heap)(I:PySem.W.InstAt s.heap x ox C od)(c:iS K C)(h:Q () s):wpAny M A (checkBuiltinCall "BaseException.__getattribute__" ⟨[.ref x,nv],[]⟩) Q E s:=by
 obtain⟨hh,g,dr,t,os⟩:=s;have hk:builtinKind "BaseException.__getattribute__"=some .slot:=by decide +kernel
 have hs:splitId "BaseException.__getattribute__"=some ("BaseException","__getattribute__"):=by decide +kernel
 have L0:=I.type (M:=M);have L1:=jN (M:=M) X c.mb;have ha:=F.args_bexc_ga (.ref x) nv;simp only[checkBuiltinCall,hk,hs];unfold isInstance
 repeat (first|lk|wp_step)
 exact h
theorem ME{Q:Option Value->Shared->Prop}(X:K.In s.heap)(I:PySem.W.InstAt s.heap x ox C od)(c:iS K C)(h:Q (some (.ref C)) { s with toks:=s.toks+1 }):wpAny (model prog w) A (getAttr? (.ref x) "__class__") Q E s:=by
 obtain⟨hh,g,dr,t,os⟩:=s;have hc:(PySem.W.clsIn K C).isSome=true:=by
  obtain⟨cd,e,_⟩:=fM c.hd;rw[e]
  rfl
 have L0:=I.type (M:=model prog w);have L1:=jw (M:=model prog w) X c.ga;have L2:=jw (M:=model prog w) X c.gt;have L3:=PySem.W.looks_find (M:=model prog w) X I (LP (od:=od) hc c.cl c.gs c.tk);have n2:(Value.builtin "BaseException.__getattribute__" == Value.builtin "object.__getattribute__")=false:=by decide +kernel
 have n1:(onTheHeap (Value.ref C)&&Value.builtin "BaseException.__getattribute__" == Value.builtin "object.__getattribute__")=false:=by rw[n2];rfl
 have b1:=F.excAttr_ValueError.ga.bind (.ref x);unfold getAttr? getAttrBy? getAttrBy;refine ak (wpAny_mkText (ak (j9 (fh (ak (L0.at (ak (L1.at ?_))))))));dsimp only;rw[n1];simp only[bR,if_false];unfold getAttrByItsOwn hookBefore callGetattribute boundAndCalled;simp only[onTheHeap,Bool.and_false,bR,if_false,if_true];refine ak (L2.at (ak (j9 (fh (ak (wpAny_of_eq b1 ?_))))));refine jV (codeAny_call_builtin F.excAttr_ValueError.ga.plain F.entry_bexc_ga (Lg X I c ?_));unfold Builtin.«object.__getattribute__»
 repeat lk
 refine wpAny_run (h:=none) (PySem.W.class_get (s:=⟨hh,g,dr,t+1,os⟩) (ox:=ox) (od:=od) X I c.mo ?_);refine aR (aR ?_);exact PySem.W.handed_on rfl (aR h)
theorem Fo(c:iS K C):PySem.W.KitX K (.ref x) (.ref C) (λh=>PySem.W.InstAt h x ox C od) where
 ty:=λ_ _ _ I=>I.type
 it:=λ_ _ X _=>by
  obtain⟨cd,e,_⟩:=fM c.hd;unfold PySem.W.clsIn at e;split at e
  .rename_i ho
   intro A' Q' E' s' k q;unfold isType loadHead;exact ak (lK (k _ _ (X _ _ ho)) (aR q))
  .cases e
 ne:=λh tp dd its n sl X htp=>by
  obtain⟨cd,e,_⟩:=fM c.hd;refine Bool.eq_false_iff.mpr λq=>?_;have z:C=tp:=Value.ref.inj (jT.mp q);subst z;unfold PySem.W.clsIn at e;split at e
  .rename_i ho
   cases(X _ _ ho).symm.trans htp
  .cases e
 ca:=λX I k=>ME X I c k
end
def oY(h:Heap)(ea:Addr)(cls:Value)(od:Option Addr)(head:Value):Prop:=∃oe vs,h.get? ea=some oe/\oe.cls=cls/\oe.dict=od/\oe.data=.fields vs/\vs[1]?=some head/\vs[2]?=some .none
def TbO(h:Heap)(T:Addr)(fl:Value):Prop:=∃oT ts,h.get? T=some oT/\oT.data=.fields ts/\ts[3]?=some fl
structure Err(h:Heap)(ea T:Addr)(cls:Value)(od:Option Addr)(fl:Value):Prop where
 e:oY h ea cls od (.ref T)
 t:TbO h T fl
 ne:T≠ea
structure Kept(fs xs:List Addr)(h h':Heap):Prop where
 keep:∀b o,h.get? b=some o->b∉fs->b∉xs->h'.get? b=some o
 slot:∀b o,h.get? b=some o->b∈fs->b∉xs->∃sl,h'.get? b=some { o with slots:=sl }
 there:∀b o,h.get? b=some o->∃o',h'.get? b=some o'
theorem Kept.mono{fs xs ys:List Addr}{h h':Heap}(k:Kept fs xs h h')(s:∀b∈xs,b∈ys):Kept fs ys h h':=⟨λb o e f x=>k.keep b o e f λz=>x (s b z),λb o e f x=>k.slot b o e f λz=>x (s b z),k.there⟩
theorem Kept.trans{fs xs:List Addr}{h h1 h2:Heap}(a:Kept fs xs h h1)(b:Kept fs xs h1 h2):Kept fs xs h h2 where
 keep:=λc o e f x=>b.keep c o (a.keep c o e f x) f x
 slot:=λc o e f x=>by
  obtain⟨s1,e1⟩:=a.slot c o e f x;obtain⟨s2,e2⟩:=b.slot c _ e1 f x;exact⟨s2,e2⟩
 there:=λc o e=>by
  obtain⟨o1,e1⟩:=a.there c o e;exact b.there c o1 e1
theorem Kept.acR{fs xs:List Addr}{h h':Heap}(k:∀b o,h.get? b=some o->h'.get? b=some o):Kept fs xs h h':=⟨λb o e _ _=>k b o e,λb o e _ _=>⟨o.slots,k b o e⟩,λb o e=>⟨o,k b o e⟩⟩
theorem zm{fs xs:List Addr}{h:Heap}{a:Addr}{oa:Obj}{vs:Array Value}{i:Nat}{v:Value}(ha:h.get? a=some oa)(hd:oa.data=.fields vs)(hx:a∈xs):Kept fs xs h (h.update a (Obj.mapFields (·.setIfInBounds i v))):=by
 have oth:∀b o,h.get? b=some o->b∉xs->(h.update a (Obj.mapFields (·.setIfInBounds i v))).get? b=some o:=λb o e x=>by
  rw[bM _ _ (λ(z:a=b)=>x (z▸hx))];exact e
 refine⟨λb o e _ x=>oth b o e x,λb o e _ x=>⟨o.slots,oth b o e x⟩,λb o e=>?_⟩;by_cases z:b=a
 .subst z;exact⟨_,dC _ ha (gG (eB hd _))⟩
 .rw[bM _ _ (Ne.symm z)];exact⟨o,e⟩
theorem Nw{h:Heap}{ea:Addr}{cls hd v:Value}{od:Option Addr}(e:oY h ea cls od hd):oY (h.update ea (Obj.mapFields (·.setIfInBounds 1 v))) ea cls od v:=by
 obtain⟨oe,vs,h1,h2,h3,h4,h5,h6⟩:=e;have sz:1<vs.size:=(fT.mp h5).1;refine⟨_,_,dC _ h1 (gG (eB h4 _)),?_,?_,eB h4 _,by simp[sz],by rw[Array.getElem?_setIfInBounds_ne (by decide)];exact h6⟩
 .rw[<-h2];exact Obj.cls_mapFields _ _
 .rw[<-h3];obtain⟨c,d,dt,sl⟩:=oe;cases dt<;>rfl
theorem AN{h:Heap}{ea a:Addr}{cls hd:Value}{od:Option Addr}{f:Obj->Obj}(e:oY h ea cls od hd)(ne:a≠ea):oY (h.update a f) ea cls od hd:=by
 obtain⟨oe,vs,h1,h2⟩:=e;exact⟨oe,vs,by rw[bM _ _ ne];exact h1,h2⟩
theorem Du{h h':Heap}{ea:Addr}{cls hd:Value}{od:Option Addr}(e:oY h ea cls od hd)(k:∀o,h.get? ea=some o->h'.get? ea=some o):oY h' ea cls od hd:=by
 obtain⟨oe,vs,h1,h2⟩:=e;exact⟨oe,vs,k _ h1,h2⟩
theorem MW{h base:Heap}{ea:Addr}{cls hd:Value}{od:Option Addr}{l:List Env}(e:oY h ea cls od hd)(f:h.FunFrames base l):ea∉ϛ l:=λz=>by
 obtain⟨oe,vs,h1,_,_,h4,_⟩:=e;obtain⟨_,o,ho,hn⟩:=f.mem z;rw[h1]at ho;cases ho;exact hn vs h4
theorem O4{h base:Heap}{T:Addr}{fl:Value}{l:List Env}(e:TbO h T fl)(f:h.FunFrames base l):T∉ϛ l:=λz=>by
 obtain⟨oe,vs,h1,h4,_⟩:=e;obtain⟨_,o,ho,hn⟩:=f.mem z;rw[h1]at ho;cases ho;exact hn vs h4
section
variable{M:Model}{A:Around}{E:Value->Shared->Prop}{s:Shared}{Q:Unit->Shared->Prop}{fs:List Addr}{ea T L:Addr}{cls fl hd:Value}{od:Option Addr}{base:Heap}{env:Env}{outer:List Env}
theorem yn(r:Err s.heap ea T cls od fl)(h:∀h',Err h' ea T cls od .none->Kept fs [T] s.heap h'->Q () { s with heap:=h' }):wpAny M A (setFlight (.ref ea) none) Q E s:=by
 obtain⟨⟨oe,vs,h1,h2,h3,h4,h5,h6⟩,⟨oT,ts,t1,t2,t3⟩,ne⟩:=r;have sz:3<ts.size:=(fT.mp t3).1;unfold setFlight;refine ak (cC h1 h4 h5 ?_);rw[aj (by simp:(Value.ref T != Value.none)=true)];refine gZ t1 t2 sz (h _ ⟨AN ⟨oe,vs,h1,h2,h3,h4,h5,h6⟩ ne,⟨_,_,dC _ t1 (gG (eB t2 _)),eB t2 _,by simp[sz]⟩,ne⟩ (zm t1 t2 (by simp)))
theorem F3{head:Value}{abk:Bool}(hfr:A.frames=some (env::outer))(hl:s.heap.FunFrames base (env::outer))(hf:env.frame=some L)(r:oY s.heap ea cls od hd)(h:∀h' T',Err h' ea T' cls od (rawInt L)->Kept (ϛ (env::outer)) [ea] s.heap h'->s.heap.get? T'=none->Q () { s with heap:=h' }):wpAny M A (do let a <-frameOf env;let pl <-entryPlaceOf L abk;let b <-EntryCells.newEntry head a .none (rawInt L) .none pl;setField (.ref ea) 1 b) Q E s:=by
 have nf:=MW r hl;refine ak (wpAny_frameOf_fun hfr hl hf λg1 so=>ak (wpAny_entryPlaceOf λpl ϡ=>?_));unfold EntryCells.newEntry newFields;refine ak (fD ?_ (ϡ.sizeOk5 _ _ _ _ _));have r1:oY g1 ea cls od hd:=Du r λo e=>(so.2.1 ea nf).trans e;generalize ht:({ cls:=.type "traceback",dict:=none,data:=.fields ([head,.ref L,.none,rawInt L,.none]++(if pl.isEmpty then List.replicate 6 Value.none else pl)).toArray }:Obj)=tb;have r2:oY (g1.push tb) ea cls od hd:=Du r1 λo e=>aw _ e;obtain⟨oe,vs,e1,e2,e3,e4,e5,e6⟩:=id r2;have lt:ea<g1.objs.size:=by
  obtain⟨_,_,e,_⟩:=r1;exact aG e
 have hT:(g1.push tb).get? g1.objs.size=some tb:=ba g1 (by rw[<-ht];rfl);refine gZ e1 e4 (fT.mp e5).1 (h _ g1.objs.size ⟨Nw r2,⟨tb,([head,.ref L,.none,rawInt L,.none]++(if pl.isEmpty then List.replicate 6 Value.none else pl)).toArray,?_,by rw[<-ht],by simp⟩,eL lt⟩ ?_ ?_)
 .rw[bM _ _ (aV lt)];exact hT
 .have k1:Kept (ϛ (env::outer)) [ea] s.heap g1:=⟨λb o e f _=>(so.2.1 b f).trans e,λb o e _ _=>so.2.2 b o e,λb o e=>by
   obtain⟨sl,z⟩:=so.2.2 b o e;exact⟨_,z⟩⟩
  exact k1.trans ((Kept.acR λb o e=>aw _ e).trans (zm e1 e4 (by simp)))
 .exact Heap.get?_none_of_le (by rw[so.1];exact aA _)
theorem NP(hfr:A.frames=some (env::outer))(hl:s.heap.FunFrames base (env::outer))(hf:env.frame=some L)(r:oY s.heap ea cls od .none)(h:∀h' T',Err h' ea T' cls od (rawInt L)->Kept (ϛ (env::outer)) [ea] s.heap h'->s.heap.get? T'=none->Q () { s with heap:=h' }):wpAny M A (noteFrame (.ref ea) env) Q E s:=by
 obtain⟨oe,vs,e1,e2,e3,e4,e5,e6⟩:=id r;unfold noteFrame;simp only[hf];refine ak (cC e1 e4 e5 ?_);rw[ag (by decide)];exact F3 hfr hl hf r h
theorem Iz(hfr:A.frames=some (env::outer))(hl:s.heap.FunFrames base (env::outer))(hf:env.frame=some L)(r:Err s.heap ea T cls od .none)(h:∀h' T',Err h' ea T' cls od (rawInt L)->Kept (ϛ (env::outer)) [ea,T] s.heap h'->s.heap.get? T'=none->Q () { s with heap:=h' }):wpAny M A (noteFrame (.ref ea) env) Q E s:=by
 have nT:=O4 r.t hl;obtain⟨⟨oe,vs,e1,e2,e3,e4,e5,e6⟩,⟨oT,ts,t1,t2,t3⟩,ne⟩:=id r;unfold noteFrame;simp only[hf];refine ak (cC e1 e4 e5 ?_);rw[aj (by simp:(Value.ref T != Value.none)=true)];refine ak (cC t1 t2 t3 ?_);rw[ag (by simp[rawInt])];have k1:Kept (ϛ (env::outer)) [ea,T] s.heap (s.heap.update T (Obj.mapFields (·.setIfInBounds 3 Value.none))):=zm t1 t2 (by simp);refine ak (gZ t1 t2 (fT.mp t3).1 ?_);refine F3 hfr (hl.of_keeps λb o e nf=>⟨o,?_,rfl⟩) hf (AN r.e ne) λh' T' r' k2 n=>h h' T' r' (k1.trans (k2.mono (by simp))) ?_
 .by_cases z:b=T
  .subst z;rw[t1]at e;cases e;exact absurd t2 (nf ts)
  .rw[bM _ _ (Ne.symm z)];exact e
 .cases q:s.heap.get? T' with
  | none=>rfl
  | some o=>
    obtain⟨o',z⟩:=k1.there T' o q;rw[z]at n;cases n
theorem Mh(hfr:A.frames=some (env::outer))(hl:s.heap.FunFrames base (env::outer))(hf:env.frame=some L)(r:oY s.heap ea cls od .none)(h:∀h' T',Err h' ea T' cls od .none->Kept (ϛ (env::outer)) [ea] s.heap h'->s.heap.get? T'=none->Q () { s with heap:=h' }):wpAny M A (leaving env (.ref ea)) Q E s:=by
 unfold leaving;refine ak (NP hfr hl hf r λh1 T1 r1 k1 n1=>yn (fs:=ϛ (env::outer)) (s:={ s with heap:=h1 }) r1 λh2 r2 k2=>h h2 T1 r2 ⟨λb o e f x=>k2.keep b o (k1.keep b o e f x) f ?_,λb o e f x=>?_,λb o e=>?_⟩ n1)
 .simp only[aB];rintro rfl;rw[n1]at e;cases e
 .obtain⟨s1,e1⟩:=k1.slot b o e f x;obtain⟨s2,e2⟩:=k2.slot b _ e1 f (by
   simp only[aB];rintro rfl;rw[n1]at e;cases e)
  exact⟨s2,e2⟩
 .obtain⟨o1,e1⟩:=k1.there b o e;exact k2.there b o1 e1
theorem Nd(hfr:A.frames=some (env::outer))(hl:s.heap.FunFrames base (env::outer))(hf:env.frame=some L)(r:Err s.heap ea T cls od .none)(h:∀h' T',Err h' ea T' cls od .none->Kept (ϛ (env::outer)) [ea,T] s.heap h'->s.heap.get? T'=none->Q () { s with heap:=h' }):wpAny M A (leaving env (.ref ea)) Q E s:=by
 unfold leaving;refine ak (Iz hfr hl hf r λh1 T1 r1 k1 n1=>yn (fs:=ϛ (env::outer)) (s:={ s with heap:=h1 }) r1 λh2 r2 k2=>h h2 T1 r2 ⟨λb o e f x=>k2.keep b o (k1.keep b o e f x) f ?_,λb o e f x=>?_,λb o e=>?_⟩ n1)
 .simp only[aB];rintro rfl;rw[n1]at e;cases e
 .obtain⟨s1,e1⟩:=k1.slot b o e f x;obtain⟨s2,e2⟩:=k2.slot b _ e1 f (by
   simp only[aB];rintro rfl;rw[n1]at e;cases e)
  exact⟨s2,e2⟩
 .obtain⟨o1,e1⟩:=k1.there b o e;exact k2.there b o1 e1
end
def ψ(P:Program)(w:World):nE:=λouter H s E e s'=>∃(ea T:Addr)(cls:Value)(od:Option Addr)(H':Hp),e=.ref ea/\s'.os=s.os/\AllBare s'.gens/\Un (ϛ outer) [] H H' s.heap s'.heap/\Ϥ P w H' s'.heap/\H' ea=none/\H' T=none/\s.heap.get? ea=none/\s.heap.get? T=none/\Err s'.heap ea T cls od .none/\E cls od H'
theorem bJ{P:Program}{w:World}:bU (ψ P w):=λouter H s e s' h=>by
 obtain⟨_,_,_,_,_,_,_,_,_,_,_,_,_,_,_,z⟩:=h;exact z
theorem zM{P:Program}{w:World}{H:Hp}{h h':Heap}{fs xs:List Addr}(x:Ϥ P w H h)(k:Kept fs xs h h')(f:∀b∈fs,H b=none)(u:∀b∈xs,H b=none):Ϥ P w H h':=λa o e=>by
 refine(x a o e).Ϭ (λb ob hb q=>k.keep b ob q ?_ ?_) (λ_ q=>q) λ_ _ q=>q
 .intro z;rcases hb with rfl|hb
  .rw[f _ z]at e;cases e
  .rw[f _ z]at hb;cases hb
 .intro z;rcases hb with rfl|hb
  .rw[u _ z]at e;cases e
  .rw[u _ z]at hb;cases hb
theorem GN{P:Program}{w:World}{H:Hp}{h:Heap}{b:Addr}(x:Ϥ P w H h)(n:h.get? b=none):H b=none:=by
 cases q:H b with
 | none=>rfl
 | some o=>
   have lt:=x.lt q;cases z:h.get? b with
   | some o'=>rw[z]at n;cases n
   | none=>
     exfalso
     have:=(x b o q);cases o with
     | lst xs=>obtain⟨_,_,_,_,e⟩:=this;rw[n]at e;cases e
     | tup xs=>obtain⟨_,_,_,ob,e,_⟩:=this;rw[n]at e;cases e
     | dK η=>obtain⟨_,_,_,_,ob,_,_,e,_⟩:=this;rw[n]at e;cases e
     | dT η=>obtain⟨_,_,_,_,ob,_,_,e,_⟩:=this;rw[n]at e;cases e
     | set S m=>obtain⟨ob,_,_,_,e,_⟩:=this;rw[n]at e;cases e
     | ins C dx fs=>obtain⟨_,_,_,e,_⟩:=this;rw[n]at e;cases e
     | own y=>obtain⟨_,e⟩:=this;rw[n]at e;cases e
     | xd fs=>obtain⟨_,⟨_,_,_,e,_⟩,_⟩:=this;rw[n]at e;cases e
     | Μ lo hi=>obtain⟨_,_,_,e⟩:=this;rw[n]at e;cases e
     | Z2 ob u=>obtain⟨e,_⟩:=this;rw[n]at e;cases e
     | tbl ps=>have e:h.get? b=some _:=this;rw[n]at e;cases e
     | met f y=>have e:h.get? b=some _:=this;rw[n]at e;cases e
     | ext φ=>obtain⟨_,⟨_,e⟩,_⟩:=this;rw[n]at e;cases e
section
variable{P:Program}{w:World}{K:PySem.W.Frag}{mg:Str->Option Value}{base:Heap}{N:List Str}{qual:Str}{scope:Scope}{f:Addr}{cd:Value}{A:Around}{outer:List Env}{s:Shared}{H:Hp}{E:XK}
theorem FT{CX:nE}{pins:List (Addr×Obj)}{σ:St}{H':Hp}{s':Shared}{h':Heap}{xs:List Addr}(J:Inv (rG CX P w K mg base N qual scope f cd A outer s H E) pins σ H' s')(k:Kept (ϛ (envOfC qual scope s.heap.objs.size f cd::outer)) xs s'.heap h')(nx:∀b∈xs,s.heap.get? b=none):Un (ϛ outer) [] H H' s.heap h':=by
 have b0:Un (ϛ outer) [] H H' s.heap s'.heap:=J.base;have nl:∀b o,s.heap.get? b=some o->b∉xs:=λb o e z=>by rw[nx b z]at e;cases e
 have nf:∀b o,s.heap.get? b=some o->b∉ϛ outer->b∉ϛ (envOfC qual scope s.heap.objs.size f cd::outer):=λb o e z m=>by
  unfold ϛ at m z;rw[hV]at m;have:(envOfC qual scope s.heap.objs.size f cd).frame=some s.heap.objs.size:=rfl;rw[this]at m;rcases ar.mp m with m|m
  .exact absurd (aG e) (by rw[m];exact cG _)
  .exact z m
 refine⟨λb o e n hf hx=>k.keep b o (b0.keep b o e n hf hx) (nf b o e hf) (nl b o e),λb o e n hf hx=>?_,b0.free,λb o e hx=>?_,b0.ϭ,b0.ϥ,b0.Ϯ⟩
 .obtain⟨sl,e1⟩:=b0.slot b o e n hf hx;by_cases m:b∈ϛ (envOfC qual scope s.heap.objs.size f cd::outer)
  .obtain⟨s2,e2⟩:=k.slot b _ e1 m (nl b o e);exact⟨s2,e2⟩
  .exact⟨sl,k.keep b _ e1 m (nl b o e)⟩
 .obtain⟨o1,e1⟩:=b0.there b o e hx;exact k.there b o1 e1
theorem qw{CX:nE}{pins:List (Addr×Obj)}{σ:St}{H':Hp}{s':Shared}(J:Inv (rG CX P w K mg base N qual scope f cd A outer s H E) pins σ H' s'){b:Addr}(n:s'.heap.get? b=none):s.heap.get? b=none:=by
 cases q:s.heap.get? b with
 | none=>rfl
 | some o=>
   have b0:Un (ϛ outer) [] H H' s.heap s'.heap:=J.base;obtain⟨o',e⟩:=b0.there b o q (by simp);rw[n]at e;cases e
theorem dI:q9 (ψ P w) (rG (ψ P w) P w K mg base N qual scope f cd A outer s H E) E:=by
 intro pins σ H1 s1 e s' I h;obtain⟨ea,T,cls,od,H',rfl,os,bare,un,τ,n1,n2,f1,f2,er,q⟩:=h;have J:=I.Z6 (ch:=[]) os un τ bare (by simp);refine Nd (base:=base) J.ok.frames J.stack rfl er λh' T' er' k nT=>?_;have fr:∀b∈ϛ (envOfC qual scope s.heap.objs.size f cd::outer),H' b=none:=J.bV;refine⟨ea,T',cls,od,H',rfl,J.os,J.bare,FT J k ?_,zM τ k fr ?_,n1,GN τ nT,qw I f1,qw J nT,er',q⟩
 .intro b hb;simp only[ar,kM,or_false]at hb;rcases hb with rfl|rfl
  .exact qw I f1
  .exact qw I f2
 .intro b hb;simp only[ar,kM,or_false]at hb;rcases hb with rfl|rfl
  .exact n1
  .exact n2
end
def Ln(X:Cx)(E:XK):Prop:=∀(pins:List (Addr×Obj))(σ:St)(H:Hp)(s:Shared)(ea:Addr)(cls:Value)(od:Option Addr)(h':Heap)(tk:Nat),Inv X pins σ H s->(∀b o,s.heap.get? b=some o->h'.get? b=some o)->s.heap.get? ea=none->oY h' ea cls od .none->E cls od H->X.xe (.ref ea) { s with heap:=h',toks:=tk }
section
variable{P:Program}{w:World}{K:PySem.W.Frag}{mg:Str->Option Value}{base:Heap}{N:List Str}{qual:Str}{scope:Scope}{f:Addr}{cd:Value}{A:Around}{outer:List Env}{s:Shared}{H:Hp}{E:XK}
theorem qI:Ln (rG (ψ P w) P w K mg base N qual scope f cd A outer s H E) E:=by
 intro pins σ H1 s1 ea cls od h' tk I kp nw er q;have J:=I.kept (t':=tk) kp;refine Mh (base:=base) J.ok.frames J.stack rfl er λh2 T' er' k nT=>?_;have fr:∀b∈ϛ (envOfC qual scope s.heap.objs.size f cd::outer),H1 b=none:=J.bV;refine⟨ea,T',cls,od,H1,rfl,J.os,J.bare,FT J k ?_,zM J.τ k fr ?_,GN I.τ nw,GN J.τ nT,qw I nw,qw J nT,er',q⟩
 .intro b hb;rw[aB.mp hb];exact qw I nw
 .intro b hb;rw[aB.mp hb];exact GN I.τ nw
end
def pM(K:PySem.W.Frag)(C:Addr):Prop:=∃(nm qn:Str)(N:Addr)(bs bm:List Value)(hdct:Bool)(sn:List Str)(sub:List Value)(ab:Bool)(col:Option Bool)(dd:Option Addr)(k0 k1 k2 k3 k5:Option Value),K.lookup C=some (excClassObj nm qn C N bs bm hdct sn sub ab col dd k0 k1 k2 k3 k5 "ValueError.__new__")/\PySem.W.nsOkIn K N=true/\PySem.W.nsIn K N "__init__"=some none/\PySem.W.tailIn K bmV bm=true
theorem Q7{K:PySem.W.Frag}{C:Addr}{o:Obj}(nm qn:Str)(N:Addr)(bs bm:List Value)(hdct:Bool)(sn:List Str)(sub:List Value)(ab:Bool)(col:Option Bool)(dd:Option Addr)(k0 k1 k2 k3 k5:Option Value)(l:K.lookup C=some o)(e:o=excClassObj nm qn C N bs bm hdct sn sub ab col dd k0 k1 k2 k3 k5 "ValueError.__new__")(a:PySem.W.nsOkIn K N=true)(b:PySem.W.nsIn K N "__init__"=some none)(c:PySem.W.tailIn K bmV bm=true):pM K C:=by
 subst e;exact⟨_,_,_,_,_,_,_,_,_,_,_,_,_,_,_,_,l,a,b,c⟩
def MO(C:Addr)(E:XK)(t:TA):TS:=λ_ σ H=>t σ H λvs H1=>vs.length<=sizeLine/\E (.ref C) none H1
section
variable{X:Cx}{x:Str}{np Υ pos:Pos}{e0:Expr}{es:List Expr}{t:TA}{C:Addr}{E:XK}
theorem oW(q:pM X.K C)(hc:X.calm=true)(hR:Ln X E)(hg:Gl X x)(hm:X.mg x=some (.ref C))(ha:PA X (e0::es) t)(hdb:(x==("__debug__":Str))=false:=by decide)(he:starEach (e0::es) X.env=(false,eval e0 X.env)::starEach es X.env:=by rfl)(ϡ:(backTo Υ (starEach es X.env)).any (·.1)=false:=by rfl):PS X (.Raise (some (.Call (.Name x np) (e0::es) [] Υ)) none pos) (MO C E t):=by
 intro pins s σ H D I h;obtain⟨nm,qn,N,bs,bm,hdct,sn,sub,ab,col,dd,k0,k1,k2,k3,k5,ho,z5,z6,z4⟩:=q;have B:=I.mod.kin;have T0:=PySem.W.tail_of_in B z4;have N0:X.base.Ns N (X.base.nsMap N):=.of_isNs (PySem.W.isNs_of_in B z5);have hp:(backTo Υ (starEach (e0::es) X.env)).any (·.1)=false:=by
  rw[he];show(false||(backTo Υ (starEach es X.env)).any (·.1))=false;rw[ϡ]
  rfl
 refine wpAny_Raise_call_subT (C:=C) (nm:=nm) (q:=qn) (N:=N) (bs:=bs) (bm:=bm) (hdct:=hdct) (sn:=sn) (sub:=sub) (ab:=ab) (col:=col) (dd:=dd) (k0:=k0) (k1:=k1) (k2:=k2) (k3:=k3) (k5:=k5) PySem.F.excBase_ValueError
  (T0.hasType (by decide +kernel)) (I.ok.hd hc) hp (PySem.W.nsMap_none_of_in B z5 z6) (sL I hg hm ⟨rfl,?_⟩ hdb)
 have g:=ha Υ pins s σ H _ I h;rw[he]at g ⊢;refine Calls.evalArgs_plain (Ψ g λus s1 ⟨vs,H1,I1,r1,q1⟩=>⟨rfl,by show us.length<=_;rw[<-r1.length];exact q1.1,I1.bk _ _ (B _ _ ho),N0.keeps I1.bk,T0.keeps I1.bk,λh' ea m=>?_⟩);obtain⟨tt,m1,_,_⟩:=m.there;exact hR pins σ H1 s1 ea (.ref C) none h' s1.toks I1 m.keeps m.new ⟨_,_,m1,rfl,rfl,rfl,rfl,rfl⟩ q1.2
end
def XP(CX:nE)(X:Cx)(pins:List (Addr×Obj))(σ:St)(E:XK)(e:Value)(s':Shared):Prop:=∃H s,Inv X pins σ H s/\CX X.stack H s E e s'
def PEx(CX:nE)(X:Cx)(e:Expr)(t:XK->TE):Prop:=∀(E:XK)(pins:List (Addr×Obj))(s:Shared)(σ:St)(H:Hp)(Q:VK),Inv X pins σ H s->t E σ H Q->wpAny (model X.prog X.w) X.A (eval e X.env) (EP X pins σ Q) (XP CX X pins σ E) s
abbrev XS(CX:nE)(X:Cx)(pins:List (Addr×Obj))(EK:St->XK)(e:Value)(s':Shared):Prop:=∃σ,XP CX X pins σ (EK σ) e s'
def PSx(CX:nE)(X:Cx)(st:Stmt)(t:(St->XK)->TS):Prop:=∀(EK:St->XK)(pins:List (Addr×Obj))(s:Shared)(σ:St)(H:Hp)(D:Ends),Inv X pins σ H s->t EK D σ H->wpAny (model X.prog X.w) X.A (exec st X.env) (SP X pins D) (XS CX X pins EK) s
def Kz(CX:nE)(X:Cx)(st:List Stmt)(t:(St->XK)->TS):Prop:=∀(EK:St->XK)(pins:List (Addr×Obj))(s:Shared)(σ:St)(H:Hp)(D:Ends),Inv X pins σ H s->t EK D σ H->wpAny (model X.prog X.w) X.A (execs st X.env) (SP X pins D) (XS CX X pins EK) s
section
variable{CX:nE}{X:Cx}{k:Nat}{f C:Addr}{fd:FuncData}{ps:List Str}{sp:Sp}{XZ:List V}{ds:List Value}{x:Str}{p pos:Pos}{e:Expr}{es:List Expr}{te:TE}{t:TA}{st:Stmt}{sts:List Stmt}{ts:TS}{tx ux:(St->XK)->TS}{ex:XK->TE}
theorem Qg(F:Ω X.prog X.w X.K X.mg X.base CX k f fd ps sp)(hr:Ι k X.A)(hg:Gl X x)(hm:X.mg x=some (.ref f))(hk:PySem.W.keepIn X.K (.ref f)=true)(hb:Binds X.K fd ps ds)(hd:Vals XZ ds)(ha:PA X.nox (e::es) t)(hdb:(x==("__debug__":Str))=false:=by decide)(he:starEach (e::es) X.env=(false,eval e X.env)::starEach es X.env:=by rfl)(ϡ:(backTo pos (starEach es X.env)).any (·.1)=false:=by rfl):PEx CX X (.Call (.Name x p) (e::es) [] pos) (λE=>qL sp XZ E t):=by
 intro E pins s σ H Q I h;refine fA (sL I hg hm ?_ hdb);refine j0 (h₀:=X.base) I.ok.mod.kin hk (b9 (ha pos pins s σ H _ (I.wish _) h) (λus s1 ⟨vs,H1,I1,r,q⟩=>⟨I1.Τ.YZ,?_⟩) λ_ _ z=>False.elim z) he ϡ;have J:=I1.Τ;have r2:Vals (vs++XZ) (us++ds):=r.append hd;have hl:(us++ds).length=ps.length:=by rw[<-r2.length];exact F.len _ _ _ _ q
 refine jV (iU (F.run X.A X.stack s1 H1 ⟨us,[]⟩ (us++ds) (vs++XZ) Q E hr J.acz (hb s1 us J.YZ hl) r2 q) λr s' hq=>?_);cases r with
 | error e=>exact⟨H1,s1,J,hq⟩
 | ok fl=>
   cases fl with
   | ret u=>exact J.after hq
   | next=>exact False.elim hq
   | brk=>exact False.elim hq
   | cont=>exact False.elim hq
theorem vN(he:PEx CX X e ex)(hs:swapsWith e none pos.line X.env=pure false:=by rfl):PSx CX X (.Expr e pos) (λEK D σ H=>ex (EK σ) σ H λ_ H1=>D.nx σ H1):=by
 intro EK pins s σ H D I h;exact wpAny_Expr_any (b9 (he (EK σ) pins s σ H _ I h) (λv s1 ⟨x,H1,I1,r1,q1⟩=>⟨σ,H1,I1,q1⟩) λe s' z=>⟨σ,z⟩) I.quiet hs
theorem Gm{c:Expr}{a b:List Stmt}{tc:TT}(hc:PT X.nox c tc)(ha:Kz CX X a tx)(hb:Kz CX X b ux):PSx CX X (.If c a b pos) (λEK=>K4 tc (tx EK) (ux EK)):=by
 intro EK pins s σ H D I h;refine wpAny_If (b9 (hc pins s σ H _ (I.wish _) h) (λd s1 ⟨H1,I1,q1⟩=>?_) λ_ _ z=>False.elim z);cases d with
 | true=>exact ha EK pins s1 σ H1 D I1.Τ q1
 | false=>exact hb EK pins s1 σ H1 D I1.Τ q1
theorem oX(h1:PSx CX X st tx):Kz CX X [st] tx:=by
 intro EK pins s σ H D I h;refine kL (Ψ (h1 EK pins s σ H D I h) λf s1 q=>?_);cases f with
 | next=>exact fW q
 | ret v=>exact q
 | brk=>exact q
 | cont=>exact q
end
abbrev Cx.held(X:Cx)(e:Value):Cx:={ X with A:=X.A.mark (some e),calm:=false }
theorem Cx.Ok.held{X:Cx}(ok:X.Ok)(e:Value):(X.held e).Ok:=⟨ok.mod,ok.kind,ok.glob,ok.blt,ok.above,ok.inj,ok.has,ok.cab,(λz=>nomatch z),ok.frames,ok.stk,ok.exf,ok.bs,ok.Z3,ok.Yw,ok.X5,ok.Ϸ,ok.frf⟩
theorem Cx.Ok.Zb{X:Cx}{e:Value}(ok:(X.held e).Ok)(hd:X.calm=true->X.A.handled=none):X.Ok:=⟨ok.mod,ok.kind,ok.glob,ok.blt,ok.above,ok.inj,ok.has,ok.cab,hd,ok.frames,ok.stk,ok.exf,ok.bs,ok.Z3,ok.Yw,ok.X5,ok.Ϸ,ok.frf⟩
section
variable{X:Cx}{pins:List (Addr×Obj)}{σ:St}{H:Hp}{s:Shared}
theorem Inv.held(I:Inv X pins σ H s)(e:Value):Inv (X.held e) pins σ H s:=⟨I.ok.held e,I.os,I.bare,I.base,I.loc,I.cell,I.free,I.Ρ,I.pin,I.τ,I.len⟩
theorem Inv.Zb{e:Value}(I:Inv (X.held e) pins σ H s)(hd:X.calm=true->X.A.handled=none):Inv X pins σ H s:=⟨I.ok.Zb hd,I.os,I.bare,I.base,I.loc,I.cell,I.free,I.Ρ,I.pin,I.τ,I.len⟩
theorem Inv.moved{xs:List Addr}{h':Heap}{tk:Nat}(I:Inv X pins σ H s)(k:Kept (ϛ X.stack) xs s.heap h')(nx:∀b∈xs,H b=none/\X.s₀.heap.get? b=none/\b≠X.env.locals/\(∀x c,X.env.cells.lookup x=some c->c≠b)/\∀p∈X.pn++pins,p.1≠b):Inv X pins σ H { s with heap:=h',toks:=tk }:=by
 have old:∀b o,X.s₀.heap.get? b=some o->b∉xs:=λb o e z=>by rw[(nx b z).2.1]at e;cases e
 have nel:∀b o,X.s₀.heap.get? b=some o->b≠X.env.locals:=λb o e z=>absurd (aW (aG e) I.ok.above) (by rw[z];exact cG _);have out:∀b,b≠X.env.locals->b∉X.fs->b∉ϛ X.stack:=λb h1 h2 z=>(ar.mp (I.X6 b z)).elim h1 h2;have any:∀b o,s.heap.get? b=some o->b∉xs->∃sl,h'.get? b=some { o with slots:=sl }:=λb o e z=>by
  by_cases f:b∈ϛ X.stack
  .exact k.slot b o e f z
  .exact⟨o.slots,k.keep b o e f z⟩
 have cells:∀x c v,X.env.cells.lookup x=some c->s.heap.IsCell c v->h'.IsCell c v:=λx c v e ⟨o,ho,hd⟩=>by
  obtain⟨sl,q⟩:=any c o ho λz=>(nx c z).2.2.2.1 x c e rfl;exact⟨_,q,hd⟩
 refine⟨I.ok,I.os,I.bare,⟨λb o e n hf hx=>?_,λb o e n hf hx=>?_,I.base.free,λb o e hx=>?_,I.base.ϭ,I.base.ϥ,I.base.Ϯ⟩,?_,λx c e=>?_,I.free,I.Ρ,λp hp=>?_,zM I.τ k I.bV λb hb=>(nx b hb).1,I.len⟩
 .exact k.keep b o (I.base.keep b o e n hf hx) (out b (nel b o e) hf) (old b o e)
 .obtain⟨sl,e1⟩:=I.base.slot b o e n hf hx;obtain⟨s2,e2⟩:=any b _ e1 (old b o e);exact⟨s2,e2⟩
 .obtain⟨o1,e1⟩:=I.base.there b o e hx;exact k.there b o1 e1
 .obtain⟨m,⟨o,es,ep,ho,r⟩,l⟩:=I.loc;obtain⟨sl,e1⟩:=any _ o ho λz=>(nx _ z).2.2.1 rfl;refine⟨m,⟨_,es,ep,e1,r⟩,λi x v h1 h2 h3=>?_⟩;obtain⟨u,r1,l1⟩:=l i x v h1 h2 h3;refine⟨u,r1,?_⟩;rcases l1 with l1|⟨k1,c,e,z⟩
  .exact .inl l1
  .exact .inr ⟨k1,c,e,cells x c _ e z⟩
 .obtain⟨v,z⟩:=I.cell x c e;exact⟨v,cells x c v e z⟩
 .obtain⟨e,n,ne,nf,d⟩:=I.pin p hp;exact⟨k.keep p.1 p.2 e (out p.1 ne nf) λz=>(nx p.1 z).2.2.2.2 p hp rfl,n,ne,nf,d⟩
theorem Inv.young(I:Inv X pins σ H s){b:Addr}(n:s.heap.get? b=none):X.s₀.heap.get? b=none\/b∈X.ex:=by
 by_cases z:b∈X.ex
 .exact .inr z
 .refine .inl ?_;cases q:X.s₀.heap.get? b with
  | none=>rfl
  | some o=>
    obtain⟨o',e⟩:=I.base.there b o q z;rw[n]at e;cases e
theorem Inv.apart(I:Inv X pins σ H s){b:Addr}(n:s.heap.get? b=none):b≠X.env.locals/\(∀x c,X.env.cells.lookup x=some c->c≠b)/\∀p∈X.pn++pins,p.1≠b:=by
 refine⟨?_,λx c e z=>?_,λp hp z=>?_⟩
 .rintro rfl;obtain⟨m,⟨o,es,ep,ho,r⟩,_⟩:=I.loc;rw[n]at ho;cases ho
 .obtain⟨v,o,ho,hd⟩:=I.cell x c e;rw[z,n]at ho;cases ho
 .obtain⟨e,_⟩:=I.pin p hp;rw[z,n]at e;cases e
end
section
variable{K:PySem.W.Frag}{C C':Addr}{x:Addr}{ox:Obj}{od:Option Obj}{M:Model}{A:Around}{E:Value->Shared->Prop}{s:Shared}{b:Bool}{Q:Bool->Shared->Prop}
theorem G2(X:K.In s.heap)(hx:∃o,s.heap.get? x=some o/\o.cls=.ref C)(c':iS K C')(m:PySem.W.mroIn K C (.ref C')=some b)(h:Q b s):wpAny M A (excMatches (.ref x) (.ref C')) Q E s:=by
 obtain⟨o,ho,hc⟩:=hx;obtain⟨hh,g,dr,t,os⟩:=s;have L0:PySem.W.Looks M hh (typeOf (.ref x)) (.ref C):=hc▸(PySem.W.Looks.ld ho).andThen .now;have L1:=jN (M:=M) X m;have L2:=jN (M:=M) X c'.mb;have L3:=PySem.W.looks_typeIn (M:=M) X c'.ty;have L4:PySem.W.Looks M hh (isSubtype (.type "type") (.type "tuple")) false:=.of_pure tc_notTuple;obtain⟨cd,e,_⟩:=fM c'.hd;have L5:PySem.W.Looks M hh (isType (.ref C')) true:=by
  unfold PySem.W.clsIn at e;split at e
  .rename_i Yx
   intro A' Q' E' s' k q;unfold isType loadHead;exact ak (lK (k _ _ (X _ _ Yx)) (aR q))
  .cases e
 unfold excMatches isInstance isExcClass;cases b
 all_goals
  repeat lk
  exact h
end
def Y1(ea:Addr)(cls:Value)(od:Option Addr):HO:=.ext λh=>∃oe vs,h.get? ea=some oe/\oe.cls=cls/\oe.dict=od/\oe.data=.fields vs/\vs[2]?=some .none
structure Loose(X:Cx)(pins:List (Addr×Obj))(H:Hp)(b:Addr):Prop where
 un:H b=none
 new:X.s₀.heap.get? b=none
 loc:b≠X.env.locals
 cel:∀x c,X.env.cells.lookup x=some c->c≠b
 pin:∀p∈X.pn++pins,p.1≠b
theorem Loose.all{X:Cx}{pins:List (Addr×Obj)}{H:Hp}{b:Addr}(l:Loose X pins H b):H b=none/\X.s₀.heap.get? b=none/\b≠X.env.locals/\(∀x c,X.env.cells.lookup x=some c->c≠b)/\∀p∈X.pn++pins,p.1≠b:=⟨l.un,l.new,l.loc,l.cel,l.pin⟩
section
variable{X:Cx}{pins:List (Addr×Obj)}{σ:St}{H:Hp}{s:Shared}
theorem Inv.acS{ea:Addr}{cls hd:Value}{od:Option Addr}(I:Inv X pins σ H s)(l:Loose X pins H ea)(e:oY s.heap ea cls od hd):Inv X pins σ (upd H ea (Y1 ea cls od)) s:=by
 obtain⟨oe,vs,h1,h2,h3,h4,h5,h6⟩:=e;have ne:∀b,b≠ea->upd H ea (Y1 ea cls od) b=H b:=λb z=>aO z;have nt:∀b u,H b=some u->upd H ea (Y1 ea cls od) b=some u:=λb u z=>by rw[ne b (bQ z l.un)];exact z
 refine⟨I.ok,I.os,I.bare,⟨I.base.keep,I.base.slot,λb o q n x=>?_,I.base.there,λb xs q=>nt _ _ (I.base.ϭ b xs q),λb o u q=>nt _ _ (I.base.ϥ b o u q),λb ps q=>?_⟩,I.loc,I.cell,?_,λx c q=>?_,λp hp=>?_,?_,I.len⟩
 .rw[ne b (by rintro rfl;rw[l.new]at q;cases q)];exact I.base.free b o q n x
 .obtain⟨more,z⟩:=I.base.Ϯ b ps q;exact⟨more,nt _ _ z⟩
 .rw[ne _ (Ne.symm l.loc)];exact I.free
 .rw[ne _ (l.cel x c q)];exact I.Ρ x c q
 .obtain⟨z1,z2,z3,z4,z5⟩:=I.pin p hp;exact⟨z1,by rw[ne _ (l.pin p hp)];exact z2,z3,z4,z5⟩
 .intro b u q;by_cases z:b=ea
  .subst z;rw[ax]at q;cases q;refine⟨⟨oe,vs,h1,h2,h3,h4,h6⟩,⟨oe,h1⟩,?_⟩;rintro g1 g2 ⟨o,v,a1,a2⟩ kk;exact⟨o,v,kk _ a1,a2⟩
  .rw[ne b z]at q;exact(I.τ b u q).Ϭ (λ_ _ _ r=>r) (λc r=>nt _ _ r) λc xs r=>nt _ _ r
theorem uq{M:Model}{A:Around}{E:Value->Shared->Prop}{n:Str}{i:Nat}{pos:Pos}{Q:Unit->Shared->Prop}(I:Inv X pins σ H s)(hN:X.N.Nodup)(hi:X.N[i]?=some n)(hl:X.env.scope.names.lookup n=some .local)(h:∀s',Inv X pins (σ.set i none) H s'->Q () s'):wpAny M A (do bindName X.env n .none;unbindBehindTheSuite X.env n pos) Q E s:=by
 have acv:(X.env.scope.kind==.class||(X.env.scope.kind==.module&&X.env.locals != X.env.globals))=false:=by rw[I.ok.kind];rfl
 have Z5:i<σ.length:=by rw[I.len];exact(aq.mp hi).1
 refine ak (wpAny_bindName (tI (v:=V.ο) I hN hi (.inl hl) rfl (λs1 I1=>?_) (.inr hl)));obtain⟨m,hn,l⟩:=id I1.loc;have hv:m n=some Value.none:=by
  obtain⟨u,r,q⟩:=l i n .ο hi (by rw[dP Z5]) (.inl hl);cases(show u=Value.none from r);rcases q with⟨_,q⟩|⟨q,_⟩
  .exact q
  .rcases q with q|q<;>(have z:X.env.scope.names.lookup n=_:=q;rw[hl]at z;cases z)
 unfold unbindBehindTheSuite;refine ip (wpAny_unbindName_local hl hn hv acv λh' u hn' hs=>h _ ?_);have Z4:=I1.Z4;have far:∀b o,X.s₀.heap.get? b=some o->b≠X.env.locals:=λb o e=>aV (aW (aG e) I1.ok.above);have at_:∀b,b≠X.env.locals->h'.get? b=s1.heap.get? b:=λb z=>hs.2 b z;refine⟨I1.ok,I1.os,I1.bare,⟨λb o e n hb hx=>?_,λb o e n hb hx=>?_,I1.base.free,λb o e hx=>?_,I1.base.ϭ,I1.base.ϥ,I1.base.Ϯ⟩,⟨_,hn',λj y v e1 e2 e3=>?_⟩,λy c e=>?_,I1.free,I1.Ρ,λp hp=>?_,λb ob e=>?_,by simpa using I.len⟩
 .exact(at_ b (far b o e)).trans (I1.base.keep b o e n hb hx)
 .obtain⟨sl,q⟩:=I1.base.slot b o e n hb hx;exact⟨sl,(at_ b (far b o e)).trans q⟩
 .obtain⟨o',q⟩:=I1.base.there b o e hx;exact⟨o',(at_ b (far b o e)).trans q⟩
 .by_cases hj:j=i
  .subst hj;rw[dP Z5]at e2;cases e2
  .have hy:y≠n:=λz=>hj (zO hN e1 (z▸hi));rw[cY (Ne.symm hj)]at e2;obtain⟨u',r',q⟩:=l j y v e1 (by rw[cY (Ne.symm hj)];exact e2) e3;refine⟨u',r',?_⟩;rcases q with⟨k,z⟩|⟨k,c,z1,z2⟩
   .exact .inl ⟨k,by simp[hy,z]⟩
   .exact .inr ⟨k,c,z1,z2.sameBut hs (Z4 y c z1)⟩
 .obtain⟨v,z⟩:=I1.cell y c e;exact⟨v,z.sameBut hs (Z4 y c e)⟩
 .obtain⟨z1,z2,z3,z4,z5⟩:=I1.pin p hp;exact⟨(at_ p.1 z3).trans z1,z2,z3,z4,z5⟩
 .refine(I1.τ b ob e).Ϭ (λc w hc q=>(at_ c ?_).trans q) (λ_ q=>q) λ_ _ q=>q;rintro rfl;rcases hc with rfl|hc
  .rw[I1.free]at e;cases e
  .rw[I1.free]at hc;cases hc
end
abbrev TH:=Ends->St->Value->Option Addr->Hp->Prop
def PHs(X:Cx)(hs:List ExceptHandler)(th:TH):Prop:=∀(pins:List (Addr×Obj))(s:Shared)(σ:St)(H:Hp)(D:Ends)(ea T:Addr)(cls:Value)(od:Option Addr),Inv X pins σ H s->Err s.heap ea T cls od .none->Loose X pins H ea->Loose X pins H T->th D σ cls od H->wpAny (model X.prog X.w) X.A (handleBy (.ref ea) X.env hs) (SP X pins D) X.xe s
def Ends.less(D:Ends)(i:Nat):Ends:={ nx:=λσ H=>D.nx (σ.set i none) H,rt:=D.rt,bk:=λσ H=>D.bk (σ.set i none) H,ct:=λσ H=>D.ct (σ.set i none) H }
def QD(K:PySem.W.Frag)(C':Addr)(i:Nat)(ts:TS)(tr:TH):TH:=λD σ cls od H=>∃C b,cls=.ref C/\PySem.W.mroIn K C (.ref C')=some b/\if b=true then ∀ea,H ea=none->ts (D.less i) (σ.set i (some (.ref ea))) (upd H ea (Y1 ea cls od))else tr D σ cls od H
def abm:TH:=λ_ _ _ _ _=>False
section
variable{X:Cx}{x n:Str}{np pos:Pos}{i:Nat}{C':Addr}{b0:Stmt}{acd:List Stmt}{rest:List ExceptHandler}{ts:TS}{tr:TH}
theorem RS:PHs X [] abm:=λ_ _ _ _ _ _ _ _ _ _ _ _ _ h=>h.elim
theorem VI(c':iS X.K C')(hg:Gl X x)(hm:X.mg x=some (.ref C'))(hN:X.N.Nodup)(hi:X.N[i]?=some n)(hl:X.env.scope.names.lookup n=some .local)(hb:∀e,Y0 (X.held e).nox (b0::acd) ts)(hr:PHs X rest tr)(hdb:(x==("__debug__":Str))=false:=by decide):PHs X (.ExceptHandler (some (.Name x np)) (some n) (b0::acd) pos::rest) (QD X.K C' i ts tr):=by
 intro pins s σ H D ea T cls od I er le lt h;obtain⟨C,b,rfl,m,q⟩:=h;refine wpAny_handleBy_cons (codeAny_handlers_test (sL (X:=X.held (.ref ea)) (I.held _) hg hm ?_ hdb)) (by intro z;cases z);obtain⟨oe,vs,h1,h2,h3,h4,h5,h6⟩:=id er.e;refine G2 I.YZ ⟨oe,h1,h2⟩ c' m ?_;cases b with
 | false=>exact hr pins s σ H D ea T _ od I er le lt (by simpa using q)
 | true=>
   rw[aj rfl]at q;refine codeAny_handlers_suite_as (yn (fs:=ϛ X.stack) er λh' er' k=>?_);have I1:Inv X pins σ H { s with heap:=h' }:=I.moved (tk:=s.toks) k λb hb=>by rw[aB.mp hb];exact lt.all
   have I2:=(I1.acS le er'.e).held (.ref ea);refine tI (X:=X.held (.ref ea)) (v:=V.ref ea) I2 hN hi (.inl hl) rfl (λs2 I3=>?_) (.inr hl);refine b9 (hb (.ref ea) pins s2 _ _ _ (I3.wish _) (q ea le.un)) (λf s3 z=>?_) λ_ _ z=>False.elim z;have back:∀{σ':St}{H':Hp},Inv (X.held (.ref ea)).nox pins σ' H' s3->Inv X pins σ' H' s3:=λJ=>J.Τ.Zb I.ok.hd;dsimp only;cases f with
   | next=>
     obtain⟨σ',H',J,z⟩:=z;exact uq (back J) hN hi hl λs4 J4=>⟨_,H',J4,z⟩
   | brk=>
     obtain⟨σ',H',J,z⟩:=z;exact uq (back J) hN hi hl λs4 J4=>⟨_,H',J4,z⟩
   | cont=>
     obtain⟨σ',H',J,z⟩:=z;exact uq (back J) hN hi hl λs4 J4=>⟨_,H',J4,z⟩
   | ret u=>
     obtain⟨v,σ',H',J,rv,z⟩:=z;exact uq (back J) hN hi hl λs4 J4=>⟨v,_,H',J4,rv,z⟩
def OC(tb:(St->XK)->TS)(th:TH):TS:=λD σ H=>tb (λσ' cls od H'=>th D σ' cls od H') D σ H
theorem Ut{body:List Stmt}{h0:ExceptHandler}{hs:List ExceptHandler}{tb:(St->XK)->TS}{th:TH}(hx:X.ex=[])(ZT:X.stack=X.env::X.outer)(hf:X.env.frame=some X.env.locals)(hb:Kz (ψ X.prog X.w) X body tb)(hh:PHs X (h0::hs) th):PS X (.Try body (h0::hs) [] [] pos) (OC tb th):=by
 intro pins s σ H D I h;refine wpAny_Try_except (b9 (hb _ pins s σ H D I h) (λf s1 q=>?_) λe s' z=>?_)
 .cases f with
  | next=>exact fW q
  | ret v=>exact q
  | brk=>exact q
  | cont=>exact q
 .obtain⟨σ1,H1,s1,I1,ea,T,cls,od,H',rfl,os,bare,un,τ,n1,n2,f1,f2,er,q⟩:=z;have J:=I1.Z6 (ch:=[]) os un τ bare (by simp);have fresh:∀b,s1.heap.get? b=none->H' b=none->Loose X pins H' b:=λb z u=>by
   obtain⟨a1,a2,a3⟩:=I1.apart z;refine⟨u,?_,a1,a2,a3⟩;rcases I1.young z with y|y
   .exact y
   .rw[hx]at y;cases y
  have le:=fresh ea f1 n1;have lt:=fresh T f2 n2;have fr:=J.ok.frames;have st:=J.stack;rw[ZT]at fr st;refine Iz fr st hf er λh2 T2 er2 k2 nT2=>?_;rw[<-ZT]at k2;have J2:Inv X pins σ1 H' { s' with heap:=h2 }:=J.moved (tk:=s'.toks) k2 λb hb=>by
   simp only[ar,kM,or_false]at hb;rcases hb with rfl|rfl
   .exact le.all
   .exact lt.all
  have lt2:Loose X pins H' T2:=by
   obtain⟨a1,a2,a3⟩:=J.apart nT2;refine⟨GN τ nT2,?_,a1,a2,a3⟩;rcases J.young nT2 with y|y
   .exact y
   .rw[hx]at y;cases y
  refine yn (fs:=ϛ X.stack) (s:={ s' with heap:=h2 }) er2 λh3 er3 k3=>?_;have J3:Inv X pins σ1 H' { s' with heap:=h3 }:=J2.moved (tk:=s'.toks) k3 λb hb=>by rw[aB.mp hb];exact lt2.all
  exact hh pins _ σ1 H' D ea T2 cls od J3 er3 le lt2 q
end
def KM(K:PySem.W.Frag)(C:Addr):V->Bool->Prop
 | .ref C',b=>iS K C'/\PySem.W.mroIn K C (.ref C')=some b
 | .ty T,b=>PySem.W.kitMeta T=true/\PySem.W.mroIn K C (.type T)=some b
 | _,_=>False
def AZ(H:Hp):Option Addr->Prop
 | none=>True
 | some d=>∃fs,H d=some (.xd fs)
def Ko(K:PySem.W.Frag):List V->Hp->VK->Prop:=λxs H Q=>∃ea C od cv b,xs=[.ref ea,cv]/\H ea=some (Y1 ea (.ref C) od)/\AZ H od/\iS K C/\KM K C cv b/\Q (.bl b) H
theorem CF{K:PySem.W.Frag}{C:Addr}{cv:V}{u:Value}{b:Bool}(c:iS K C)(r:RelV cv u)(h:KM K C cv b):PySem.W.kitOne K (.ref C) u=some b:=by
 unfold PySem.W.kitOne;cases cv with
 | ref C'=>
   cases(show u=Value.ref C' from r);obtain⟨c',m⟩:=h;by_cases z:C=C'
   .subst z;rw[c.sf]at m;cases m;simp
   .have:(Value.ref C==Value.ref C')=false:=(by simpa using z);rw[this];simp only[bR,if_false];unfold PySem.W.kitCls;have q:((PySem.W.clsIn K C').isSome&&PySem.W.typeIn K (.ref C')==some (.type "type"))=true:=by
     obtain⟨cd,e,_⟩:=fM c'.hd;rw[e,c'.ty];simp
    simp only[q,if_true];exact m
 | ty T=>
   cases(show u=Value.type T from r);obtain⟨c',m⟩:=h;have:(Value.ref C==Value.type T)=false:=by simp
   rw[this];simp only[bR,if_false];unfold PySem.W.kitCls;simp only[c',if_true];exact m
 | ο=>exact h.elim
 | bl=>exact h.elim
 | int=>exact h.elim
 | str=>exact h.elim
 | YY=>exact h.elim
 | flt=>exact h.elim
section
variable{X:Cx}
theorem FL{pins:List (Addr×Obj)}{σ:St}{H:Hp}{s:Shared}{ea C:Addr}{od:Option Addr}(I:Inv X pins σ H s)(h:H ea=some (Y1 ea (.ref C) od))(d:AZ H od):∃ox oo,PySem.W.InstAt s.heap ea ox C oo:=by
 obtain⟨⟨oe,vs,h1,h2,h3,h4,_⟩,_⟩:=(show Γ X.prog X.w H s.heap ea (Y1 ea (.ref C) od)from I.τ ea _ h);have nc:PySem.W.notCls oe=true:=by unfold PySem.W.notCls;rw[h4]
 cases od with
 | none=>exact⟨oe,none,h1,h2,nc,by rw[h3];trivial⟩
 | some dx=>
   obtain⟨fs,hd⟩:=d;obtain⟨mA,⟨o,es,ep,e,_⟩,_⟩:=(show Γ X.prog X.w H s.heap dx (.xd fs)from I.τ dx _ hd);exact⟨oe,some o,h1,h2,nc,by rw[h3];exact e⟩
theorem OP:kR X (.builtin "isinstance") (Ko X.K):=by
 intro pins s σ H xs us Q I r h;obtain⟨ea,C,od,cv,b,rfl,he,hd,c,hk,q⟩:=h;obtain⟨u,cu,rfl,ru,rc⟩:=EB r;cases(show u=Value.ref ea from ru);obtain⟨ox,oo,ia⟩:=FL I he hd;exact PySem.W.kia_one (Fo (x:=ea) (ox:=ox) (od:=oo) c) I.YZ ia (CF c rc hk) (λz=>nomatch z) λtk=>⟨.bl b,H,I.tok tk,rfl,q⟩
end
def sW(cells:List (Str×Addr)):List (Str×NameKind)->List (Str×Addr)->List (Str×Addr)
 | [],acc=>acc
 | (n,k)::r,acc=>if k==.free then sW cells r ((n,(cells.lookup n).getD 0)::acc)else sW cells r acc
theorem Jt{scope:Scope}{env:Env}(h:∀y∈scope.names,y.2=.free->(env.cells.lookup y.1).isSome=true):closureFor scope env=pure (sW env.cells scope.names []):=by
 have key:∀(l:List (Str×NameKind))(acc:List (Str×Addr)),(∀y∈l,y.2=.free->(env.cells.lookup y.1).isSome=true)->(forIn l acc λ(y:Str×NameKind)(c:List (Str×Addr))=>(if y.2==NameKind.free then do let a <-cellOf env y.1;pure (ForInStep.yield ((y.1,a)::c))else pure (ForInStep.yield c):Sem (ForInStep (List (Str×Addr)))))=(pure (sW env.cells l acc):Sem (List (Str×Addr))):=by
  intro l
  induction l with
  | nil=>intro acc _;rfl
  | cons y l ih=>
    obtain⟨n,k⟩:=y;intro acc hh;have h1:=hh (n,k) aK;have h2:∀y∈l,y.2=.free->(env.cells.lookup y.1).isSome=true:=λy hy=>hh y (aI _ hy);rw[l9];unfold sW;cases q:k==NameKind.free with
    | false=>
      simp only[bR,if_false,pure_bind];exact ih acc h2
    | true=>
      obtain⟨c,hc⟩:=dU.mp (h1 (by simpa using q));dsimp only at hc;simp only[if_true,cellOf,hc,pure_bind,Option.getD_some];exact ih _ h2
 have:=key scope.names [] h;unfold closureFor;simp only[bind_pure];exact this
theorem Aq{cells:List (Str×Addr)}{x:Str}{c:Addr}:∀{l:List (Str×NameKind)}{acc:List (Str×Addr)},(∀y∈l,y.2=.free->(cells.lookup y.1).isSome=true)->(∀x c,acc.lookup x=some c->cells.lookup x=some c)->(sW cells l acc).lookup x=some c->cells.lookup x=some c
 | [],acc,_,h2,h3=>h2 x c h3
 | (n,k)::r,acc,h1,h2,h3=>by
   have h1':∀y∈r,y.2=.free->(cells.lookup y.1).isSome=true:=λy hy=>h1 y (aI _ hy);unfold sW at h3;cases q:k==NameKind.free with
   | false=>
     rw[q]at h3;exact Aq h1' h2 (by simpa using h3)
   | true=>
     rw[q]at h3;simp only[if_true]at h3;obtain⟨a,ha⟩:=dU.mp (h1 (n,k) aK (by simpa using q));dsimp only at ha;rw[ha]at h3;refine Aq h1' (λy d hy=>?_) h3;rw[cH]at hy;cases z:y==n with
     | true=>
       rw[z]at hy;cases hy;rw[eq_of_beq z];exact ha
     | false=>
       rw[z]at hy;exact h2 y d hy
theorem zr{cells:List (Str×Addr)}{x:Str}:∀{l:List (Str×NameKind)}{acc:List (Str×Addr)},((∃c,acc.lookup x=some c)\/(x,NameKind.free)∈l)->∃c,(sW cells l acc).lookup x=some c
 | [],acc,h=>by
   rcases h with h|h
   .exact h
   .cases h
 | (n,k)::r,acc,h=>by
   unfold sW;cases q:k==NameKind.free with
   | false=>
     simp only[bR,if_false];refine zr ?_;rcases h with h|h
     .exact .inl h
     .rcases ar.mp h with z|z
      .cases z;simp at q
      .exact .inr z
   | true=>
     simp only[if_true];refine zr ?_;by_cases z:x=n
     .subst z;exact .inl ⟨(cells.lookup x).getD 0,by rw[cH];simp⟩
     .rcases h with⟨c,h⟩|h
      .refine .inl ⟨c,?_⟩;rw[cH];have:(x==n)=false:=(by simpa using z);rw[this];exact h
      .rcases ar.mp h with y|y
       .cases y;exact absurd rfl z
       .exact .inr y
theorem qE{env:Env}{x:Str}{k:NameKind}:∀{l:List (Str×NameKind)},l.lookup x=some k->(l.map λ(n,k)=>if(k==NameKind.free&&env.scope.kind==.function&&env.kindOf n==some .cell)then(n,NameKind.cell)else(n,k)).lookup x=some (if(k==NameKind.free&&env.scope.kind==.function&&env.kindOf x==some .cell)then NameKind.cell else k)
 | [],h=>by simp at h
 | (n,j)::r,h=>by
   have ih:=@qE env x k r;rw[aH];rw[cH]at h;cases z:x==n with
   | true=>
     rw[z]at h;cases h;have e:=eq_of_beq z;subst e;by_cases q:(k==NameKind.free&&env.scope.kind==.function&&env.kindOf x==some .cell)=true
     .simp only[q,if_true,cH,z]
     .simp only[q,if_false,cH,z,bR]
   | false=>
     rw[z]at h;dsimp only;by_cases q:(j==NameKind.free&&env.scope.kind==.function&&env.kindOf n==some .cell)=true
     .rw[aj q,cH,z];exact ih h
     .rw[ag q,cH,z];exact ih h
theorem Ri{X:Cx}{Nc:List Str}{scope:Scope}(own:Nat)(js:List Nat)(hc:∀y∈scope.names,y.2≠.cell)(hk:scope.kind=.function)(hn:∀y∈scope.names,y.2=.local->scope.names.lookup y.1=some .local)(hl:Nc.length=own+js.length)(hf:∀y∈scope.names,y.2=.free->X.env.scope.names.lookup y.1=some .cell)(hX:X.env.scope.kind=.function)(ϳ:∀x,X.env.scope.names.lookup x=some .cell->∃c,X.env.cells.lookup x=some c)(hU:∀i,i<js.length->∃x j,Nc[own+i]?=some x/\js[i]?=some j/\X.N[j]?=some x/\scope.names.lookup x=some .free):ϝ X Nc own js scope (sW X.env.cells scope.names []):=by
 have hs:∀y∈scope.names,y.2=.free->(X.env.cells.lookup y.1).isSome=true:=λy hy e=>by
  obtain⟨c,q⟩:=ϳ _ (hf y hy e);rw[q]
  rfl
 have ZL:∀x,scope.names.lookup x=some .free->X.env.scope.names.lookup x=some .cell:=λx h=>hf (x,.free) (dJ h) rfl;refine⟨Jt hs,hk,hc,hn,λx c h=>Aq hs (λx c z=>by simp at z) h,λx h=>?_,hl,λi x h=>?_⟩
 .cases q:scope.names.lookup x with
  | none=>
    exfalso
    have:(relabel scope X.env).names.lookup x=none:=by
     unfold relabel;dsimp only
     revert q
     generalize scope.names=l
     induction l with
     | nil=>intro _;rfl
     | cons y l ih=>
       obtain⟨n,k⟩:=y;intro q;rw[cH]at q;cases z:x==n with
       | true=>rw[z]at q;cases q
       | false=>
         rw[z]at q;rw[aH];dsimp only;by_cases w:(k==NameKind.free&&X.env.scope.kind==.function&&X.env.kindOf n==some .cell)=true
         .rw[aj w,cH,z];exact ih q
         .rw[ag w,cH,z];exact ih q
    rw[this]at h;rcases h with h|h<;>cases h
  | some k=>
    have r:(relabel scope X.env).names.lookup x=some _:=qE (env:=X.env) q;cases k with
    | free=>exact zr (.inr (dJ q))
    | cell=>exact absurd rfl (hc _ (dJ q))
    | _=>
      rw[r]at h;simp at h
 .have hi:i<js.length:=by
   have:=(aq.mp h).1
   lia
  obtain⟨y,j,e1,e2,e3,e4⟩:=hU i hi;rw[h]at e1;cases e1;have fc:=ZL x e4;refine⟨j,e2,e3,fc,?_⟩;have r:(relabel scope X.env).names.lookup x=some _:=qE (env:=X.env) e4;rw[r];have:X.env.kindOf x=some .cell:=fc;rw[this,hX]
  rfl
theorem Jj:∀{ns:List Int}{us:List Value},Vals (ns.map V.int) us->IntsAre us ns
 | [],_,h=>by cases h;exact .nil
 | n::ns,_,h=>by
   cases h with
   | cons r t=>
     obtain⟨k,rfl⟩:=(show ∃t,_=Value.int n t from r);exact .cons n k (Jj t)
theorem IC:∀{ns:List Int}{us:List Value},IntsAre us ns->Vals (ns.map V.int) us
 | _,_,.nil=>.nil
 | _,_,.cons n t r=>.cons ⟨t,rfl⟩ (IC r)
section
variable{X:Cx}
theorem Hx:kR X (.builtin "sorted") (λxs H Q=>∃(p:Addr)(ns:List Int),xs=[.ref p]/\μ X.K H p (ns.map V.int)/\ns.length<64/\∀(l:Addr)(zs:List Int),H l=none->zs.Perm ns->zs.Pairwise (·<=·)->Q (.ref l) (upd H l (.lst (zs.map V.int)))):=by
 intro pins s σ H xs us Q I r h;obtain⟨p,ns,rfl,hp,h64,q⟩:=h;obtain⟨u,rfl,ru⟩:=sy r;cases ru;obtain⟨its,rv,pl,hz⟩:=I.list hp;have hi:=Jj rv;have e1:=IntsAre.length hi;refine sorted_ints pl.isList hi (by lia) λout zs a1 a2 a3=>?_;obtain⟨e,he⟩:=sortedAll_at s.heap its out;have hn:H (s.heap.objs.size+1)=none:=I.τ.fresh (fe _);have ln:zs.length=ns.length:=a2.length_eq;refine⟨.ref (s.heap.objs.size+1),_,I.laid (a:=s.heap.objs.size+1) (o:=.lst (zs.map V.int)) (t':=s.toks) (λb o e=>sortedAll_old e) (fe _) ⟨?_,out.toList,e,IC a1,?_⟩,rfl,q _ zs hn a2 a3⟩
 .rw[ah,ln];exact bN (by lia)
 .exact he
end
theorem Rk{K:PySem.W.Frag}{C T:Addr}{c0:Value}{dd:Option Addr}{cd:ClassData}{sl:Array (Option Value)}(h:K.lookup C=some ⟨c0,dd,.cls cd,sl⟩)(m:cd.mro=.ref C::.ref T::bmV)(C':Addr):PySem.W.mroIn K C (.ref C')=some (decide (C'=C)||decide (C'=T)):=by
 unfold PySem.W.mroIn PySem.W.clsIn;rw[h];simp only[iK,m,List.isEmpty_cons,bR,if_false]
 congr 1
 by_cases h1:C'=C
 .subst h1;simp
 .by_cases h2:C'=T
  .subst h2;simp
  .have a:(Value.ref C'==Value.ref C)=false:=(by simpa using h1);have b:(Value.ref C'==Value.ref T)=false:=(by simpa using h2);simp[eJ,a,b,h1,h2]
structure Ο(K:PySem.W.Frag)(T C:Addr):Prop where
 x:iS K C
 mr:∀C',PySem.W.mroIn K C (.ref C')=some (decide (C'=C)||decide (C'=T))
 mv:PySem.W.mroIn K C (.type "ValueError")=some true
theorem B3{K:PySem.W.Frag}{C:Addr}{c0:Value}{dd:Option Addr}{cd:ClassData}{sl:Array (Option Value)}{r:List Value}(h:K.lookup C=some ⟨c0,dd,.cls cd,sl⟩)(m:cd.mro=.ref C::r){v:Value}(hv:(Value.ref C::r).contains v=true):PySem.W.mroIn K C v=some true:=by
 unfold PySem.W.mroIn PySem.W.clsIn;rw[h];simp only[iK,m,List.isEmpty_cons,bR,if_false,hv]
section
variable{K:PySem.W.Frag}{T C:Addr}{c0:Value}{dd:Option Addr}{cd:ClassData}{sl:Array (Option Value)}
theorem Jc{r:List Value}(h1:PySem.W.typeIn K (.ref C)=some (.type "type"))(h2:PySem.W.findIn K (.ref C) "__getattribute__"=some (some (.builtin "BaseException.__getattribute__")))(h3:PySem.W.findIn K (.ref C) "__getattr__"=some none)(h4:PySem.W.findIn K (.ref C) "__class__"=some (some (.builtin "object.__class__")))(h5:PySem.W.specialIn K (.builtin "object.__class__") "__get__"=some (some (.builtin "getset_descriptor.__get__")))(h6:PySem.W.takesIn K (.builtin "object.__class__")=some true)(h7:PySem.W.hasDictIn K C=true)(h:K.lookup C=some ⟨c0,dd,.cls cd,sl⟩)(m:cd.mro=.ref C::r)(a:r.contains (.type "object")=true)(b:r.contains (.type "BaseException")=true):iS K C:=⟨h1,h2,h3,h4,h5,h6,B3 h m (by rw[eJ,a,kX]),B3 h m (by rw[eJ,b,kX]),h7,B3 h m (by simp)⟩
structure acT(K:PySem.W.Frag)(T:Addr):Prop where
 x:iS K T
theorem Rc(h1:PySem.W.typeIn K (.ref C)=some (.type "type"))(h2:PySem.W.findIn K (.ref C) "__getattribute__"=some (some (.builtin "BaseException.__getattribute__")))(h3:PySem.W.findIn K (.ref C) "__getattr__"=some none)(h4:PySem.W.findIn K (.ref C) "__class__"=some (some (.builtin "object.__class__")))(h5:PySem.W.specialIn K (.builtin "object.__class__") "__get__"=some (some (.builtin "getset_descriptor.__get__")))(h6:PySem.W.takesIn K (.builtin "object.__class__")=some true)(h7:PySem.W.hasDictIn K C=true)(h:K.lookup C=some ⟨c0,dd,.cls cd,sl⟩)(m:cd.mro=.ref C::bmV):acT K C:=⟨Jc h1 h2 h3 h4 h5 h6 h7 h m (by decide +kernel) (by decide +kernel)⟩
theorem QZ(h1:PySem.W.typeIn K (.ref C)=some (.type "type"))(h2:PySem.W.findIn K (.ref C) "__getattribute__"=some (some (.builtin "BaseException.__getattribute__")))(h3:PySem.W.findIn K (.ref C) "__getattr__"=some none)(h4:PySem.W.findIn K (.ref C) "__class__"=some (some (.builtin "object.__class__")))(h5:PySem.W.specialIn K (.builtin "object.__class__") "__get__"=some (some (.builtin "getset_descriptor.__get__")))(h6:PySem.W.takesIn K (.builtin "object.__class__")=some true)(h7:PySem.W.hasDictIn K C=true)(h:K.lookup C=some ⟨c0,dd,.cls cd,sl⟩)(m:cd.mro=.ref C::.ref T::bmV):Ο K T C:=by
 have a:(Value.ref T::bmV).contains (.type "object")=true:=by rw[eJ];simp[bmV]
 have b:(Value.ref T::bmV).contains (.type "BaseException")=true:=by rw[eJ];simp[bmV]
 have c:(Value.ref T::bmV).contains (.type "ValueError")=true:=by rw[eJ];simp[bmV]
 exact⟨Jc h1 h2 h3 h4 h5 h6 h7 h m a b,Rk h m,B3 h m (by rw[eJ,c,kX])⟩
end
section
variable{P:Program}{w:World}{K:PySem.W.Frag}{mg:Str->Option Value}{base:Heap}
theorem Y8.XQ{x qual:Str}{st:Stmt}{f:Addr}{fd:FuncData}{N ps:List Str}{k:Nat}{sp:Sp}(F:Y8 K x qual st f fd)(S:ζ N ps (aJ st))(len:∀vs H Q E,sp vs H Q E->vs.length=ps.length)(YB:∀(ς:Value) (A:Around) (outer:List Env) (s:Shared) (H:Hp) (vs:List V) (Q:VK) (E:XK),Ι k (A.deeper (envOfC qual (aJ st) s.heap.objs.size f ς))->sp vs H Q E->∃t,Y0 (rG (ψ P w) P w K mg base N qual (aJ st) f ς A outer s H E) (gM st) t/\t { nx:=λ_ H'=>Q .ο H',rt:=Q } (start N vs) H):Ω P w K mg base (ψ P w) (k+1) f fd ps sp:=by
 obtain⟨oc,od,kV,doc,pm,an,ς,ct,osl,rfl,lk,ZF⟩:=F.ex;exact QF lk ZF S len λA outer s H vs Q E hr hsp=>YB ς A outer s H vs Q E hr hsp
end
theorem DC{C:Addr}{E:XK}{t:TA}{D:Ends}{σ:St}{H:Hp}:MO C E t D σ H=t σ H λvs H1=>vs.length<=sizeLine/\E (.ref C) none H1:=rfl
theorem Iy{tb:(St->XK)->TS}{th:TH}{D:Ends}{σ:St}{H:Hp}:OC tb th D σ H=tb (λσ' cls od H'=>th D σ' cls od H') D σ H:=rfl
theorem Gb{K:PySem.W.Frag}{C':Addr}{i:Nat}{ts:TS}{tr:TH}{D:Ends}{σ:St}{cls:Value}{od:Option Addr}{H:Hp}:QD K C' i ts tr D σ cls od H=∃C b,cls=.ref C/\PySem.W.mroIn K C (.ref C')=some b/\if b=true then ∀ea,H ea=none->ts (D.less i) (σ.set i (some (.ref ea))) (upd H ea (Y1 ea cls od))else tr D σ cls od H:=rfl
theorem DU:bootBuiltins "ValueError"=some (.type "ValueError"):=by decide +kernel
theorem vC{K:PySem.W.Frag}{H:Hp}{ea C C' Tl:Addr}{od:Option Addr}{Q:VK}(he:H ea=some (Y1 ea (.ref C) od))(hd:AZ H od)(xe:Ο K Tl C)(x':Ο K Tl C')(ne:C'≠Tl)(q:Q (.bl (decide (C'=C))) H):Ko K [.ref ea,.ref C'] H Q:=by
 refine⟨ea,C,od,.ref C',decide (C'=C),rfl,he,hd,xe.x,⟨x'.x,?_⟩,q⟩;rw[xe.mr,aQ ne,m3]
theorem Re{K:PySem.W.Frag}{H:Hp}{ea C Tl:Addr}{od:Option Addr}{Q:VK}(he:H ea=some (Y1 ea (.ref C) od))(hd:AZ H od)(xe:Ο K Tl C)(q:Q (.bl true) H):Ko K [.ref ea,.ty "ValueError"] H Q:=⟨ea,C,od,.ty "ValueError",true,rfl,he,hd,xe.x,⟨by decide +kernel,xe.mv⟩,q⟩
theorem W2{H:Hp}{l b:Addr}{xs zs:List V}{Q:VK}(h1:H l=some (.lst xs))(h2:H b=some (.lst zs))(hz:xs.length+zs.length<=sizeLine)(q:∀p,H p=none->Q (.ref p) (upd H p (.lst (xs++zs)))):aer (.ref l) (.ref b) H Q:=⟨l,b,xs,zs,rfl,rfl,h1,h2,hz,q⟩
theorem δ.put{H H':Hp}{l:Addr}(e:δ H H')(n:H l=none)(o:HO):δ H (upd H' l o):=λb u h=>by rw[aO (bQ h n)];exact e b u h
theorem sY(i:Int):∀ns:List Int,inV (.int i) (ns.map V.int)=decide (i∈ns)
 | []=>by simp[inV]
 | n::ns=>by
   have ih:=sY i ns;unfold inV at ih ⊢;rw[aH,gL,ih];have e:eqV (.int n) (.int i)=decide (n=i):=by first|rfl|simp[eqV]
   rw[e];by_cases h:i=n
   .subst h;simp
   .simp[h,Ne.symm h]
theorem ut:∀ns:List Int,(ns.map V.int).all sB=true
 | []=>rfl
 | n::ns=>by rw[aH,mZ,ut ns];rfl
theorem NJ{M:Model}{A:Around}{E:Value->Shared->Prop}{s:Shared}{env:Env}{x:Str}{px:Pos}{v:Value}{Q:Unit->Shared->Prop}(h:wpAny M A (storeName env x v) Q E s):wpAny M A (assign (.Name x px) env v) Q E s:=by
 show wpAny M A (do standAt px;bindName env x v) Q E s;exact ak (iu (wpAny_bindName h))
section
variable{X:Cx}{Nc:List Str}{own:Nat}{js:List Nat}{scope:Scope}{cl:List (Str×Addr)}
theorem wc{i:Nat}{x:Str}{px pos:Pos}{elt target iter:Expr}{ifs:List Expr}{Υ:Pos}{wi:TI}{g:TG}{tc:TT}{te:TE}(hN:X.N.Nodup)(hxi:X.N[i]?=some x)(hxl:X.env.scope.names.lookup x=some .local)(hc:X.calm=true)(T:ϝ X Nc own js scope cl)(hi:PI X target iter wi)(hg:∀C s₂ H₁ fp,PG (X.comp Nc scope cl C s₂ H₁ fp) target g)(ht:∀C s₂ H₁ fp,PTs (X.comp Nc scope cl C s₂ H₁ fp) ifs tc)(he:∀C s₂ H₁ fp,PE (X.comp Nc scope cl C s₂ H₁ fp) elt te)(hs:∀x,foldedSetIterable iter X.env x=pure x:=by intro _;rfl)(hsw:swapsWith (.ListComp elt [⟨target,iter,ifs,0⟩] scope Υ) (some (.Name x px)) pos.line X.env=pure true:=by rfl):PS X (.Assign [.Name x px] (.ListComp elt [⟨target,iter,ifs,0⟩] scope Υ) pos) (Ck (Ks own js wi g tc te) (vU i)):=by
 intro pins s σ H D I h;rw[exec_Assign_Name_used _ _ _ _ hsw];refine ak (iu (ak ?_));rw[arm_evalThenUse_ListComp];refine ak ?_;refine wpAny_comprehension_free (use:=some (assign (.Name x px) X.env)) rfl hs T.acK T.kind T.names (Ψ (hi pins s σ H _ I h) λv s1 h1=>Ψ h1 λitv s2 h2=>?_);obtain⟨it,fp,tn,J,H1,rfl,I1,Tn,st,f1,R⟩:=h2;have hfp:∀b∈fp,b<s2.heap.objs.size:=λb hb=>let ⟨o,e,_⟩:=Tn.obj _ _ st b hb;aG e;refine fD (wpAny_newFunctionEnv T.Y9 (by intro y hy;simp at hy) (λh₁ Ϲ Ϟ=>?_) T.kind);dsimp only at Ϲ Ϟ ⊢;generalize hH2:s2.heap.push { cls:=.type "list",dict:=none,data:=.seq ([]:List Value).toArray }=H2 at Ϲ Ϟ ⊢;have hC:H2.objs.size=s2.heap.objs.size+1:=by rw[<-hH2,dF]
 have hDC:s2.heap.objs.size≠H2.objs.size:=by rw[hC];exact aV (eU _)
 have Xu:s2.heap.objs.size<=H2.objs.size:=by rw[hC];exact fe _
 have cR:∀b,b<s2.heap.objs.size->b≠H2.objs.size:=λb hb=>by rw[hC];exact aV (fE hb)
 have old:∀b o,s2.heap.get? b=some o->h₁.get? b=some o:=λb o e=>Ϟ.extBut b o (cR b (aG e)) (aw _ (hH2▸aw _ e));have iN:∃n,h₁.get? s2.heap.objs.size=some { cls:=.type "list",data:=.seq ([]:List Value).toArray n }:=⟨_,Ϟ.extBut _ _ hDC (aw _ (hH2▸ba _ rfl))⟩;have YF:tn 0 h₁:=Tn.keep _ _ _ st λb _ o e=>old b o e;obtain⟨W,⟨m0,w0⟩,turn⟩:=R s2.heap.objs.size I1.fresh;have Ic:=Gg (t:=s2.toks+([]:List (Str×Value)).length) T I1 Xu (aA _) hDC f1 hfp old Ϲ iN;generalize hXc:X.comp Nc scope cl H2.objs.size s2 H1 fp=Xc at Ic;have stat:∀{H':Hp},(∀b∈fp,H' b=none)->∀b∈fp,oV Xc [] H' b:=λ{H'} hn b hb=>by
  subst hXc;exact⟨hn b hb,cR b (hfp b hb),(CT T I1 Xu f1 hfp).X5 b hb,.inl hb,λx c e=>(f1 b hb).2.2.2.2.1 x c (T.cells x c e),λp hp=>by cases hp⟩
 have fr0:∀b∈fp,upd H1 s2.heap.objs.size (.lst []) b=none:=λb hb=>by
  rw[aO (aV (hfp b hb))];exact(f1 b hb).1
 have aez:Xc.calm=true:=by subst hXc;exact hc
 have loop:∀s₃:Shared,s₃={ s2 with heap:=h₁,toks:=s2.toks+([]:List (Str×Value)).length }->codeAny (model X.prog X.w) X.A (.compLoop (.ListComp elt [⟨target,iter,ifs,0⟩] scope Υ) 0 (.ref it) (.ref s2.heap.objs.size) (compEnvC scope cl H2.objs.size X.env))
  (compPost (model X.prog X.w) X.A X.xe (some (assign (.Name x px) X.env)) (λ_ s'=>wpAny (model X.prog X.w) X.A (pure ()) (λ_ s''=>wpAny (model X.prog X.w) X.A (pure Flow.next) (SP X pins D) X.xe s'') X.xe s') (.ref s2.heap.objs.size) H2.objs.size) s₃:=by
  rintro s₃ rfl;refine yU (λn s'=>∃i ys σ' H',Inv Xc [] σ' H' s'/\tn i s'.heap/\(∀b∈fp,H' b=none)/\W i n ys σ' H') ?_ m0 ⟨0,[],_,_,Ic,YF,fr0,w0⟩;rintro n s3 ⟨i,ys,σ3,H3,I3,st3,fr3,w3⟩;rcases turn i n ys σ3 H3 w3 with⟨stop,q⟩|⟨go,step⟩
  .subst hXc;refine Ψ (Tn.done (X.comp Nc scope cl H2.objs.size s2 H1 fp) rfl rfl rfl hc i [] s3 σ3 H3 _ I3 (stat fr3) st3 stop) λr s4 ⟨hr,I4⟩=>?_;subst hr;obtain⟨m4,hn4,_⟩:=id I4.loc;have J:=Ds I1 Xu f1 I4 (h':=s4.heap) (Heap.SameBut.refl _ _);have cl0:H2.objs.size≠X.env.locals:=eL (aW I1.lt Xu);have cy:X.s₀.heap.objs.size<=H2.objs.size:=aU I1.sz Xu;have cc:∀y c,X.env.cells.lookup y=some c->c≠H2.objs.size:=λy c e=>by
    obtain⟨v',o',Yx,_⟩:=I1.cell y c e;exact aV (aW (aG Yx) Xu)
   have cp:∀p∈X.pn++pins,p.1≠H2.objs.size:=λp hp=>by
    obtain⟨Yx,_⟩:=I1.pin p hp;exact aV (aW (aG Yx) Xu)
   refine NJ (DF (v:=.ref s2.heap.objs.size) J hN hxi (.inl hxl) rfl (λs5 I5 ⟨ad,sb,had⟩=>?_) (.inr hxl));have nad:H2.objs.size≠ad:=by
    rcases had with rfl|had
    .exact cl0
    .exact(cc _ _ had).symm
   obtain⟨oo,es,ep,e1,e2⟩:=hn4;refine⟨m4,⟨oo,es,ep,(sb.2 _ nad).trans e1,e2⟩,λh' hs'=>aR (aR ⟨_,H3,?_,q⟩)⟩;exact I5.turned (it:=H2.objs.size) (t':=s5.toks) (λb o n e=>hs'.extBut b o n e) I4.free cl0 (.inr cy) cc cp
  .subst hXc;refine Ψ (Tn.item (X.comp Nc scope cl H2.objs.size s2 H1 fp) rfl rfl rfl hc i [] s3 σ3 H3 _ I3 (stat fr3) st3 go) λr s4 ⟨u,hr,h4⟩=>?_;subst hr;refine Ψ h4 λ_ s5 ⟨x,H5,I5,r5,y5,st5,fr5⟩=>?_;have I5':=I5.pinned (stat fr5) (Tn.obj _ _ st5);have back:∀{σ7:St}{H7:Hp}{s7:Shared},Inv (X.comp Nc scope cl H2.objs.size s2 H1 fp) ([]++ve fp s5.heap) σ7 H7 s7->Inv (X.comp Nc scope cl H2.objs.size s2 H1 fp) [] σ7 H7 s7/\tn (i+1) s7.heap/\∀b∈fp,H7 b=none:=λ{σ7 H7 s7} I7=>by
    refine⟨I7.Ϧ,Tn.keep _ _ _ st5 λb hb o e=>(I7.pin (b,o) (aY _ (aY _ (nR hb e)))).1,λb hb=>?_⟩;obtain⟨o,e,d⟩:=Tn.obj _ _ st5 b hb;exact(I7.pin (b,o) (aY _ (aY _ (nR hb e)))).2.1
   refine Ψ (hg _ _ _ _ _ s5 σ3 H5 x u _ I5' r5 (step x H5 y5)) λ_ s6 ⟨σ6,H6,I6,q6⟩=>?_;refine CU (ht _ _ _ _ _ s6 σ6 H6 _ I6 q6) λok s7 H7 I7 q7=>?_;cases ok with
   | false=>
     rw[ag bh]at q7 ⊢;obtain⟨m',hm,w7⟩:=q7;obtain⟨J1,J2,J3⟩:=back I7;exact⟨m',hm,i+1,ys,σ6,H7,J1,J2,J3,w7⟩
   | true=>
     rw[aj rfl]at q7 ⊢;refine d5 (he _ _ _ _ _ s7 σ6 H7 _ I7 q7) λy s8 yv H8 I8 r8 ⟨hp8,hl8,m',hm,w8⟩=>?_;refine Ψ (fY _ s8 σ6 H8 (.ref s2.heap.objs.size) [yv] _ [y] (λv' H'=>W (i+1) m' (ys++[yv]) σ6 H') I8 rfl (.cons r8 .nil) ⟨_,ys,yv,rfl,rfl,hp8,hl8,w8⟩) λv9 s9 ⟨_,H9,I9,_,w9⟩=>?_;obtain⟨J1,J2,J3⟩:=back I9;exact⟨m',hm,i+1,ys++[yv],σ6,H9,J1,J2,J3,w9⟩
 exact codeAny_compStart_list (loop _ rfl) (Tn.self _ 0 _ _ _ YF (loop _ rfl))
end
theorem tH{K:PySem.W.Frag}{H:Hp}:∀ns:List Int,Ξ K H (ns.map V.int) (ns.map PyData.int)
 | []=>.nil
 | n::ns=>.cons (.int n) (tH ns)
theorem Dp{K:PySem.W.Frag}{H:Hp}{l:Addr}{ns:List Int}(h:H l=some (.lst (ns.map V.int))):Ϻ K H (.ref l) (.list (ns.map PyData.int)):=.lst (μ.of h) (tH ns)
theorem ze:∀ns:List Int,PyData.eqvAll (ns.map PyData.int) (ns.map PyData.int)=true
 | []=>by simp[PyData.eqvAll]
 | n::ns=>by
   simp only[aH,PyData.eqvAll];rw[ze ns];simp[PyData.eqv]
theorem Nu(ns:List Int):PyData.eqv (.list (ns.map PyData.int)) (.list (ns.map PyData.int))=true:=by
 simp only[PyData.eqv];exact ze ns
theorem rR:∀ns:List Int,PyData.depthAll (ns.map PyData.int)<=1
 | []=>by simp[PyData.depthAll]
 | n::ns=>by
   simp only[aH,PyData.depthAll];have:=rR ns;have:(PyData.int n).depth<=1:=by simp[PyData.depth]
   lia
theorem Ke(ns:List Int):(PyData.list (ns.map PyData.int)).depth<=40:=by
 simp only[PyData.depth];have:=rR ns
 lia
theorem O1{K:PySem.W.Frag}{H:Hp}{a b:Addr}{ns:List Int}{Q:VK}(ha:H a=some (.lst (ns.map V.int)))(hb:H b=some (.lst (ns.map V.int)))(q:Q (.bl false) H):SC K (.ref a) (.ref b) H Q:=⟨_,_,Dp ha,Dp hb,Ke ns,by rw[Nu];exact q⟩
end L2
namespace Pb
open L2 PySem
def front(r:Int)(par:Int->Int)(p:Int):V:=if p=r then .ο else .int (par p)
def bP(m:Int)(rs:List Road)(fv:V)(p:Int):List Int:=(lO m rs p).filter λv=>decide (V.int v≠fv)
variable{m:Int}{rs:List Road}{r:Int}{par:Int->Int}{dep:Int->Nat}
theorem ε.ne(R:ε m rs r par dep){v:Int}(h0:0<=v)(h1:v<m)(hr:v≠r):par v≠v:=λz=>by
 have:=(R.up v h0 h1 hr).2.2;rw[z]at this
 lia
theorem bO(g:Good m rs)(R:ε m rs r par dep){p v:Int}(p0:0<=p)(p1:p<m):v∈bP m rs (front r par p) p↔(0<=v/\v<m)/\v≠r/\par v=p:=by
 unfold bP;rw[b5,FF g,bK]
 constructor
 .rintro⟨ad,hf⟩;obtain⟨_,hv,_⟩:=g.adj ad;refine⟨hv,?_⟩;obtain⟨x,hx,j⟩:=ad;have key:∀u w:Int,(u≠r/\par u=w)\/(w≠r/\par w=u)->u=p->w=v->v≠r/\par v=p:=λu w h e1 e2=>by
   subst e1 e2;rcases h with h|h
   .exfalso
    apply hf;unfold front;rw[ag h.1,h.2]
   .exact h
  rcases j with⟨a,b⟩|⟨a,b⟩
  .exact key x.a x.b (R.road x hx) a b
  .exact key x.b x.a (R.road x hx).symm a b
 .rintro⟨hv,hr,hp⟩;have u:=R.up v hv.1 hv.2 hr;rw[hp]at u;refine⟨?_,λz=>?_⟩
  .obtain⟨x,hx,j⟩:=u.2.1;exact⟨x,hx,j.elim (λq=>.inr ⟨q.2,q.1⟩) (λq=>.inl ⟨q.2,q.1⟩)⟩
  .unfold front at z;by_cases c:p=r
   .rw[aj c]at z;cases z
   .rw[ag c]at z;have e:v=par p:=(by injection z);have w:=(R.up p p0 p1 c).2.2;have w2:=u.2.2;rw[<-e]at w
    lia
theorem pH{fv:V}{p:Int}:(bP m rs fv p).Nodup:=(BC m rs p).filter _
def nl(m:Int)(par:Int->Int)(ks:List Int):List V:=(cR m.toNat).map λv=>if v∈ks then .int (par v)else .ο
def pL(m r:Int)(par:Int->Int):List V:=(cR m.toNat).map (front r par)
theorem t9{ks:List Int}:(nl m par ks).length=m.toNat:=by unfold nl;rw[ah,da]
theorem fZ{n i:Nat}(h:i<n):(cR n)[i]?=some (i:Int):=by unfold cR;rw[aF,fS h];rfl
theorem MR{ks:List Int}{v:Int}(h0:0<=v)(h1:v<m):(nl m par ks)[v.toNat]?=some (if v∈ks then .int (par v)else .ο):=by
 unfold nl;rw[aF,fZ (by lia)];show some (if((v.toNat:Nat):Int)∈ks then V.int (par ((v.toNat:Nat):Int))else V.ο)=_;rw[bH h0]
theorem TZ{ks:List Int}{v:Int}(h0:0<=v)(h1:v<m):(nl m par ks).set v.toNat (.int (par v))=nl m par (ks++[v]):=by
 refine eW λi=>?_;rw[List.getElem?_set];by_cases c:i<m.toNat
 .have e:∀l:List Int,(nl m par l)[i]?=some (if(i:Int)∈l then .int (par (i:Int))else .ο):=λl=>by
   have:=MR (par:=par) (ks:=l) (v:=(i:Int)) (m:=m) (by lia) (by lia)
   rwa [bD]at this
  rw[e,t9];by_cases z:v.toNat=i
  .have z2:v=(i:Int):=(by lia);rw[aj z,aj (by lia),e,aj (by rw[z2];simp),<-z2]
  .rw[ag z,e];have z2:¬((i:Int)=v):=(by lia);simp[z2]
 .have e:∀l:List Int,(nl m par l)[i]?=none:=λl=>bI (by rw[t9];lia);rw[e,e,t9];by_cases z:v.toNat=i
  .lia
  .rw[ag z]
structure ώ(m:Int)(rs:List Road)(r:Int)(par:Int->Int)(ks ws:List Int):Prop where
 nd:ks.Nodup
 Μ:∀k∈ks,0<=k/\k<m
 nr:r∉ks
 sub:∀w∈ws,w=r\/w∈ks
 wnd:ws.Nodup
 ok:∀v∈ks,par v∉ws/\(par v=r\/par v∈ks)
 dn:∀v,0<=v->v<m->v≠r->(par v=r\/par v∈ks)->par v∉ws->v∈ks
theorem ώ.start:ώ m rs r par [] [r] where
 nd:=List.nodup_nil
 Μ:=λ_ h=>by cases h
 nr:=λh=>by cases h
 sub:=λw h=>.inl (aB.mp h)
 wnd:=by simp
 ok:=λ_ h=>by cases h
 dn:=λv _ _ _ h n=>by
  rcases h with h|h
  .exact absurd (by rw[h];simp) n
  .cases h
theorem ώ.at_(J:ώ m rs r par ks ws)(r0:0<=r)(r1:r<m){p:Int}(hp:p∈ws):0<=p/\p<m:=by
 rcases J.sub p hp with h|h
 .rw[h];exact⟨r0,r1⟩
 .exact J.Μ p h
theorem ώ.front(J:ώ m rs r par ks ws){p:Int}(hp:p∈ws):(if p∈ks then V.int (par p)else V.ο)=front r par p:=by
 unfold Pb.front;by_cases c:p=r
 .rw[aj c,ag (by rw[c];exact J.nr)]
 .rw[ag c,aj ((J.sub p hp).resolve_left c)]
theorem ώ.step(g:Good m rs)(R:ε m rs r par dep)(r0:0<=r)(r1:r<m){ks ws ws':List Int}{p:Int}(J:ώ m rs r par ks ws)(e:ws.Perm (p::ws')):ώ m rs r par (ks++bP m rs (Pb.front r par p) p) (ws'++bP m rs (Pb.front r par p) p):=by
 have hp:p∈ws:=e.mem_iff.mpr aK;have pr:=J.at_ r0 r1 hp;have mk:∀v,v∈bP m rs (Pb.front r par p) p↔(0<=v/\v<m)/\v≠r/\par v=p:=λv=>bO g R pr.1 pr.2;have nk:(bP m rs (Pb.front r par p) p).Nodup:=pH;generalize bP m rs (Pb.front r par p) p=kk at mk nk ⊢;have dis:∀v∈kk,v∉ks:=λv hv z=>(J.ok v z).1 (by rw[((mk v).mp hv).2.2];exact hp);obtain⟨n1,n2⟩:=bn.mp (e.nodup_iff.mp J.wnd);have sw:∀w∈ws',w∈ws:=λw hw=>e.mem_iff.mpr (aI _ hw);refine⟨?_,?_,?_,?_,?_,?_,?_⟩
 .rw[fI];exact⟨J.nd,nk,λa ha b hb z=>dis b hb (z▸ha)⟩
 .intro k hk;rcases bc.mp hk with h|h
  .exact J.Μ k h
  .exact((mk k).mp h).1
 .intro z;rcases bc.mp z with h|h
  .exact J.nr h
  .exact((mk r).mp h).2.1 rfl
 .intro w hw;rcases bc.mp hw with h|h
  .exact(J.sub w (sw w h)).imp id (bo _)
  .exact .inr (aY _ h)
 .rw[fI];refine⟨n2,nk,λa ha b hb z=>?_⟩;subst z;rcases J.sub a (sw a ha)with h|h
  .exact((mk a).mp hb).2.1 h
  .exact dis a hb h
 .intro v hv;rcases bc.mp hv with h|h
  .obtain⟨o1,o2⟩:=J.ok v h;refine⟨λz=>?_,o2.imp id (bo _)⟩;rcases bc.mp z with z|z
   .exact o1 (sw _ z)
   .rcases o2 with o|o
    .exact((mk _).mp z).2.1 o
    .exact dis _ z o
  .obtain⟨q1,q2,q3⟩:=(mk v).mp h;rw[q3];refine⟨λz=>?_,(J.sub p hp).imp id (bo _)⟩;rcases bc.mp z with z|z
   .exact n1 z
   .obtain⟨w1,w2,w3⟩:=(mk p).mp z;exact R.ne w1.1 w1.2 w2 w3
 .intro v v0 v1 vr h n;have nk2:par v∉kk:=λz=>n (aY _ z);have h':par v=r\/par v∈ks:=h.imp id λz=>(bc.mp z).resolve_right nk2;by_cases c:par v=p
  .exact aY _ ((mk v).mpr ⟨⟨v0,v1⟩,vr,c⟩)
  .refine bo _ (J.dn v v0 v1 vr h' λz=>?_);rcases ar.mp (e.mem_iff.mp z)with z|z
   .exact c z
   .exact n (bo _ z)
theorem ώ.perm{ks ws ws2:List Int}(J:ώ m rs r par ks ws)(e:ws.Perm ws2):ώ m rs r par ks ws2 where
 nd:=J.nd
 Μ:=J.Μ
 nr:=J.nr
 sub:=λw h=>J.sub w (e.mem_iff.mpr h)
 wnd:=e.nodup_iff.mp J.wnd
 ok:=λv h=>⟨λz=>(J.ok v h).1 (e.mem_iff.mpr z),(J.ok v h).2⟩
 dn:=λv h0 h1 hr h n=>J.dn v h0 h1 hr h λz=>n (e.mem_iff.mp z)
theorem ώ.all(R:ε m rs r par dep){ks:List Int}(J:ώ m rs r par ks []):∀v,0<=v->v<m->v≠r->v∈ks:=by
 have key:∀n v,dep v=n->0<=v->v<m->v≠r->v∈ks:=by
  intro n
  induction n with
  | zero=>
    intro v e v0 v1 vr;have:=(R.up v v0 v1 vr).2.2
    lia
  | succ n ih=>
    intro v e v0 v1 vr;have u:=R.up v v0 v1 vr;refine J.dn v v0 v1 vr ?_ (by simp);by_cases c:par v=r
    .exact .inl c
    .exact .inr (ih (par v) (by lia) u.1.1 u.1.2 c)
 exact λv=>key _ v rfl
theorem ώ.done(R:ε m rs r par dep){ks:List Int}(J:ώ m rs r par ks []):nl m par ks=pL m r par:=by
 unfold nl pL;refine dM λv hv=>?_;have Zm:0<=v/\v<m:=by
  unfold cR at hv;obtain⟨k,hk,rfl⟩:=bu.mp hv;have:=b6.mp hk
  lia
 unfold Pb.front;by_cases c:v=r
 .rw[aj c,ag (by rw[c];exact J.nr)]
 .rw[ag c,aj (J.all R v Zm.1 Zm.2 c)]
theorem GJ(n:Nat)(v:V):(List.replicate n [v]).flatten=List.replicate n v:=by
 induction n with
 | zero=>rfl
 | succ n ih=>rw[cw,eR,ih,cw];rfl
theorem S7:nl m par []=List.replicate m.toNat V.ο:=by
 unfold nl;refine eW λi=>?_;by_cases c:i<m.toNat
 .rw[aF,fZ c,d7,aj c];simp
 .rw[bI (by rw[ah,da];lia),bI (by rw[bT];lia)]
def mU(par:Int->Int):Nat->Int->List Int
 | 0,v=>[v]
 | n+1,v=>v::mU par n (par v)
theorem ε.pos(R:ε m rs r par dep){v:Int}(h0:0<=v)(h1:v<m)(hr:v≠r):dep v=dep (par v)+1:=(R.up v h0 h1 hr).2.2.symm
theorem AB(R:ε m rs r par dep):∀(n:Nat)(v:Int),dep v=n->0<=v->v<m->(mU par n v).Nodup/\(∀x∈mU par n v,(0<=x/\x<m)/\dep x<=n)/\(mU par n v).length=n+1
 | 0,v,e,h0,h1=>⟨by unfold mU;simp,λx hx=>by
  unfold mU at hx;rw[aB.mp hx];exact⟨⟨h0,h1⟩,by lia⟩,rfl⟩
 | n+1,v,e,h0,h1=>by
   have hr:v≠r:=λz=>by rw[z,R.root]at e;lia
   have u:=R.up v h0 h1 hr;obtain⟨i1,i2,i3⟩:=AB R n (par v) (by lia) u.1.1 u.1.2;unfold mU;refine⟨bn.mpr ⟨λz=>?_,i1⟩,λx hx=>?_,by rw[aE,i3]⟩
   .have:=(i2 v z).2
    lia
   .rcases ar.mp hx with rfl|hx
    .exact⟨⟨h0,h1⟩,by lia⟩
    .exact⟨(i2 x hx).1,by have:=(i2 x hx).2;lia⟩
theorem mN(R:ε m rs r par dep){v:Int}(h0:0<=v)(h1:v<m):dep v+1<=m.toNat:=by
 obtain⟨i1,i2,i3⟩:=AB R _ v rfl h0 h1;have:=gx (m:=m) (by lia) i1 λx hx=>(i2 x hx).1
 lia
theorem zz{v:Int}(h0:0<=v)(h1:v<m):(pL m r par)[v.toNat]?=some (front r par v):=by
 unfold pL;rw[aF,fZ (by lia)];show some (front r par ((v.toNat:Nat):Int))=_;rw[bH h0]
theorem lY(g:Good m rs)(R:ε m rs r par dep){v:Int}(h0:0<=v)(h1:v<m)(hr:v≠r):∃k,cX rs v (par v)=some k/\2<=k/\k<=1000000:=by
 obtain⟨x,hx,j⟩:=(R.up v h0 h1 hr).2.1;obtain⟨i,hi⟩:=cL hx;have ok:=g.ok x hx;rw[xk g hi j];unfold jk;by_cases c:x.a=v/\x.b=par v
 .rw[aj c];exact⟨_,rfl,ok.t0,ok.t1⟩
 .rw[ag c];have c2:x.a=par v/\x.b=v:=by
   rcases j with j|j
   .exact absurd j c
   .exact⟨j.2,j.1⟩
  rw[aj c2];exact⟨_,rfl,ok.u0,ok.u1⟩
def rN(m:Int)(rs:List Road)(r:Int)(par:Int->Int):Nat->Int->List Int
 | 0,v=>[v]
 | n+1,v=>v::(bP m rs (front r par v) v).flatMap (rN m rs r par n)
def cW(m:Int)(rs:List Road)(r:Int)(par:Int->Int)(dep:Int->Nat)(v:Int):List Int:=rN m rs r par (m.toNat-1-dep v) v
theorem uS{f h:Int->List Int}:∀{l:List Int},(∀x∈l,f x=h x)->l.flatMap f=l.flatMap h
 | [],_=>rfl
 | a::l,e=>by rw[di,di,e a aK,uS λx hx=>e x (aI _ hx)]
theorem kY(g:Good m rs)(R:ε m rs r par dep){v:Int}(h0:0<=v)(h1:v<m):cW m rs r par dep v=v::(bP m rs (front r par v) v).flatMap (cW m rs r par dep):=by
 have mk:∀u,u∈bP m rs (front r par v) v->(0<=u/\u<m)/\u≠r/\par u=v:=λu=>(bO g R h0 h1).mp;have du:∀u∈bP m rs (front r par v) v,dep u=dep v+1/\dep u+1<=m.toNat:=λu hu=>by
  obtain⟨w1,w2,w3⟩:=mk u hu;have:=R.pos w1.1 w1.2 w2;rw[w3]at this;exact⟨this,mN R w1.1 w1.2⟩
 unfold cW;cases e:m.toNat-1-dep v with
 | zero=>
   have:bP m rs (front r par v) v=[]:=dX.mpr λu hu=>by
    have:=du u hu
    lia
   rw[this]
   rfl
 | succ n=>
   show v::(bP m rs (front r par v) v).flatMap (rN m rs r par n)=_;rw[uS λu hu=>show rN m rs r par n u=rN m rs r par (m.toNat-1-dep u) u by rw[show m.toNat-1-dep u=n by have:=du u hu;lia]]
def up(par:Int->Int):Nat->Int->Int
 | 0,x=>x
 | k+1,x=>par (up par k x)
theorem Bq{f:Int->List Int}:∀{l:List Int},l.Nodup->(∀u∈l,(f u).Nodup)->(∀u∈l,∀w∈l,∀x,x∈f u->x∈f w->u=w)->(l.flatMap f).Nodup
 | [],_,_,_=>by simp
 | a::l,n,h1,h2=>by
   obtain⟨n1,n2⟩:=bn.mp n;rw[di,fI];refine⟨h1 a aK,Bq n2 (λu hu=>h1 u (aI _ hu)) (λu hu w hw=>h2 u (aI _ hu) w (aI _ hw)),λx hx y hy z=>?_⟩;subst z;obtain⟨w,hw,hxw⟩:=gH.mp hy;have:=h2 a aK w (aI _ hw) x hx hxw;exact n1 (this▸hw)
theorem uN(g:Good m rs)(R:ε m rs r par dep):∀(n:Nat)(v:Int),0<=v->v<m->(rN m rs r par n v).Nodup/\∀x∈rN m rs r par n v,(0<=x/\x<m)/\∃k,dep x=dep v+k/\up par k x=v
 | 0,v,h0,h1=>⟨by unfold rN;simp,λx hx=>by
  unfold rN at hx;rw[aB.mp hx];exact⟨⟨h0,h1⟩,0,rfl,rfl⟩⟩
 | n+1,v,h0,h1=>by
   have mk:∀u,u∈bP m rs (front r par v) v->(0<=u/\u<m)/\u≠r/\par u=v:=λu=>(bO g R h0 h1).mp;have nk:(bP m rs (front r par v) v).Nodup:=pH;have ih:=λu hu=>uN g R n u (mk u hu).1.1 (mk u hu).1.2;have du:∀u∈bP m rs (front r par v) v,dep u=dep v+1:=λu hu=>by
    obtain⟨w1,w2,w3⟩:=mk u hu;have:=R.pos w1.1 w1.2 w2;rw[w3]at this;exact this
   unfold rN;refine⟨bn.mpr ⟨λz=>?_,Bq nk (λu hu=>(ih u hu).1) λu hu w hw x hx hy=>?_⟩,λx hx=>?_⟩
   .obtain⟨u,hu,hv⟩:=gH.mp z;obtain⟨_,k,e,_⟩:=(ih u hu).2 v hv;have:=du u hu
    lia
   .obtain⟨_,k1,e1,f1⟩:=(ih u hu).2 x hx;obtain⟨_,k2,e2,f2⟩:=(ih w hw).2 x hy;have d1:=du u hu;have d2:=du w hw;have:k1=k2:=(by lia);rw[<-f1,<-f2,this]
   .rcases ar.mp hx with rfl|hx
    .exact⟨⟨h0,h1⟩,0,rfl,rfl⟩
    .obtain⟨u,hu,hv⟩:=gH.mp hx;obtain⟨xr,k,e,f⟩:=(ih u hu).2 x hv;exact⟨xr,k+1,by rw[e,du u hu];lia,by show par (up par k x)=v;rw[f];exact(mk u hu).2.2⟩
theorem FY(g:Good m rs)(R:ε m rs r par dep){v:Int}(h0:0<=v)(h1:v<m):(cW m rs r par dep v).length<=24:=by
 obtain⟨n1,n2⟩:=uN g R (m.toNat-1-dep v) v h0 h1;have:=gx (m:=m) (by lia) n1 λx hx=>(n2 x hx).1;have:=g.Ζ;unfold cW
 lia
end Pb
namespace L2
open PySem PySem.Spec PyProof.Rows
def Itv(K:PySem.W.Frag)(a:Addr)(n:Nat):It:=⟨λi H=>i<n/\∃xs x,μ K H a xs/\xs[n-1-i]?=some x,λi H x H'=>H'=H/\∀xs,μ K H a xs->xs[n-1-i]?=some x,λi H=>n<=i⟩
theorem P5{P:Program}{w:World}{K:PySem.W.Frag}{tg:Expr}(a it:Addr)(n:Nat):Turn P w K tg (Itv K a n) [it] it (λi h=>i<=n/\h.IsRevIter it a ((n:Int)-1-(i:Int))) where
 mem:=by simp
 obj:=λi h st b hb=>by
  have e:b=it:=by simpa using hb
  subst e;obtain⟨_,o,e,c,d⟩:=st;exact⟨o,e,λv z=>by rw[d]at z;cases z⟩
 keep:=λi h h' st k=>⟨st.1,st.2.at λo e=>k it (by simp) o e⟩
 item:=by
  intro X hP hw hK hc i pins s σ H E I hf st hg;subst hP hw hK;obtain⟨hi,xs,x,hq,hx⟩:=hg;obtain⟨its,rv,p,hz⟩:=I.list hq;obtain⟨u,hu,ru⟩:=rv.get hx;obtain⟨f0,f1,f2,f3,f4,f5⟩:=hf it (by simp);have e0:(n:Int)-1-(i:Int)=((n-1-i:Nat):Int):=by lia
  have ZC:=st.2;rw[e0]at ZC;refine wpAny_pyNext_rev_item ZC p.isList (x:=u) (by simpa using hu) λh' Yz sb=>?_;have I1:Inv X pins σ H { s with heap:=h' }:=I.turned (t':=s.toks) (λb o hb e=>(sb.2 b hb).trans e) f0 f1 f3 f4 f5;obtain⟨o,e,c,d⟩:=id Yz;have e1:((n-1-i:Nat):Int)-1=(n:Int)-1-((i+1:Nat):Int):=by lia
  rw[e1]at Yz;exact⟨u,rfl,EF (s:={ s with heap:=h' }) e c d (by decide) ⟨x,H,I1,ru,⟨rfl,λys hy=>by rw[I.bY hy hq];exact hx⟩,⟨hi,Yz⟩,λb hb=>(hf b hb).1⟩⟩
 done:=by
  intro X hP hw hK hc i pins s σ H E I hf st hg;subst hP hw hK;have hg':n<=i:=hg;obtain⟨f0,f1,f2,f3,f4,f5⟩:=hf it (by simp);have ZC:=st.2;have st1:=st.1;rw[show(n:Int)-1-(i:Int)=-1 by lia]at ZC;exact wpAny_pyNext_rev_end (I.ok.hd hc) ZC λh' eb=>⟨rfl,I.turned (t':=s.toks) (λb o hb e=>eb b o hb e) f0 f1 f3 f4 f5⟩
 self:=λ_ _ _ _ _ st h=>jt st.2 h
def Nm(K:PySem.W.Frag)(tl:TE):TI:=λσ H R=>tl σ H λx H1=>∃a xs,x=.ref a/\μ K H1 a xs/\R (Itv K a xs.length) H1
section
variable{X:Cx}{tg e:Expr}{te:TE}{p2 pos:Pos}
theorem tG(hg:Gl X "reversed")(hm:X.mg "reversed"=none)(he:PE X e te)(h2:starEach [e] X.env=[(false,eval e X.env)]:=by rfl):PI X tg (.Call (.Name "reversed" p2) [e] [] pos) (Nm X.K te):=by
 intro pins s σ H R I h;refine Call_ (nI I hg hm boot_reversed (cD ?_ h2 rfl));rw[h2];show wpAny _ _ (spliced ((false,eval e X.env)::backTo pos [])) _ _ s;refine gB (d5 (he pins s σ H _ I h) λu s1 x H1 I1 r1 q1=>gI ?_);obtain⟨a,ys,ex,sa,q⟩:=q1;subst ex;cases r1;obtain⟨its,rv,pl,hz⟩:=I1.list sa;refine call_reversed_list pl.isList ?_;have sz:its.toArray.size=ys.length:=by rw[aN,rv.length]
 rw[sz];refine jt (i:=(ys.length:Int)-1) (l:=a) ⟨_,ba _ rfl,rfl,rfl⟩ ?_;refine⟨s1.heap.objs.size,[s1.heap.objs.size],_,_,H1,rfl,I1.kept (t':=s1.toks) λb o e=>aw _ e,P5 a _ ys.length,⟨bz _,?_⟩,λb hb=>?_,q⟩
 .exact⟨_,ba _ rfl,rfl,by simp[revObj]⟩
 .have e:b=s1.heap.objs.size:=by simpa using hb
  subst e;exact I1.ZG (aA _) (I1.τ.fresh (aA _))
end
theorem qD{K:PySem.W.Frag}{a:Addr}{xs:List V}{g:TG}{tb:TS}{D:Ends}{σ:St}{H:Hp}(Pv:Nat->St->Hp->Prop)(h0:Pv 0 σ H)(hl:∀i σ H,i<=xs.length->Pv i σ H->μ K H a xs)(hs:∀(i:Nat) (x:V) (σ:St) (H:Hp) (N:St->Hp->Prop),(∀σ' H',Pv (i+1) σ' H'->N σ' H')->xs.reverse[i]?=some x->Pv i σ H->g x σ H λσ2 H2=>tb { D with nx:=N,ct:=N,bk:=D.nx } σ2 H2)(hd:∀σ H,Pv xs.length σ H->D.nx σ H):si (Itv K a xs.length) D g tb σ H:=by
 refine⟨λi m σ H=>m=xs.length-i/\i<=xs.length/\Pv i σ H,⟨xs.length,by simp,bz _,h0⟩,?_⟩;rintro i m σ H ⟨rfl,hi,p⟩;have q:=hl i σ H hi p;by_cases Χ:i<xs.length
 .have hx:xs[xs.length-1-i]?=some xs[xs.length-1-i]:=ap (by lia);refine .inr ⟨⟨Χ,xs,_,q,hx⟩,λσ' H'=>∃m',m'<xs.length-i/\(m'=xs.length-(i+1)/\i+1<=xs.length/\Pv (i+1) σ' H'),λσ' H' z=>z,λx H' y=>?_⟩;obtain⟨e,y⟩:=y;subst e;exact hs i x σ _ _ (λσ' H' p'=>⟨xs.length-(i+1),by lia,rfl,Χ,p'⟩) (by rw[cB Χ];exact y xs q) p
 .have e:i=xs.length:=by lia
  subst e;exact .inl ⟨aA _,hd σ H p⟩
theorem y8(ns:List Int):∀n,n<=ns.length->preSum (λi=>ns.getD i 0) n=(ns.take n).sum
 | 0,_=>by simp[preSum]
 | n+1,h=>by
   have ih:=y8 ns n (by lia);have hn:n<ns.length:=by lia
   rw[bL,ap hn,eE,<-ih];simp[preSum,List.getD,hn]
section
variable{X:Cx}
theorem ES(hc:X.calm=true):kR X (.builtin "sum") (λxs H Q=>∃(p:Addr)(ns:List Int),xs=[.ref p]/\(μ X.K H p (ns.map V.int)\/Η X.K H p (ns.map V.int))/\Q (.int ns.sum) H):=by
 intro pins s σ H xs us Q I r h;obtain⟨p,ns,rfl,hp,q⟩:=h;obtain⟨u,rfl,ru⟩:=sy r;cases ru;have hh:X.A.in1.handled=none:=I.ok.hd hc;have vals:∀{its:List Value},Vals (ns.map V.int) its->its.length=ns.length/\∀(i:Nat)(v:Value),its.toArray[i]?=some v->∃t,v=Value.int (ns.getD i 0) t:=by
  intro its rv;have hlen:its.length=ns.length:=by rw[<-rv.length,ah]
  refine⟨hlen,λi v hP=>?_⟩;have hi:its[i]?=some v:=by simpa using hP
  have hib:i<ns.length:=by rw[<-hlen];exact(aq.mp hi).1
  obtain⟨u,hu,ru⟩:=rv.get (i:=i) (x:=V.int ns[i]) (by rw[aF,ap hib];rfl);rw[hi]at hu;cases hu;obtain⟨t,e⟩:=(show ∃t,v=Value.int ns[i] t from ru);exact⟨t,by rw[e];simp[List.getD,hib]⟩
 have fin:∀{n:Nat},n=ns.length->preSum (λi=>ns.getD i 0) n=ns.sum:=λ{n} e=>by rw[y8 ns n (by lia),dh (by lia)]
 rcases hp with hp|hp
 .obtain⟨its,rv,pl,hz⟩:=I.list hp;obtain⟨hlen,hv⟩:=vals rv;have hl:=pl.isList;have Χ:=pl.lt;refine call_sum_walkG (gm hl ?_);refine⟨s.heap.objs.size,[s.heap.objs.size,p],[s.heap.objs.size],its.toArray.size,_,_,λi=>ns.getD i 0,rfl,Walks.list (A:=X.A.in1) hh _ p (aV Χ) its.toArray,⟨⟨_,ba _ rfl,rfl,rfl⟩,hl.push _⟩,λb hb=>?_,λi v hP=>hv i v hP,λh' tk t' hk=>?_⟩
  .simp only[Heap.push,mD];rcases ar.mp hb with e|e
   .rw[e];exact eU _
   .rw[aB.mp e];exact fE Χ
  .have kk:∀b o,s.heap.get? b=some o->h'.get? b=some o:=λb o eb=>hk b o (λhm=>by rw[aB.mp hm]at eb;exact cG _ (aG eb)) (aw _ eb);rw[fin (by rw[aN,hlen])];exact⟨.int _,H,I.kept (t':=tk) kk,⟨t',rfl⟩,q⟩
 .obtain⟨its,rv,pl,hz⟩:=I.tuple hp;obtain⟨hlen,hv⟩:=vals rv;have hl:s.heap.IsTuple p its.toArray:=pl;have Χ:p<s.heap.objs.size:=by
   obtain⟨o,e,_⟩:=id hl;exact aG e
  refine call_sum_walkG (j4 hl ?_);refine⟨s.heap.objs.size,[s.heap.objs.size,p],[s.heap.objs.size],its.toArray.size,_,_,λi=>ns.getD i 0,rfl,Walks.tuple (A:=X.A.in1) hh _ p (aV Χ) its.toArray,⟨⟨_,ba _ rfl,rfl,rfl⟩,hl.push _⟩,λb hb=>?_,λi v hP=>hv i v hP,λh' tk t' hk=>?_⟩
  .simp only[Heap.push,mD];rcases ar.mp hb with e|e
   .rw[e];exact eU _
   .rw[aB.mp e];exact fE Χ
  .have kk:∀b o,s.heap.get? b=some o->h'.get? b=some o:=λb o eb=>hk b o (λhm=>by rw[aB.mp hm]at eb;exact cG _ (aG eb)) (aw _ eb);rw[fin (by rw[aN,hlen])];exact⟨.int _,H,I.kept (t':=tk) kk,⟨t',rfl⟩,q⟩
end
theorem Jh{X:Cx}(K:PySem.W.Frag)(hK:X.K=K){es:List Expr}{k:Nat}{pos:Pos}{t:TGs}{n:Nat}(hc:X.calm=true)(h:PGs X es t)(hn:(assignEach es X.env).length=n:=by rfl)(ZT:(assignEach es X.env).findIdx? (·.1)=none:=by rfl):PG X (.Tuple es k pos) (KO K n t):=by
 subst hK;exact jo hc h hn ZT
theorem OD{K:PySem.W.Frag}{c d:Bool}{a b p:Addr}{xs zs:List V}{Q:VK}{g:TG}{tc:TT}{te:TE}{σ0:St}{H0:Hp}(Pv:Nat->List V->St->Hp->Prop)(h0:Pv 0 [] σ0 H0)(hl:∀i ys σ H,Pv i ys σ H->ϧ K c H a xs/\ϧ K d H b zs)(hs:∀(i:Nat) (x z:V) (ys:List V) (σ:St) (H:Hp) (q:Addr) (N:List V->St->Hp->Prop),(∀aC σ' H',Pv (i+1) aC σ' H'->N aC σ' H')->xs[i]?=some x->zs[i]?=some z->Pv i ys σ H->H q=none->g (.ref q) σ (upd H q (.tup [x,z])) λσ2 H2=>tc σ2 H2 λb H3=>
 if b=true then te σ2 H3 λy H4=>H4 p=some (.lst ys)/\ys.length<sizeLine/\N (ys++[y]) σ2 (upd H4 p (.lst (ys++[y])))else N ys σ2 H3)(hd:∀ys σ H,Pv (min xs.length zs.length) ys σ H->Q (.ref p) H):vc (Itz K c d a b) p Q g tc te σ0 H0:=by
 refine⟨λi m ys σ H=>m=min xs.length zs.length-i/\i<=min xs.length zs.length/\Pv i ys σ H,⟨_,rfl,bz _,h0⟩,?_⟩;rintro i m ys σ H ⟨rfl,hi,pv⟩;obtain⟨q1,q2⟩:=hl i ys σ H pv;by_cases Χ:i<min xs.length zs.length
 .refine .inr ⟨⟨xs,zs,xs[i]'(by lia),zs[i]'(by lia),q1,q2,ap (by lia),ap (by lia)⟩,λx H' y=>?_⟩;obtain⟨p',x',y',hp,rfl,rfl,e1,e2⟩:=y;exact hs i x' y' ys σ H p' (λaC σ' H'=>∃m',m'<min xs.length zs.length-i/\(m'=min xs.length zs.length-(i+1)/\i+1<=min xs.length zs.length/\Pv (i+1) aC σ' H')) (λaC σ' H' pv'=>⟨min xs.length zs.length-(i+1),by lia,rfl,Χ,pv'⟩) (e1 xs q1) (e2 zs q2) pv hp
 .have e:i=min xs.length zs.length:=by lia
  subst e;exact .inl ⟨⟨xs,zs,q1,q2,by lia⟩,hd ys σ H pv⟩
theorem rX{H:Hp}{l:Addr}{xs:List V}{i:Int}{v:V}{Q:Hp->Prop}(h:H l=some (.lst xs))(i0:0<=i)(i1:i<xs.length)(q:Q (upd H l (.lst (xs.set i.toNat v)))):abW (.ref l) (.int i) v H Q:=⟨l,xs,i,i.toNat,rfl,rfl,h,by unfold ZI;rw[aj i0,aj (by lia)],q⟩
theorem lE{xs:List Int}{i:Int}(i0:0<=i)(i1:i<xs.length):Ϣ (xs.map V.int) i=some (.int (xs.getD i.toNat 0)):=cq i0 (by
 have h:i.toNat<xs.length:=by lia
 rw[aF,ap h];simp[List.getD,h])
theorem Av(n:Nat)(v:V):(List.replicate n [v]).flatten=List.replicate n v:=by
 induction n with
 | zero=>rfl
 | succ n ih=>rw[cw,eR,ih,cw];rfl
theorem Ov{X:Cx}:Uq X (FZ X.K):=by
 intro pins s σ H x y v u Q I rx ry h;obtain⟨p,xs,i,z,rfl,rfl,hq,he,q⟩:=h;cases rx;obtain⟨t,rfl⟩:=ry;obtain⟨its,r,pl,hz⟩:=I.list hq;obtain⟨j,h1,h2,h3,h4,h5⟩:=CY he;obtain⟨w,ew,ZJ⟩:=r.get h2;have hl:=r.length;have hn:=tQ;have fin:EP X pins σ Q w s:=⟨z,H,I,ZJ,q⟩;by_cases h0:0<=i
 .have hj:i.toNat=j:=by
   rw[seqIndex_of h0 h5]at h1;exact bq h1
  exact wpAny_getItem_list pl.isList h0 (by lia) (by rw[hj];simpa using ew) fin
 .have hj:(i+(its.toArray.size:Int)).toNat=j:=by
   rw[seqIndex_neg (by lia) h4]at h1;rw[aN,<-hl];exact bq h1
  exact wpAny_getItem_list_neg pl.isList (by lia) (by rw[aN]<;>lia) (by lia) (by rw[hj];simpa using ew) fin
theorem OG{K:PySem.W.Frag}{a p:Addr}{xs:List V}{Q:VK}{g:TG}{tc:TT}{te:TE}{σ0:St}{H0:Hp}(Pv:Nat->List V->St->Hp->Prop)(h0:Pv 0 [] σ0 H0)(hl:∀i ys σ H,i<=xs.length->Pv i ys σ H->μ K H a xs)(hs:∀(i:Nat) (x:V) (ys:List V) (σ:St) (H:Hp) (N:List V->St->Hp->Prop),(∀aC σ' H',Pv (i+1) aC σ' H'->N aC σ' H')->xs.reverse[i]?=some x->Pv i ys σ H->g x σ H λσ2 H2=>tc σ2 H2 λb H3=>
 if b=true then te σ2 H3 λy H4=>H4 p=some (.lst ys)/\ys.length<sizeLine/\N (ys++[y]) σ2 (upd H4 p (.lst (ys++[y])))else N ys σ2 H3)(hd:∀ys σ H,Pv xs.length ys σ H->Q (.ref p) H):vc (Itv K a xs.length) p Q g tc te σ0 H0:=by
 refine⟨λi m ys σ H=>m=xs.length-i/\i<=xs.length/\Pv i ys σ H,⟨xs.length,by simp,bz _,h0⟩,?_⟩;rintro i m ys σ H ⟨rfl,hi,pv⟩;have q:=hl i ys σ H hi pv;by_cases Χ:i<xs.length
 .have hx:xs[xs.length-1-i]?=some xs[xs.length-1-i]:=ap (by lia);refine .inr ⟨⟨Χ,xs,_,q,hx⟩,λx H' y=>?_⟩;obtain⟨e,y⟩:=y;subst e;exact hs i x ys σ _ (λaC σ' H'=>∃m',m'<xs.length-i/\(m'=xs.length-(i+1)/\i+1<=xs.length/\Pv (i+1) aC σ' H')) (λaC σ' H' pv'=>⟨xs.length-(i+1),by lia,rfl,Χ,pv'⟩) (by rw[cB Χ];exact y xs q) pv
 .have e:i=xs.length:=by lia
  subst e;exact .inl ⟨aA _,hd ys σ H pv⟩
end L2
namespace Pb
open L2
def After(par:Int->Int):List Int->List Int->Prop
 | _,[]=>True
 | S,c::t=>par c∈S/\After par (c::S) t
section
variable{m:Int}{rs:List Road}{r:Int}{par:Int->Int}{dep:Int->Nat}
theorem After.mono:∀{l S S':List Int},(∀x∈S,x∈S')->After par S l->After par S' l
 | [],_,_,_,_=>trivial
 | c::t,S,S',h,a=>⟨h _ a.1,After.mono (λx hx=>by
  rcases ar.mp hx with e|e
  .exact ar.mpr (.inl e)
  .exact aI _ (h x e)) a.2⟩
theorem After.append:∀{l1 l2 S:List Int},After par S l1->After par S l2->After par S (l1++l2)
 | [],_,_,_,b=>b
 | c::t,l2,S,a,b=>⟨a.1,After.append a.2 (b.mono λx hx=>aI _ hx)⟩
theorem After.snoc{c:Int}:∀{l S:List Int},After par S l->(par c∈S\/par c∈l)->After par S (l++[c])
 | [],S,_,h=>⟨h.resolve_right (by simp),trivial⟩
 | d::t,S,a,h=>⟨a.1,After.snoc a.2 (by
  rcases h with h|h
  .exact .inl (aI _ h)
  .rcases ar.mp h with e|e
   .exact .inl (ar.mpr (.inl e))
   .exact .inr e)⟩
theorem After.up:∀{A B S:List Int},After par S (A++B)->∀k∈A,par k∈S\/par k∈A
 | [],_,_,_,k,hk=>by cases hk
 | c::t,B,S,a,k,hk=>by
   rcases ar.mp hk with e|e
   .rw[e];exact .inl a.1
   .rcases After.up (A:=t) (B:=B) a.2 k e with h|h
    .rcases ar.mp h with h|h
     .exact .inr (by rw[h];exact aK)
     .exact .inl h
    .exact .inr (aI _ h)
structure Order(m r:Int)(par:Int->Int)(t:List Int):Prop where
 nd:(r::t).Nodup
 Μ:∀v∈t,0<=v/\v<m
 all:∀v,0<=v->v<m->v=r\/v∈t
 af:After par [r] t
theorem Order.ne{t:List Int}(O:Order m r par t){v:Int}(h:v∈t):v≠r:=λz=>(bn.mp O.nd).1 (z▸h)
theorem BW(g:Good m rs)(R:ε m rs r par dep):∀(n:Nat)(v:Int)(S:List Int),0<=v->v<m->par v∈S->After par S (rN m rs r par n v)
 | 0,v,S,_,_,h=>⟨h,trivial⟩
 | n+1,v,S,h0,h1,h=>by
   refine⟨h,?_⟩;have:∀(ks:List Int)(S:List Int),v∈S->(∀u∈ks,u∈bP m rs (front r par v) v)->After par S (ks.flatMap (rN m rs r par n)):=by
    intro ks
    induction ks with
    | nil=>intro S _ _;exact trivial
    | cons u ks ih=>
      intro S hv hk;rw[di];obtain⟨w1,w2,w3⟩:=(bO g R h0 h1).mp (hk u aK);exact(BW g R n u S w1.1 w1.2 (by rw[w3];exact hv)).append (ih S hv λx hx=>hk x (aI _ hx))
   exact this _ _ aK λu hu=>hu
theorem Bm(g:Good m rs)(R:ε m rs r par dep)(r0:0<=r)(r1:r<m)(nd:(cW m rs r par dep r).Nodup)(al:∀v,v∈cW m rs r par dep r↔0<=v/\v<m):∃t,cW m rs r par dep r=r::t/\Order m r par t:=by
 have e:=kY g R r0 r1;refine⟨_,e,?_⟩;rw[e]at nd al;refine⟨nd,λv hv=>(al v).mp (aI _ hv),λv h0 h1=>ar.mp ((al v).mpr ⟨h0,h1⟩),?_⟩;have:∀ks:List Int,(∀u∈ks,u∈bP m rs (front r par r) r)->After par [r] (ks.flatMap (cW m rs r par dep)):=by
  intro ks
  induction ks with
  | nil=>intro _;exact trivial
  | cons u ks ih=>
    intro hk;rw[di];obtain⟨w1,w2,w3⟩:=(bO g R r0 r1).mp (hk u aK);exact(BW g R _ u [r] w1.1 w1.2 (by rw[w3];exact aK)).append (ih λx hx=>hk x (aI _ hx))
 exact this _ λu hu=>hu
def Ae(m:Int)(rs:List Road)(r:Int)(par:Int->Int)(held:Int->Int)(con:Int->Int->Int):Nat->Int->Int
 | 0,v=>held v
 | n+1,v=>held v+((bP m rs (front r par v) v).map λc=>con c (Ae m rs r par held con n c)).sum
def Ϛ(m:Int)(rs:List Road)(r:Int)(par:Int->Int)(dep:Int->Nat)(held:Int->Int)(con:Int->Int->Int)(v:Int):Int:=Ae m rs r par held con (m.toNat-1-dep v) v
variable{held:Int->Int}{con:Int->Int->Int}
theorem qC(g:Good m rs)(R:ε m rs r par dep){v:Int}(h0:0<=v)(h1:v<m):Ϛ m rs r par dep held con v=held v+((bP m rs (front r par v) v).map λc=>con c (Ϛ m rs r par dep held con c)).sum:=by
 have mk:∀u,u∈bP m rs (front r par v) v->(0<=u/\u<m)/\u≠r/\par u=v:=λu=>(bO g R h0 h1).mp;have du:∀u∈bP m rs (front r par v) v,dep u=dep v+1/\dep u+1<=m.toNat:=λu hu=>by
  obtain⟨w1,w2,w3⟩:=mk u hu;have:=R.pos w1.1 w1.2 w2;rw[w3]at this;exact⟨this,mN R w1.1 w1.2⟩
 unfold Ϛ;cases e:m.toNat-1-dep v with
 | zero=>
   have:bP m rs (front r par v) v=[]:=dX.mpr λu hu=>by
    have:=du u hu
    lia
   rw[this];simp[Ae]
 | succ n=>
   show held v+_=_;rw[dM λu hu=>show con u (Ae m rs r par held con n u)=con u (Ae m rs r par held con (m.toNat-1-dep u) u) by rw[show m.toNat-1-dep u=n by have:=du u hu;lia]]
theorem tD{l l':List Int}(h:l.Perm l'):l.sum=l'.sum:=by
 induction h with
 | nil=>rfl
 | cons x _ ih=>rw[aZ,aZ,ih]
 | swap x y l=>simp only[aZ];lia
 | trans _ _ h1 h2=>exact h1.trans h2
def yk(par:Int->Int)(con:Int->Int->Int)(cs:List Int)(v:Int):List Int:=cs.set (par v).toNat (cs.getD (par v).toNat 0+con v (cs.getD v.toNat 0))
structure ϟ(m:Int)(rs:List Road)(r:Int)(par:Int->Int)(dep:Int->Nat)(held:Int->Int)(con:Int->Int->Int)(t cs:List Int):Prop where
 len:(cs.length:Int)=m
 val:∀v,0<=v->v<m->cs.getD v.toNat 0=held v+((t.filter λc=>decide (par c=v)).map λc=>con c (Ϛ m rs r par dep held con c)).sum
theorem ϟ.nil{hs:List Int}(h:(hs.length:Int)=m):ϟ m rs r par dep (λv=>hs.getD v.toNat 0) con [] hs:=⟨h,λv _ _=>by simp⟩
theorem zd(g:Good m rs)(R:ε m rs r par dep){t:List Int}(nd:t.Nodup)(tr:∀x∈t,(0<=x/\x<m)/\x≠r){v:Int}(h0:0<=v)(h1:v<m)(hk:∀k,0<=k->k<m->k≠r->par k=v->k∈t):(t.filter λc=>decide (par c=v)).Perm (bP m rs (front r par v) v):=by
 refine iC (nd.filter _) pH λx=>?_;rw[b5,bO g R h0 h1,bK];exact⟨λh=>⟨(tr x h.1).1,(tr x h.1).2,h.2⟩,λh=>⟨hk x h.1.1 h.1.2 h.2.1 h.2.2,h.2.2⟩⟩
theorem ϟ.full(g:Good m rs)(R:ε m rs r par dep){t cs:List Int}(s:ϟ m rs r par dep held con t cs)(nd:t.Nodup)(tr:∀x∈t,(0<=x/\x<m)/\x≠r){v:Int}(h0:0<=v)(h1:v<m)(hk:∀k,0<=k->k<m->k≠r->par k=v->k∈t):cs.getD v.toNat 0=Ϛ m rs r par dep held con v:=by
 rw[s.val v h0 h1,qC g R h0 h1,tD ((zd g R nd tr h0 h1 hk).map _)]
theorem ϟ.step(g:Good m rs)(R:ε m rs r par dep){t cs:List Int}(s:ϟ m rs r par dep held con t cs){v:Int}(h0:0<=v)(h1:v<m)(hr:v≠r)(e:cs.getD v.toNat 0=Ϛ m rs r par dep held con v):ϟ m rs r par dep held con (v::t) (yk par con cs v) where
 len:=by unfold yk;rw[cP];exact s.len
 val:=λu u0 u1=>by
  have pu:=(R.up v h0 h1 hr).1;have sl:=s.len;have vu:=s.val u u0 u1;unfold yk;rw[e];by_cases c:par v=u
  .have hl:u.toNat<cs.length:=(by lia);rw[gi (by simpa using c),aH,aZ,c];rw[show(cs.set u.toNat (cs.getD u.toNat 0+con v (Ϛ m rs r par dep held con v))).getD u.toNat 0=cs.getD u.toNat 0+con v (Ϛ m rs r par dep held con v) by simp[List.getD,hl],vu]
   lia
  .rw[fB (by simpa using c),<-vu];have:(par v).toNat≠u.toNat:=(by lia);simp[List.getD,cY this]
theorem Order.places{t:List Int}(O:Order m r par t):∀x∈t,(0<=x/\x<m)/\x≠r:=λx hx=>⟨O.Μ x hx,O.ne hx⟩
theorem Order.turn(g:Good m rs)(R:ε m rs r par dep){t cs:List Int}(O:Order m r par t){i:Nat}{v:Int}(s:ϟ m rs r par dep held con (t.drop (t.length-i)) cs)(hv:t.reverse[i]?=some v):((0<=v/\v<m)/\v≠r)/\cs.getD v.toNat 0=Ϛ m rs r par dep held con v/\ϟ m rs r par dep held con (t.drop (t.length-(i+1))) (yk par con cs v):=by
 have hi:i<t.length:=by
  have:=(aq.mp hv).1
  rwa [bj]at this
 rw[cB hi]at hv;generalize hj:t.length-1-i=j at hv;have ej:t.length-i=j+1:=by lia
 have ej':t.length-(i+1)=j:=by lia
 rw[ej]at s;rw[ej'];have hjl:j<t.length:=by lia
 have vm:v∈t:=aM hv;have vp:=O.places v vm;have ed:t.drop j=v::t.drop (j+1):=by
  rw[eO hjl];rw[ap hjl]at hv;cases hv
  rfl
 have es:t=t.take j++v::t.drop (j+1):=by rw[<-ed,b8]
 have ndt:=(bn.mp O.nd).2;have nd2:=ndt;rw[es]at nd2;have av:v∉t.take j:=λz=>(fI.mp nd2).2.2 v z v aK rfl;have e:=s.full g R (ndt.sublist (List.drop_sublist _ _)) (λx hx=>O.places x (cI hx)) vp.1.1 vp.1.2 λk k0 k1 kr pk=>by
  rcases O.all k k0 k1 with z|z
  .exact absurd z kr
  .rw[es]at z;rcases bc.mp z with z|z
   .have af:=O.af;rw[es]at af;rcases af.up k z with w|w
    .rw[pk]at w;exact absurd (aB.mp w) vp.2
    .rw[pk]at w;exact absurd w av
   .rcases ar.mp z with z|z
    .subst z;exact absurd pk (R.ne k0 k1 kr)
    .exact z
 exact⟨vp,e,by rw[ed];exact s.step g R vp.1.1 vp.1.2 vp.2 e⟩
def uD(m:Int)(rs:List Road)(r:Int)(par:Int->Int)(dep:Int->Nat)(held:Int->Int)(con:Int->Int->Int):List Int:=(cR m.toNat).map (Ϛ m rs r par dep held con)
theorem zk{v:Int}(h0:0<=v)(h1:v<m):(uD m rs r par dep held con).getD v.toNat 0=Ϛ m rs r par dep held con v:=by
 unfold uD;rw[List.getD,aF,fZ (by lia),bH h0]
 rfl
theorem Order.done(g:Good m rs)(R:ε m rs r par dep){t cs:List Int}(O:Order m r par t)(s:ϟ m rs r par dep held con t cs):cs=uD m rs r par dep held con:=by
 have sl:=s.len;refine eW λi=>?_;by_cases h:i<m.toNat
 .have hc:i<cs.length:=by lia
  have e:=s.full g R (bn.mp O.nd).2 O.places (v:=(i:Int)) (by lia) (by lia) λk k0 k1 kr pk=>(O.all k k0 k1).resolve_left kr;unfold uD;rw[aF,fZ h];rw[bD,List.getD,ap hc]at e;rw[ap hc];exact congrArg some e
 .unfold uD;rw[bI (by lia),bI (by rw[ah,da];lia)]
def Ϗ(rs:List Road)(par:Int->Int)(v x:Int):Int:=x/(cX rs v (par v)).getD 1
theorem Pp(v:Int):Ϗ rs par v 0=0:=by unfold Ϗ;exact Int.zero_ediv _
end
section
variable{m:Int}{rs:List Road}{r:Int}{par:Int->Int}{dep:Int->Nat}{held:Int->Int}
theorem IV(hz:∀v,0<=held v)(hc:∀v x,0<=x->0<=Ϗ rs par v x):∀(n:Nat)(v:Int),0<=Ae m rs r par held (Ϗ rs par) n v
 | 0,v=>hz v
 | n+1,v=>by
   show 0<=held v+_;have:∀l:List Int,0<=(l.map λc=>Ϗ rs par c (Ae m rs r par held (Ϗ rs par) n c)).sum:=by
    intro l
    induction l with
    | nil=>exact bA _
    | cons c l ih=>
      rw[aH,aZ];have:=hc c _ (IV hz hc n c)
      lia
   have h1:=this (bP m rs (front r par v) v);have h2:=hz v
   lia
theorem Ux(g:Good m rs)(v x:Int)(h:0<=x):0<=Ϗ rs par v x:=by
 unfold Ϗ;refine lU h ?_;cases e:cX rs v (par v)with
 | none=>decide
 | some k=>
   have ad:=zU.mp (show(cX rs v (par v)).isSome=true by rw[e];rfl);obtain⟨x,hx,j⟩:=ad;obtain⟨i,hi⟩:=cL hx;have ok:=g.ok x hx;rw[xk g hi (by rcases j with⟨a,b⟩|⟨a,b⟩;exact .inl ⟨a,b⟩;exact .inr ⟨a,b⟩)]at e;unfold jk at e;have t0:=ok.t0;have u0:=ok.u0;show 0<=k;split at e
   .cases e;lia
   .split at e
    .cases e;lia
    .cases e
theorem FQ(g:Good m rs)(hz:∀v,0<=held v)(v:Int):0<=Ϛ m rs r par dep held (Ϗ rs par) v:=IV hz (Ux g) _ _
theorem o0(l:List Int)(i j:Nat)(x:Int)(h:i<l.length):(l.set i x).getD j 0=if i=j then x else l.getD j 0:=by
 by_cases c:i=j
 .subst c;rw[aj rfl];simp[List.getD,h]
 .rw[ag c];simp[List.getD,cY c]
end
end Pb
namespace L2
open PySem PySem.Spec PyProof.Rows
def nL(xs:List Int)(lo hi:Option Int):List Int:=(xs.drop (HT.X0 xs.length 0 lo)).take (HT.X0 xs.length xs.length hi-HT.X0 xs.length 0 lo)
theorem zH(xs:List Int)(lo hi:Option Int):xo (xs.map V.int) lo hi=(nL xs lo hi).map V.int:=by
 unfold xo nL;rw[ah,iq,gF]
theorem Qt(xs:List Int)(lo hi:Option Int):(nL xs lo hi).length<=xs.length:=by
 unfold nL;rw[bd,dj]
 lia
theorem slI{K:PySem.W.Frag}{H:Hp}{a:Addr}{xs:List Int}{lo hi:Option Int}{Q:VK}(h:μ K H a (xs.map V.int))(q:∀p,H p=none->Q (.ref p) (upd H p (.lst ((nL xs lo hi).map V.int)))):UN K (.ref a) lo hi H Q:=⟨a,_,rfl,h,λp hp=>by rw[zH];exact q p hp⟩
def Tk(K:PySem.W.Frag)(c:Bool):R2:=λx y H Q=>∃p xs i v,x=.ref p/\y=.int i/\ϧ K c H p xs/\Ϣ xs i=some v/\Q v H
theorem FH{X:Cx}(c:Bool):IxR X (Tk X.K c):=by
 cases c
 .exact g9
 .exact bB
theorem ixX{K:PySem.W.Frag}{c:Bool}{H:Hp}{p:Addr}{xs:List V}{i:Int}{v:V}{Q:VK}(h:ϧ K c H p xs)(e:Ϣ xs i=some v)(q:Q v H):Tk K c (.ref p) (.int i) H Q:=⟨p,xs,i,v,rfl,rfl,h,e,q⟩
theorem RA{c:Prop}[Decidable c]{A B:Prop}{P:Int->Prop}(m1 m2:Int)(hB:P m2->B)(hA:P m1->A)(h:∀m,(m=m1\/m=m2)->P m):if c then A else B:=by
 by_cases z:c
 .rw[aj z];exact hA (h _ (.inl rfl))
 .rw[ag z];exact hB (h _ (.inr rfl))
end L2
namespace Pb
open L2 PySem
theorem IU{α β:Type}{R:α->β->Prop}:∀(n:Nat){l₁:List α}{l₂:List β},Paired R l₁ l₂->Paired R (l₁.take n) (l₂.take n)
 | 0,_,_,_=>by rw[d6,d6];exact .nil
 | _+1,_,_,.nil=>.nil
 | n+1,_,_,.cons x xs=>.cons x (IU n xs)
theorem Jo{α β:Type}{R:α->β->Prop}:∀(n:Nat){l₁:List α}{l₂:List β},Paired R l₁ l₂->Paired R (l₁.drop n) (l₂.drop n)
 | 0,_,_,h=>h
 | _+1,_,_,.nil=>.nil
 | n+1,_,_,.cons x xs=>Jo n xs
theorem Lu{α β:Type}{R:α->β->Prop}{k₁:List α}{k₂:List β}(h:Paired R k₁ k₂):∀{l₁:List α}{l₂:List β},Paired R l₁ l₂->Paired R (l₁++k₁) (l₂++k₂)
 | _,_,.nil=>h
 | _,_,.cons x xs=>.cons x (Lu h xs)
theorem U1{α β:Type}{R:α->β->Prop}{ps:List α}{rs:List β}{q:α}{r:β}(n:Nat)(h:Paired R ps rs)(e:R q r):Paired R (ps.take n++q::ps.drop n) (rs.take n++r::rs.drop n):=Lu (.cons e (Jo n h)) (IU n h)
theorem MA{n:Nat}{rows:List Row}{row:Row}(R:Rows n rows)(k:row.k=(n:Int)+1)(ok:Zo row):Rows (n+1) (rows++[row]):=by
 have rl:=R.len;refine⟨by rw[aP,rl];rfl,λj r hj=>?_⟩;by_cases hjl:j<rows.length
 .rw[dA hjl]at hj;exact R.ok j r hj
 .have hj2:j=rows.length:=by
   have:=(aq.mp hj).1;rw[aP]at this;simp at this
   lia
  rw[hj2,dc (aA _),fC]at hj;cases hj;exact⟨by rw[hj2,rl];exact k,ok⟩
section
variable{m:Int}{rs:List Road}{r:Int}{par:Int->Int}{dep:Int->Nat}
def kT(rs:List Road)(fv:V)(p:Int)(i:Nat):List Int:=((cR i).filter λq=>(cX rs p q).isSome).filter λv=>decide (V.int v≠fv)
theorem Az(i:Nat):cR (i+1)=cR i++[(i:Int)]:=by
 unfold cR;rw[cZ,aD]
 rfl
theorem AF(p:Int)(fv:V):kT rs fv p m.toNat=bP m rs fv p:=by
 unfold kT bP;rw[LV]
theorem KU{fv:V}{p:Int}{i:Nat}(h1:(cX rs p (i:Int)).isSome=true)(h2:V.int (i:Int)≠fv):kT rs fv p (i+1)=kT rs fv p i++[(i:Int)]:=by
 unfold kT;rw[Az,c8,c8]
 congr 1
 simp[h1,h2]
theorem BR{fv:V}{p:Int}{i:Nat}(h:(cX rs p (i:Int)).isSome=true->¬V.int (i:Int)≠fv):kT rs fv p (i+1)=kT rs fv p i:=by
 unfold kT;rw[Az,c8,c8];have:([(i:Int)].filter λq=>(cX rs p q).isSome).filter (λv=>decide (V.int v≠fv))=[]:=by
  by_cases c:(cX rs p (i:Int)).isSome=true
  .have:=h c;simp[c]
   simpa using this
  .simp[c]
 rw[this,bX]
structure Bfs(m:Int)(rs:List Road)(r:Int)(par:Int->Int)(t:List Int)(k:Nat):Prop where
 J:ώ m rs r par t ((r::t).drop k)
 af:After par [r] t
theorem Bfs.start:Bfs m rs r par [] 0:=⟨ώ.start,trivial⟩
theorem Bfs.step(g:Good m rs)(R:ε m rs r par dep)(r0:0<=r)(r1:r<m){t:List Int}{k:Nat}(b:Bfs m rs r par t k){p:Int}(hp:(r::t)[k]?=some p):Bfs m rs r par (t++bP m rs (front r par p) p) (k+1):=by
 have hk:=(aq.mp hp).1;have ed:(r::t).drop k=p::(r::t).drop (k+1):=by
  rw[eO hk];rw[ap hk]at hp;cases hp
  rfl
 have J:=b.J.step g R r0 r1 (p:=p) (ws':=(r::t).drop (k+1)) (by rw[ed]);have pr:=b.J.at_ r0 r1 (p:=p) (by rw[ed];exact aK);have pm:p∈r::t:=aM hp;refine⟨?_,?_⟩
 .rw[<-lB,jH (by lia)];exact J
 .have:∀(ks l:List Int),(∀u∈ks,u∈bP m rs (front r par p) p)->After par [r] l->p∈r::l->After par [r] (l++ks):=by
   intro ks
   induction ks with
   | nil=>intro l _ h _;rw[bX];exact h
   | cons u ks ih=>
     intro l hu h ϡ;obtain⟨w1,w2,w3⟩:=(bO g R pr.1 pr.2).mp (hu u aK);have h2:After par [r] (l++[u]):=h.snoc (by
      rw[w3];rcases ar.mp ϡ with e|e
      .exact .inl (by rw[e];exact aK)
      .exact .inr e)
     have:=ih (l++[u]) (λx hx=>hu x (aI _ hx)) h2 (by
      rcases ar.mp ϡ with e|e
      .rw[e];exact aK
      .exact aI _ (bo _ e))
     rwa [cU]at this
  exact this _ t (λu hu=>hu) b.af pm
theorem Bfs.done(R:ε m rs r par dep){t:List Int}{k:Nat}(hk:(r::t).length<=k)(b:Bfs m rs r par t k):Order m r par t:=by
 have J:=b.J;rw[lM hk]at J;refine⟨bn.mpr ⟨J.nr,J.nd⟩,J.Μ,λv h0 h1=>?_,b.af⟩;by_cases z:v=r
 .exact .inl z
 .exact .inr (J.all R v h0 h1 z)
end
end Pb
namespace L2
open PySem PySem.Spec PyProof.Rows
theorem Fq{P:Program}{w:World}{A:Around}{l:Addr}(c:Bool){it:Addr}(hh:A.handled=none)(ne:l≠it)(its:Array Value):Draws P w A it [it,l] its.size (λi v=>its[i]?=some v) (λi h=>zAt l c it i h/\K2 l c h its) where
 live:=λi h st=>let ⟨o,e,_⟩:=(j8 l c P w).obj _ _ _ st.1;⟨o,e⟩
 frame:=λi h h' st k=>⟨(j8 l c P w).atK _ _ _ _ st.1 λo e=>k it (by simp) o e,(j8 l c P w).X9 _ _ _ st.2 λo e=>k l (by simp) o e⟩
 item:=λi s Q E hi st hq=>(j8 l c P w).item A s it i its its[i] Q E st.1 st.2 (by simp[hi]) λh' at' sb=>hq its[i] h' s.toks (by simp[hi]) ⟨at',(j8 l c P w).X9 _ _ _ st.2 λo e=>sb.extBut _ _ ne e⟩ sb
 done:=λs Q E st hq=>(j8 l c P w).fin A s it its.size its Q E hh st.1 st.2 (by simp) λh' e eb he=>hq h' e eb he
section
variable{P:Program}{w:World}{A:Around}{E:Value->Shared->Prop}{s:Shared}{l:Addr}{ob:Obj}{src:Heap->Array Value->Prop}{at':Addr->Nat->Heap->Prop}
abbrev Ey(n:Nat):Obj:={ cls:=.type "enumerate",data:=.fields #[.none,.bool false,.ref n,rawInt 0,.none,.none] }
theorem C1(S:∀P w,iO P w l ob src at')(xs:Array Value):Meets (Builtin.«enumerate.__new__» ⟨[.type "enumerate",.ref l],[]⟩) (λ_ R s=>src s.heap xs/\R (.ok (.ret (.ref (s.heap.push ob).objs.size))) { s with heap:=(s.heap.push ob).push (Ey s.heap.objs.size) }):=.of_wp λprog w A R s hyp=>by
 obtain⟨hp,g,d,tk,os⟩:=s;obtain⟨q1,r⟩:=hyp;have aja:=sub_enumerate;have B1:src (Shared.heap ⟨hp,g,d,tk,os⟩) xs:=q1
 wp_walk using ((S prog w).start _ _ _ _ _ B1)
 refine wpAny_stack_any λst=>?_;dsimp only;refine aR ?_;have go:∀b:Bool,b=true\/b=false:=λb=>by cases b<;>simp
 split
 .rename_i c _ _ _ _ _
  rcases go (c==Value.type "enumerate")with z|z
  .rw[z]
   wp_walk using ((S prog w).start _ _ _ _ _ B1)
   exact⟨_,rfl,r⟩
  .rw[z]
   wp_walk using ((S prog w).start _ _ _ _ _ B1)
   exact⟨_,rfl,r⟩
 .wp_walk using ((S prog w).start _ _ _ _ _ B1)
  exact⟨_,rfl,r⟩
theorem Li(S:∀P w,iO P w l ob src at'){xs:Array Value}{Q:Value->Shared->Prop}(q1:src s.heap xs)(f1:ob.isFreed=false)(h:∀h',IsEnum h' (s.heap.objs.size+1) s.heap.objs.size 0 .none->at' s.heap.objs.size 0 h'->(∀c o,s.heap.get? c=some o->h'.get? c=some o)->Q (.ref (s.heap.objs.size+1)) { s with heap:=h' }):wpAny (model P w) A (call (.type "enumerate") [.ref l]) Q E s:=by
 refine callType_new F.called_enumerate (by decide) (F.typeCall_enumerate_1 _) (F.newCall_enumerate_1 _) (λobj=>F.args_object_init_2 obj _) F.entry_enumerate_new (C1 S xs) ⟨q1,?_⟩;have n0:(s.heap.push ob).objs.size=s.heap.objs.size+1:=dF ..;have c2:((s.heap.push ob).push (Ey s.heap.objs.size)).get? (s.heap.push ob).objs.size=some (Ey s.heap.objs.size):=ba _ rfl;have c1:((s.heap.push ob).push (Ey s.heap.objs.size)).get? s.heap.objs.size=some ob:=aw _ (ba _ f1);show _/\_;rw[n0]at c2;rw[n0];exact⟨⟨_,c2,rfl⟩,h _ c2 ((S P w).first _ _ c1) λc o e=>aw _ (aw _ e)⟩
end
def Ite(K:PySem.W.Frag)(c:Bool)(a:Addr):It:=⟨λi H=>∃xs x,ϧ K c H a xs/\xs[i]?=some x,λi H v H'=>∃p x,H p=none/\v=.ref p/\H'=upd H p (.tup [.int i,x])/\∀xs,ϧ K c H a xs->xs[i]?=some x,λi H=>∃xs,ϧ K c H a xs/\xs.length=i⟩
theorem Mr{P:Program}{w:World}{K:PySem.W.Frag}{elts:List Expr}{x1}{Ge:Pos}(c:Bool)(a e it:Addr)(ne:e≠it)(ae:a≠e)(ai:a≠it):Turn P w K (.Tuple elts x1 Ge) (Ite K c a) [e,it] e (λi h=>(∃old,IsEnum h e it (i:Nat) old)/\zAt a c it i h) where
 mem:=by simp
 obj:=λi h t b hb=>by
  obtain⟨⟨old,t1⟩,t2⟩:=t;simp only[ar,dQ,or_false]at hb;rcases hb with rfl|rfl
  .exact⟨_,t1,λv z=>by cases z⟩
  .exact(j8 a c P w).obj _ _ _ t2
 keep:=λi h h' t k=>by
  obtain⟨⟨old,t1⟩,t2⟩:=t;exact⟨⟨old,k e (by simp) _ t1⟩,(j8 a c P w).atK _ _ _ _ t2 λo e=>k it (by simp) o e⟩
 item:=λX e1 e2 e3 hc i pins s σ H E I f t g=>by
  subst e1 e2 e3;obtain⟨⟨old,t1⟩,t2⟩:=t;obtain⟨xs,x,s1,hx⟩:=g;obtain⟨us,r1,q1⟩:=I.X1 s1;obtain⟨xu,hxu,rx⟩:=r1.get hx;have hh:X.A.in1.handled=none:=I.ok.hd hc;have fz:∀q∈[e,it],oV X pins H q:=f;have W:=WalksT.enumerateD (A:=X.A) (Fq (P:=X.prog) (w:=X.w) (A:=X.A.in1) (l:=a) c (it:=it) hh ai us.toArray) e ne (by simp;exact⟨ne,ae.symm⟩) (by simp);have Za:i<us.toArray.size:=by
   have:=(aq.mp hxu).1
   simpa using this
  refine W.item i s _ _ Za ⟨⟨old,t1⟩,t2,q1⟩ λT vals h' tk pt le tup mid keep=>?_;refine⟨_,rfl,W.go elts x1 Ge i T { s with heap:=h',toks:=tk } _ _ mid λh2 ZC ace=>?_⟩;obtain⟨tt,xv,px,ev⟩:=pt;have exv:xv=xu:=by
   have h1:us[i]?=some xv:=(by simpa using px);rw[hxu]at h1;cases h1
   rfl
  subst exv;have Tw:T∉[e,it]:=W.apart i T h' mid;have kp:∀q o,q∉[e,it]->s.heap.get? q=some o->h2.get? q=some o:=λq o hq eo=>ace q o hq (keep q o hq eo);obtain⟨ot,ht,hct,nt,hdt⟩:=tup;have new:h2.get? T=some ot:=ace T ot Tw ht;have Hn:∀q u,H q=some u->q∉[e,it]:=λq u e hq=>by rw[(fz q hq).1]at e;cases e
  have nH:H T=none:=I.τ.fresh le;have Tb:∀q o,s.heap.get? q=some o->q≠T:=λq o eo=>aV (aW (aG eo) le);have I2:Inv X pins σ H { s with heap:=h2,toks:=tk }:=by
   refine I.step (g':=s.gens) (d':=s.drawn) (t':=tk) (ch:=[e,it]) (λq hq=>⟨(fz q hq).2.2.2.1,(fz q hq).2.1,(fz q hq).2.2.2.2.1,(fz q hq).2.2.2.2.2⟩) (λq o _ _ hq e _=>kp q o hq e) (λq o _ _ hq e _=>⟨o.slots,kp q o hq e⟩) (λ_ _ _ _ n=>n)
    (λq o hq e=>⟨o,kp q o hq e⟩) (λ_ _ e=>e) (λ_ _ _ e=>e) (λq ps e=>⟨#[],by rw[e];simp⟩) (λm hm=>?_) (λq u e=>?_) I.bare
   .obtain⟨o,es,ep,ho,r⟩:=hm;exact⟨o,es,ep,kp _ o (λhq=>(fz _ hq).2.1 rfl) ho,r⟩
   .refine(I.τ q u e).Ϭ (λq' v Io e'=>kp q' v ?_ e') (λ_ e'=>e') λ_ _ e'=>e';rcases Io with rfl|Io
    .exact Hn _ u e
    .exact Hn _ _ Io
  have I3:Inv X pins σ (upd H T (.tup [.int i,x])) { s with heap:=h2,toks:=tk }:=by
   refine⟨I2.ok,I2.os,I2.bare,?_,I2.loc,I2.cell,?_,λn c e=>?_,λp hp=>?_,λq u e=>?_,I2.len⟩
   .refine⟨I2.base.keep,I2.base.slot,λq o e n hx=>?_,I2.base.there,λq xs e=>?_,λq o u e=>?_,λq ps e=>?_⟩
    .have lt:q<X.s₀.heap.objs.size:=aG e;rw[aO (aV (aW lt (aU I.sz le)))];exact I2.base.free q o e n hx
    .have e':=I2.base.ϭ q xs e;rw[aO (λz=>by rw[z,nH]at e';cases e')];exact e'
    .have e':=I2.base.ϥ q o u e;rw[aO (λz=>by rw[z,nH]at e';cases e')];exact e'
    .obtain⟨more,e'⟩:=I2.base.Ϯ q ps e;exact⟨more,by rw[aO (λz=>by rw[z,nH]at e';cases e')];exact e'⟩
   .rw[aO (aV (aW I.lt le))];exact I2.free
   .obtain⟨vv,o,ho,_⟩:=I.cell n c e;rw[aO (Tb _ _ ho)];exact I2.Ρ n c e
   .obtain⟨k1,k2,k3⟩:=I.pin p hp;rw[aO (Tb _ _ k1)];exact I2.pin p hp
   .by_cases hq:q=T
    .subst hq;rw[ax]at e;cases e;refine⟨by show 2<=sizeLine;decide,[.int (i:Nat) tt,xv],.cons ⟨tt,rfl⟩ (.cons rx .nil),ot,new,hct,nt,?_⟩;rw[hdt,ev]
    .rw[aO hq]at e;refine(I2.τ q u e).Ϭ (λ_ _ _ e'=>e') (λq' e'=>?_) λq' xs e'=>?_
     .rw[aO (λz=>by rw[z,nH]at e';cases e')];exact e'
     .rw[aO (λz=>by rw[z,nH]at e';cases e')];exact e'
  refine⟨.ref T,_,I3,rfl,⟨T,x,nH,rfl,rfl,λxs' q=>?_⟩,⟨ZC.1,ZC.2.1⟩,λq hq=>?_⟩
  .rw[<-I.Yb s1 q];exact hx
  .have Χ:q≠T:=by
    simp only[ar,dQ,or_false]at hq;rcases hq with rfl|rfl
    .exact Tb _ _ t1
    .exact let ⟨o,e,_⟩:=(j8 a c X.prog X.w).obj _ _ _ t2;Tb _ _ e
   rw[aO Χ];exact(fz q hq).1
 done:=λX e1 e2 e3 hc i pins s σ H E I f t g=>by
  subst e1 e2 e3;obtain⟨⟨old,t1⟩,t2⟩:=t;obtain⟨xs,s1,abh⟩:=g;obtain⟨us,r1,q1⟩:=I.X1 s1;have hh:X.A.in1.handled=none:=I.ok.hd hc;have fz:∀q∈[e,it],oV X pins H q:=f;have W:=WalksT.enumerateD (A:=X.A) (Fq (P:=X.prog) (w:=X.w) (A:=X.A.in1) (l:=a) c (it:=it) hh ai us.toArray) e ne (by simp;exact⟨ne,ae.symm⟩) (by simp);have ei:i=us.toArray.size:=by
   have:=r1.length;simp
   lia
  subst ei;refine W.done s _ _ ⟨⟨old,t1⟩,t2,q1⟩ λh' tk keep=>⟨rfl,?_⟩;have kp:∀q o,q∉[e,it]->s.heap.get? q=some o->h'.get? q=some o:=λq o hq e=>keep q o hq e;have Hn:∀q u,H q=some u->q∉[e,it]:=λq u e hq=>by rw[(fz q hq).1]at e;cases e
  refine I.step (g':=s.gens) (d':=s.drawn) (t':=tk) (ch:=[e,it]) (λq hq=>⟨(fz q hq).2.2.2.1,(fz q hq).2.1,(fz q hq).2.2.2.2.1,(fz q hq).2.2.2.2.2⟩) (λq o _ _ hq e _=>kp q o hq e) (λq o _ _ hq e _=>⟨o.slots,kp q o hq e⟩) (λ_ _ _ _ n=>n)
   (λq o hq e=>⟨o,kp q o hq e⟩) (λ_ _ e=>e) (λ_ _ _ e=>e) (λq ps e=>⟨#[],by rw[e];simp⟩) (λm hm=>?_) (λq u e=>?_) I.bare
  .obtain⟨o,es,ep,ho,r⟩:=hm;exact⟨o,es,ep,kp _ o (λhq=>(fz _ hq).2.1 rfl) ho,r⟩
  .refine(I.τ q u e).Ϭ (λq' v Io e'=>kp q' v ?_ e') (λ_ e'=>e') λ_ _ e'=>e';rcases Io with rfl|Io
   .exact Hn _ u e
   .exact Hn _ _ Io
 self:=λA i s Q E t q=>by
  obtain⟨⟨old,t1⟩,t2⟩:=t;exact wpAny_pyIter_enum t1 q
def JM(K:PySem.W.Frag)(c:Bool)(tl:TE):TI:=λσ H R=>tl σ H λx H1=>∃a,x=.ref a/\(∃xs,ϧ K c H1 a xs)/\R (Ite K c a) H1
section
variable{X:Cx}{e:Expr}{te:TE}{p2 pos:Pos}
theorem xY{elts:List Expr}{x1}{Ge:Pos}(c:Bool)(hg:Gl X "enumerate")(hm:X.mg "enumerate"=none)(he:PE X e te)(h2:starEach [e] X.env=[(false,eval e X.env)]:=by rfl):PI X (.Tuple elts x1 Ge) (.Call (.Name "enumerate" p2) [e] [] pos) (JM X.K c te):=by
 intro pins s σ H R I h;refine Call_ (nI I hg hm boot_enumerate (cD ?_ h2 rfl));rw[h2];show wpAny _ _ (spliced ((false,eval e X.env)::backTo pos [])) _ _ s;refine gB (d5 (he pins s σ H _ I h) λu s1 x H1 I1 r1 q1=>gI ?_);obtain⟨a,ex,⟨xs,sa⟩,q⟩:=q1;subst ex;cases r1;obtain⟨us,r1,q1⟩:=I1.X1 sa;obtain⟨oa,hoa⟩:=sk a c _ _ q1;have la:=aG hoa;refine Li (j8 a c) q1 (wP a c) λh' w1 w2 w3=>?_;refine wpAny_pyIter_enum w1 ?_;refine⟨_,[s1.heap.objs.size+1,s1.heap.objs.size],_,_,H1,rfl,I1.kept (t':=s1.toks) w3,Mr c a _ _ (Nat.succ_ne_self _) (aV (fE la)) (aV la),⟨⟨_,w1⟩,w2⟩,λb hb=>?_,q⟩;have hle:s1.heap.objs.size<=b:=by
  simp only[ar,dQ,or_false]at hb;rcases hb with rfl|rfl
  .exact fe _
  .exact aA _
 exact I1.ZG hle (I1.τ.fresh hle)
end
theorem zK{K:PySem.W.Frag}{c:Bool}{a:Addr}{xs:List V}{g:TG}{tb:TS}{D:Ends}{σ:St}{H:Hp}(Pv:Nat->St->Hp->Prop)(h0:Pv 0 σ H)(hl:∀i σ H,Pv i σ H->ϧ K c H a xs)(hs:∀(i:Nat) (x:V) (σ:St) (H:Hp) (p:Addr) (N:St->Hp->Prop),(∀σ' H',Pv (i+1) σ' H'->N σ' H')->xs[i]?=some x->Pv i σ H->H p=none->g (.ref p) σ (upd H p (.tup [.int i,x])) λσ2 H2=>tb { D with nx:=N,ct:=N,bk:=D.nx } σ2 H2)(hd:∀σ H,Pv xs.length σ H->D.nx σ H):si (Ite K c a) D g tb σ H:=by
 refine⟨λi m σ H=>m=xs.length-i/\i<=xs.length/\Pv i σ H,⟨_,rfl,bz _,h0⟩,?_⟩;rintro i m σ H ⟨rfl,hi,p⟩;have q1:=hl i σ H p;by_cases Χ:i<xs.length
 .refine .inr ⟨⟨xs,xs[i],q1,ap Χ⟩,λσ' H'=>∃m',m'<xs.length-i/\(m'=xs.length-(i+1)/\i+1<=xs.length/\Pv (i+1) σ' H'),λσ' H' z=>z,λx H' y=>?_⟩;obtain⟨p',x',hp,rfl,rfl,e1⟩:=y;exact hs i x' σ H p' _ (λσ' H' p'=>⟨xs.length-(i+1),by lia,rfl,Χ,p'⟩) (e1 xs q1) p hp
 .have e:i=xs.length:=by lia
  subst e;exact .inl ⟨⟨xs,q1,rfl⟩,hd σ H p⟩
end L2
namespace Pb
open L2 PySem
theorem Ir{α β:Type}{R:α->β->Prop}{a:α}{b:β}(h:R a b):∀{l₁:List α}{l₂:List β},Paired R l₁ l₂->Paired R (l₁++[a]) (l₂++[b])
 | _,_,.nil=>.cons h .nil
 | _,_,.cons x xs=>.cons x (Ir h xs)
end Pb
namespace Pb
open L2
section
variable{m:Int}{rs:List Road}{r:Int}{par:Int->Int}{dep:Int->Nat}{held alV:Int->Int}{con:Int->Int->Int}
theorem qr{f h:Int->Int}{l:List Int}(hl:∀c∈l,f c=h c):(l.map f).sum=(l.map h).sum:=by rw[dM hl]
end
end Pb
namespace L2
open PySem PySem.Spec PyProof.Rows
theorem Gz(zs:List V){k:Int}(k0:0<=k):xo zs (some k) none=zs.drop k.toNat:=by
 unfold xo;have e1:HT.X0 zs.length zs.length none=zs.length:=rfl;have e2:HT.X0 zs.length 0 (some k)=min k.toNat zs.length:=by
  show(if k<0 then(k+(zs.length:Int)).toNat else min k.toNat zs.length)=_;rw[ag (by lia)]
 rw[e1,e2,dh (by rw[dj];lia)];by_cases c:k.toNat<=zs.length
 .rw[Nat.min_eq_left c]
 .rw[Nat.min_eq_right (by lia),me (aA _),me (by lia)]
end L2
namespace Pb
open L2 PySem
section
variable{m:Int}{rs:List Road}
theorem Im:∀(l:List Int)(i:Nat)(v:Int),i<l.length->(l.set i v).sum=l.sum-l.getD i 0+v
 | [],i,v,h=>by simp at h
 | a::l,0,v,_=>by simp;lia
 | a::l,i+1,v,h=>by
   have ih:=Im l i v (by simpa using h);have e:(a::l).getD (i+1) 0=l.getD i 0:=by simp[List.getD]
   rw[List.set_cons_succ,aZ,aZ,ih,e]
   lia
end
section
variable{m:Int}{rs:List Road}{r b:Int}{par:Int->Int}{dep:Int->Nat}
def B9(par:Int->Int)(b:Int):Nat->Int->Bool
 | 0,v=>decide (v=b)
 | n+1,v=>decide (v=b)||B9 par b n (par v)
def ben(par:Int->Int)(dep:Int->Nat)(b v:Int):Bool:=B9 par b (dep v) v
theorem Qc(R:ε m rs r par dep){v:Int}(v0:0<=v)(v1:v<m)(hr:v≠r):ben par dep b v=(decide (v=b)||ben par dep b (par v)):=by
 unfold ben;rw[R.pos v0 v1 hr]
 rfl
end
end Pb
namespace L2
theorem cN{A B:TS}{D:Ends}{σ:St}{H:Hp}(h:∀N:St->Hp->Prop,(∀σ' H',B D σ' H'->N σ' H')->A { D with nx:=N } σ H):K3 A B D σ H:=h (B D) λ_ _ z=>z
end L2
namespace L2
open PySem
theorem mh{K:PySem.W.Frag}{a:Addr}{xs:List V}{g:TG}{tb:TS}{D:Ends}{σ:St}{H:Hp}(Pv:Nat->St->Hp->Prop)(h0:Pv 0 σ H)(hl:∀i σ H,i<=xs.length->Pv i σ H->μ K H a xs)(hs:∀(i:Nat) (x:V) (σ:St) (H:Hp) (N B:St->Hp->Prop),(∀σ H,(g x σ H λσ2 H2=>tb { D with nx:=N,ct:=N,bk:=D.nx } σ2 H2)->B σ H)->(∀σ' H',Pv (i+1) σ' H'->N σ' H')->xs[i]?=some x->Pv i σ H->B σ H)(hd:∀(B:St->Hp->Prop) σ H,(∀σ H,D.nx σ H->B σ H)->Pv xs.length σ H->B σ H):si (Itl K a) D g tb σ H:=uh Pv h0 hl (λi x σ H N hN hx p=>hs i x σ H N (λσ H=>g x σ H λσ2 H2=>tb { D with nx:=N,ct:=N,bk:=D.nx } σ2 H2) (λ_ _ z=>z) hN hx p) λσ H p=>hd (λσ H=>D.nx σ H) σ H (λ_ _ z=>z) p
theorem Bx{lo:Int}{n:Nat}{g:TG}{tb:TS}{D:Ends}{σ:St}{H:Hp}(Pv:Nat->St->Hp->Prop)(h0:Pv 0 σ H)(hs:∀(i:Nat) (σ:St) (H:Hp) (N B:St->Hp->Prop),(∀σ H,(g (.int (lo+i)) σ H λσ2 H2=>tb { D with nx:=N,ct:=N,bk:=D.nx } σ2 H2)->B σ H)->(∀σ' H',Pv (i+1) σ' H'->N σ' H')->i<n->Pv i σ H->B σ H)(hd:∀(B:St->Hp->Prop) σ H,(∀σ H,D.nx σ H->B σ H)->Pv n σ H->B σ H):si (Itr lo n) D g tb σ H:=sA Pv h0 (λi σ H N hN hi p=>hs i σ H N (λσ H=>g (.int (lo+i)) σ H λσ2 H2=>tb { D with nx:=N,ct:=N,bk:=D.nx } σ2 H2) (λ_ _ z=>z) hN hi p) λσ H p=>hd (λσ H=>D.nx σ H) σ H (λ_ _ z=>z) p
theorem Jq{c:TT}{tb:TS}{D:Ends}{σ:St}{H:Hp}(W:Nat->St->Hp->Prop)(n0:Nat)(h0:W n0 σ H)(hs:∀(n:Nat) (σ:St) (H:Hp) (N:St->Hp->Prop) (B:Nat->St->Hp->Prop),(∀n σ H,(c σ H λb H1=>if b=true then ∃N:St->Hp->Prop,(∀σ' H',N σ' H'->∃m',m'<n/\W m' σ' H')/\tb { D with nx:=N,ct:=N,bk:=D.nx } σ H1 else D.nx σ H1)->B n σ H)->(∀n' σ' H',n'<n->W n' σ' H'->N σ' H')->(∀σ' H',N σ' H'->∃m',m'<n/\W m' σ' H')->W n σ H->B n σ H):Fw c tb D σ H:=vg W n0 h0 λn σ H N hN Ys w=>hs n σ H N (λn σ H=>c σ H λb H1=>if b=true then ∃N:St->Hp->Prop,(∀σ' H',N σ' H'->∃m',m'<n/\W m' σ' H')/\tb { D with nx:=N,ct:=N,bk:=D.nx } σ H1 else D.nx σ H1) (λ_ _ _ z=>z) hN Ys w
theorem an4{p0 p1 p2 p3:Prop}(h0:p0)(h1:p1)(h2:p2)(h3:p3):p0/\p1/\p2/\p3:=⟨h0,h1,h2,h3⟩
theorem an6{p0 p1 p2 p3 p4 p5:Prop}(h0:p0)(h1:p1)(h2:p2)(h3:p3)(h4:p4)(h5:p5):p0/\p1/\p2/\p3/\p4/\p5:=⟨h0,h1,h2,h3,h4,h5⟩
theorem an7{p0 p1 p2 p3 p4 p5 p6:Prop}(h0:p0)(h1:p1)(h2:p2)(h3:p3)(h4:p4)(h5:p5)(h6:p6):p0/\p1/\p2/\p3/\p4/\p5/\p6:=⟨h0,h1,h2,h3,h4,h5,h6⟩
end L2
namespace Pb
open L2 PySem
section
variable{m:Int}{rs:List Road}{r b:Int}{par:Int->Int}{dep:Int->Nat}
theorem Ii:∀(n:Nat)(v:Int),B9 par b n v=decide (b∈mU par n v)
 | 0,v=>by
   show decide (v=b)=decide (b∈[v]);exact decide_eq_decide.mpr ⟨λz=>by rw[z];exact aK,λz=>(aB.mp z).symm⟩
 | n+1,v=>by
   show(decide (v=b)||B9 par b n (par v))=decide (b∈v::mU par n (par v));rw[Ii n (par v)];by_cases c:v=b
   .rw[bg c,Bool.true_or,bg (by rw[c];exact aK)]
   .rw[aQ c,mX];exact decide_eq_decide.mpr ⟨λz=>aI _ z,λz=>by
     rcases ar.mp z with z|z
     .exact absurd z.symm c
     .exact z⟩
end
section
variable{m:Int}{rs:List Road}{r b:Int}{par:Int->Int}{dep:Int->Nat}
theorem QC:∀(k:Nat)(x:Int),up par (k+1) x=up par k (par x)
 | 0,_=>rfl
 | k+1,x=>by show par (up par (k+1) x)=par (up par k (par x));rw[QC k x]
theorem zc:∀(n k:Nat)(x:Int),k<=n->up par k x∈mU par n x
 | 0,0,x,_=>aK
 | n+1,0,x,_=>aK
 | n+1,k+1,x,h=>by
   rw[QC];exact aI _ (zc n k (par x) (by lia))
theorem Iu{f:Int->List Int}:∀{l:List Int}{k:Nat}{p:Int},(l.flatMap f)[k]?=some p->∃u∈l,∃k' rest,(f u)[k']?=some p/\(l.flatMap f).drop k=(f u).drop k'++rest
 | [],k,p,h=>by simp at h
 | u::l,k,p,h=>by
   rw[di]at h ⊢;by_cases c:k<(f u).length
   .rw[dA c]at h;exact⟨u,aK,k,l.flatMap f,h,jH (iP c)⟩
   .rw[dc (by lia)]at h;obtain⟨w,hw,k',rest,h1,h2⟩:=Iu h;refine⟨w,aI _ hw,k',rest,h1,?_⟩;rw[<-h2,List.drop_append,lM (by lia),jg]
theorem Qe(g:Good m rs)(R:ε m rs r par dep):∀(n:Nat)(v:Int),m.toNat-1-dep v=n->0<=v->v<m->∀(k:Nat)(p:Int),(cW m rs r par dep v)[k]?=some p->∃rest,(cW m rs r par dep v).drop k=cW m rs r par dep p++rest:=by
 intro n
 induction n with
 | zero=>
   intro v hn v0 v1 k p h;have e:cW m rs r par dep v=[v]:=by unfold cW;rw[hn];rfl
   cases k with
   | zero=>
     have:p=v:=(by rw[e]at h;exact(bq h).symm);rw[this];exact⟨[],by rw[bX];rfl⟩
   | succ k=>rw[e]at h;simp at h
 | succ n ih=>
   intro v hn v0 v1 k p h;have e:=kY g R v0 v1;cases k with
   | zero=>
     have:p=v:=(by rw[e]at h;exact(bq h).symm);rw[this];exact⟨[],by rw[bX];rfl⟩
   | succ k=>
     rw[e,im]at h;obtain⟨u,hu,k',rest,h1,h2⟩:=Iu h;obtain⟨ur,un,up⟩:=(bO g R v0 v1).mp hu;have du:=R.pos ur.1 ur.2 un;rw[up]at du;have dl:=mN R ur.1 ur.2;obtain⟨YJ,h3⟩:=ih u (by lia) ur.1 ur.2 k' p h1;exact⟨YJ++rest,by rw[e,j2,h2,h3,cU]⟩
theorem zD(g:Good m rs)(R:ε m rs r par dep){v:Int}(v0:0<=v)(v1:v<m):v∈cW m rs r par dep v:=by
 rw[kY g R v0 v1];exact aK
theorem Ry(g:Good m rs)(R:ε m rs r par dep){p:Int}(p0:0<=p)(p1:p<m)(x:Int):x∈cW m rs r par dep p↔(0<=x/\x<m)/\ben par dep p x=true:=by
 constructor
 .intro h;obtain⟨xr,k,e1,e2⟩:=(uN g R _ p p0 p1).2 x h;refine⟨xr,?_⟩;unfold ben;rw[Ii];refine bg ?_;rw[<-e2];exact zc _ _ _ (by lia)
 .rintro⟨xr,h⟩;generalize hn:dep x=n
  induction n generalizing x with
  | zero=>
    by_cases z:x=r
    .subst z;have:p=x:=by
      unfold ben at h;rw[R.root]at h;exact(dE h).symm
     rw[this];exact zD g R xr.1 xr.2
    .have:=R.pos xr.1 xr.2 z
     lia
  | succ n ih=>
    have z:x≠r:=λz=>by rw[z,R.root]at hn;lia
    have u:=R.up x xr.1 xr.2 z;rw[Qc R xr.1 xr.2 z]at h;by_cases y:x=p
    .rw[y];exact zD g R p0 p1
    .rw[aQ y,mX]at h;have hp:=ih (par x) u.1 h (by lia);obtain⟨k,hk⟩:=cL hp;obtain⟨rest,e⟩:=Qe g R _ p rfl p0 p1 k _ hk;refine cI (i:=k) ?_;rw[e,kY g R u.1.1 u.1.2];refine bo _ (aI _ (gH.mpr ⟨x,(bO g R u.1.1 u.1.2).mpr ⟨xr,z,rfl⟩,zD g R xr.1 xr.2⟩))
end
end Pb
namespace L2
open PySem
def VF(_ j:Int):Prop:=0<j/\j.natAbs.log2<9000
theorem vL{X:Cx}:ϸ X (binaryOp .FloorDiv) (rI VF λi j=>.int (i/j)):=opI λi j _ _ _ _ _ hc q=>by
 have h1:(0:Int)<j:=hc.1;exact PyProof.Rows.floordiv_int (by lia) (by rw[kE i (by lia)];exact q) (.inl (PyProof.noPylong_of_log2 hc.2))
end L2
namespace Pb
open PySem L2
def vPr(r:Int)(par:Int->Int)(v:Int):List V:=[.int v,front r par v]
abbrev ω(H:Hp)(r:Int)(par:Int->Int):List Addr->List Int->Prop:=Paired λq v=>H q=some (.tup (vPr r par v))
theorem ω.same{H H':Hp}{r:Int}{par:Int->Int}{qs:List Addr}{vs:List Int}(e:δ H H')(h:ω H r par qs vs):ω H' r par qs vs:=Paired.imp' (λq v x=>e q _ x) h
theorem ω.get{H:Hp}{r:Int}{par:Int->Int}:∀{ps:List Addr}{vs:List Int}{i:Nat}{x:V},ω H r par ps vs->(ps.map V.ref)[i]?=some x->∃p v,x=.ref p/\ps[i]?=some p/\vs[i]?=some v/\H p=some (.tup (vPr r par v))
 | _,_,i,x,.nil,e=>by simp at e
 | _,_,0,x,.cons (a:=p) (b:=r) h hs,e=>⟨p,r,by simpa using e.symm,by simp,by simp,h⟩
 | a::l1,_,i+1,x,.cons h hs,e=>by
   have e':(List.map V.ref l1)[i]?=some x:=by simpa using e
   obtain⟨p,r,h1,h2,h3,h4⟩:=ω.get hs e';exact⟨p,r,h1,by simpa using h2,by simpa using h3,h4⟩
theorem ω.snoc{H:Hp}{r:Int}{par:Int->Int}{q:Addr}{v:Int}(e:H q=some (.tup (vPr r par v))):∀{qs:List Addr}{vs:List Int},ω H r par qs vs->ω H r par (qs++[q]) (vs++[v])
 | _,_,.nil=>.cons e .nil
 | _,_,.cons x xs=>.cons x (ω.snoc e xs)
theorem IH{α β:Type}{R:α->β->Prop}{k₁:List α}{k₂:List β}(h:Paired R k₁ k₂):∀{l₁:List α}{l₂:List β},Paired R l₁ l₂->Paired R (l₁++k₁) (l₂++k₂)
 | _,_,.nil=>h
 | _,_,.cons x xs=>.cons x (IH h xs)
end Pb
set_option exponentiation.threshold 5000
namespace Pb
open L2 PySem
section
variable{m:Int}{rs:List Road}{r:Int}{par:Int->Int}{dep:Int->Nat}
def foU(op:Int->Int->Int)(m:Int)(rs:List Road)(r:Int)(par:Int->Int)(held:Int->Int)(con:Int->Int->Int):Nat->Int->Int
 | 0,v=>held v
 | n+1,v=>((bP m rs (front r par v) v).map λc=>con c (foU op m rs r par held con n c)).foldl op (held v)
def fo(op:Int->Int->Int)(m:Int)(rs:List Road)(r:Int)(par:Int->Int)(dep:Int->Nat)(held:Int->Int)(con:Int->Int->Int)(v:Int):Int:=foU op m rs r par held con (m.toNat-1-dep v) v
variable{op:Int->Int->Int}{held:Int->Int}{con:Int->Int->Int}
theorem u8(g:Good m rs)(R:ε m rs r par dep){v:Int}(h0:0<=v)(h1:v<m):fo op m rs r par dep held con v=((bP m rs (front r par v) v).map λc=>con c (fo op m rs r par dep held con c)).foldl op (held v):=by
 have du:∀u∈bP m rs (front r par v) v,dep u=dep v+1/\dep u+1<=m.toNat:=λu hu=>by
  obtain⟨w1,w2,w3⟩:=(bO g R h0 h1).mp hu;have:=R.pos w1.1 w1.2 w2;rw[w3]at this;exact⟨this,mN R w1.1 w1.2⟩
 unfold fo;cases e:m.toNat-1-dep v with
 | zero=>
   have:bP m rs (front r par v) v=[]:=dX.mpr λu hu=>by
    have:=du u hu
    lia
   rw[this]
   rfl
 | succ n=>
   show List.foldl op (held v) _=_;rw[dM λu hu=>show con u (foU op m rs r par held con n u)=con u (foU op m rs r par held con (m.toNat-1-dep u) u) by rw[show m.toNat-1-dep u=n by have:=du u hu;lia]]
def zw(op:Int->Int->Int):Prop:=∀a b c,op (op a b) c=op (op a c) b
theorem LH(ZM:zw op){l l':List Int}(h:l.Perm l'):∀a,l.foldl op a=l'.foldl op a:=by
 induction h with
 | nil=>exact λ_=>rfl
 | cons x _ ih=>exact λa=>ih _
 | swap x y l=>intro a;show List.foldl op (op (op a y) x) l=List.foldl op (op (op a x) y) l;rw[ZM]
 | trans _ _ h1 h2=>exact λa=>(h1 a).trans (h2 a)
theorem Ih(ZM:zw op):∀(l:List Int)(a x:Int),l.foldl op (op a x)=op (l.foldl op a) x
 | [],a,x=>rfl
 | y::l,a,x=>by show l.foldl op (op (op a x) y)=op (l.foldl op (op a y)) x;rw[ZM,Ih ZM l]
def tU(op:Int->Int->Int)(par:Int->Int)(con:Int->Int->Int)(cs:List Int)(v:Int):List Int:=cs.set (par v).toNat (op (cs.getD (par v).toNat 0) (con v (cs.getD v.toNat 0)))
structure ϰ(op:Int->Int->Int)(m:Int)(rs:List Road)(r:Int)(par:Int->Int)(dep:Int->Nat)(held:Int->Int)(con:Int->Int->Int)(t cs:List Int):Prop where
 len:(cs.length:Int)=m
 val:∀v,0<=v->v<m->cs.getD v.toNat 0=((t.filter λc=>decide (par c=v)).map λc=>con c (fo op m rs r par dep held con c)).foldl op (held v)
theorem ϰ.nil{hs:List Int}(h:(hs.length:Int)=m)(e:∀v,0<=v->v<m->hs.getD v.toNat 0=held v):ϰ op m rs r par dep held con [] hs:=⟨h,λv h0 h1=>e v h0 h1⟩
theorem ϰ.full(ZM:zw op)(g:Good m rs)(R:ε m rs r par dep){t cs:List Int}(s:ϰ op m rs r par dep held con t cs)(nd:t.Nodup)(tr:∀x∈t,(0<=x/\x<m)/\x≠r){v:Int}(h0:0<=v)(h1:v<m)(hk:∀k,0<=k->k<m->k≠r->par k=v->k∈t):cs.getD v.toNat 0=fo op m rs r par dep held con v:=by
 rw[s.val v h0 h1,u8 g R h0 h1,LH ZM ((zd g R nd tr h0 h1 hk).map _)]
theorem ϰ.step(ZM:zw op)(g:Good m rs)(R:ε m rs r par dep){t cs:List Int}(s:ϰ op m rs r par dep held con t cs){v:Int}(h0:0<=v)(h1:v<m)(hr:v≠r)(e:cs.getD v.toNat 0=fo op m rs r par dep held con v):ϰ op m rs r par dep held con (v::t) (tU op par con cs v) where
 len:=by unfold tU;rw[cP];exact s.len
 val:=λu u0 u1=>by
  have pu:=(R.up v h0 h1 hr).1;have sl:=s.len;have vu:=s.val u u0 u1;unfold tU;rw[e];by_cases c:par v=u
  .have hl:u.toNat<cs.length:=(by lia);rw[gi (by simpa using c),aH,List.foldl_cons,Ih ZM,<-vu,c];simp[List.getD,hl]
  .rw[fB (by simpa using c),<-vu];have:(par v).toNat≠u.toNat:=(by lia);simp[List.getD,cY this]
theorem Order.cut(R:ε m rs r par dep){t:List Int}(O:Order m r par t){i:Nat}{v:Int}(hv:t.reverse[i]?=some v):((0<=v/\v<m)/\v≠r)/\t.drop (t.length-(i+1))=v::t.drop (t.length-i)/\(t.drop (t.length-i)).Nodup/\(∀x∈t.drop (t.length-i),(0<=x/\x<m)/\x≠r)/\∀k,0<=k->k<m->k≠r->par k=v->k∈t.drop (t.length-i):=by
 have hi:i<t.length:=by
  have:=(aq.mp hv).1
  rwa [bj]at this
 rw[cB hi]at hv;generalize hj:t.length-1-i=j at hv;have ej:t.length-i=j+1:=by lia
 have ej':t.length-(i+1)=j:=by lia
 rw[ej,ej'];have hjl:j<t.length:=by lia
 have vm:v∈t:=aM hv;have vp:=O.places v vm;have ed:t.drop j=v::t.drop (j+1):=by
  rw[eO hjl];rw[ap hjl]at hv;cases hv
  rfl
 have es:t=t.take j++v::t.drop (j+1):=by rw[<-ed,b8]
 have ndt:=(bn.mp O.nd).2;have nd2:=ndt;rw[es]at nd2;have av:v∉t.take j:=λz=>(fI.mp nd2).2.2 v z v aK rfl;refine⟨vp,ed,ndt.sublist (List.drop_sublist _ _),λx hx=>O.places x (cI hx),λk k0 k1 kr pk=>?_⟩;rcases O.all k k0 k1 with z|z
 .exact absurd z kr
 .rw[es]at z;rcases bc.mp z with z|z
  .have af:=O.af;rw[es]at af;rcases af.up k z with w|w
   .rw[pk]at w;exact absurd (aB.mp w) vp.2
   .rw[pk]at w;exact absurd w av
  .rcases ar.mp z with z|z
   .subst z;exact absurd pk (R.ne k0 k1 kr)
   .exact z
theorem Order.acf(ZM:zw op)(g:Good m rs)(R:ε m rs r par dep){t cs:List Int}(O:Order m r par t){i:Nat}{v:Int}(s:ϰ op m rs r par dep held con (t.drop (t.length-i)) cs)(hv:t.reverse[i]?=some v):((0<=v/\v<m)/\v≠r)/\cs.getD v.toNat 0=fo op m rs r par dep held con v/\ϰ op m rs r par dep held con (t.drop (t.length-(i+1))) (tU op par con cs v):=by
 obtain⟨vp,ed,nd,tr,hk⟩:=O.cut R hv;have e:=s.full ZM g R nd tr vp.1.1 vp.1.2 hk;exact⟨vp,e,by rw[ed];exact s.step ZM g R vp.1.1 vp.1.2 vp.2 e⟩
def foL(op:Int->Int->Int)(m:Int)(rs:List Road)(r:Int)(par:Int->Int)(dep:Int->Nat)(held:Int->Int)(con:Int->Int->Int):List Int:=(cR m.toNat).map (fo op m rs r par dep held con)
theorem fL{v:Int}(h0:0<=v)(h1:v<m):(foL op m rs r par dep held con).getD v.toNat 0=fo op m rs r par dep held con v:=by
 unfold foL;rw[List.getD,aF,fZ (by lia),bH h0]
 rfl
theorem lS:(foL op m rs r par dep held con).length=m.toNat:=by unfold foL;rw[ah,da]
theorem Order.doneF(ZM:zw op)(g:Good m rs)(R:ε m rs r par dep){t cs:List Int}(O:Order m r par t)(s:ϰ op m rs r par dep held con t cs):cs=foL op m rs r par dep held con:=by
 have sl:=s.len;refine eW λi=>?_;by_cases h:i<m.toNat
 .have hc:i<cs.length:=by lia
  have e:=s.full ZM g R (bn.mp O.nd).2 O.places (v:=(i:Int)) (by lia) (by lia) λk k0 k1 kr pk=>(O.all k k0 k1).resolve_left kr;unfold foL;rw[aF,fZ h];rw[bD,List.getD,ap hc]at e;rw[ap hc];exact congrArg some e
 .rw[bI (by lia),bI (by rw[lS];lia)]
def mx(i j:Int):Int:=if j>i then j else i
theorem ye:zw mx:=λa b c=>by
 have h:∀x y,mx x y=max x y:=λx y=>by unfold mx;lia
 rw[h,h,h,h]
 lia
def bor(rs:List Road)(par:Int->Int)(v x:Int):Int:=x*(cX rs v (par v)).getD 1
abbrev υ(m:Int)(rs:List Road)(r:Int)(par:Int->Int)(dep:Int->Nat):Int->Int:=fo mx m rs r par dep (λ_=>1) (bor rs par)
abbrev cM(m:Int)(rs:List Road)(r:Int)(par:Int->Int)(dep:Int->Nat):List Int:=foL mx m rs r par dep (λ_=>1) (bor rs par)
theorem yj{B:Int}:∀(l:List Int)(a:Int),a<=B->(∀x∈l,x<=B)->a<=l.foldl mx a/\l.foldl mx a<=B/\∀x∈l,x<=l.foldl mx a
 | [],a,h,_=>⟨bA _,h,λx hx=>by cases hx⟩
 | y::l,a,h,hl=>by
   have hy:=hl y aK;have h1:a<=mx a y/\y<=mx a y/\mx a y<=B:=by unfold mx;split<;>lia
   obtain⟨i1,i2,i3⟩:=yj l (mx a y) h1.2.2 λx hx=>hl x (aI _ hx);refine⟨bE h1.1 i1,i2,λx hx=>?_⟩;rcases ar.mp hx with e|e
   .rw[e];exact bE h1.2.1 i1
   .exact i3 x e
theorem Bc(g:Good m rs)(R:ε m rs r par dep):∀(n:Nat)(v:Int),0<=v->v<m->1<=foU mx m rs r par (λ_=>1) (bor rs par) n v/\foU mx m rs r par (λ_=>1) (bor rs par) n v<=1000000^n
 | 0,v,_,_=>⟨bA _,bA _⟩
 | n+1,v,h0,h1=>by
   have hp:(1:Int)<=1000000^n:=Int.pow_pos (by decide);have he:(1000000:Int)^(n+1)=1000000^n*1000000:=Int.pow_succ ..;show 1<=List.foldl mx 1 _/\List.foldl mx 1 _<=_;obtain⟨i1,i2,_⟩:=yj (B:=1000000^(n+1)) ((bP m rs (front r par v) v).map λc=>bor rs par c (foU mx m rs r par (λ_=>1) (bor rs par) n c)) 1 (by lia) λx hx=>by
    obtain⟨c,hc,rfl⟩:=bu.mp hx;obtain⟨w1,w2,w3⟩:=(bO g R h0 h1).mp hc;obtain⟨k,hk,k0,k1⟩:=lY g R w1.1 w1.2 w2;obtain⟨b0,b1⟩:=Bc g R n c w1.1 w1.2;unfold bor;rw[hk,he];show _*k<=_;exact dD b1 k1 (by lia) (by lia)
   exact⟨i1,i2⟩
theorem gA(g:Good m rs)(R:ε m rs r par dep){v:Int}(h0:0<=v)(h1:v<m):1<=υ m rs r par dep v/\υ m rs r par dep v<=2^480:=by
 obtain⟨a,b⟩:=Bc g R (m.toNat-1-dep v) v h0 h1;refine⟨a,bE b ?_⟩;have Ζ:=g.Ζ;have:(1000000:Int)^(m.toNat-1-dep v)<=1000000^24:=by
  have hn:m.toNat-1-dep v<=24:=by lia
  have h:=Int.ofNat_le.mpr (bF (show 0<1000000 by decide) hn);rw[lN,lN]at h;exact h
 exact bE this (by decide +kernel)
theorem um(g:Good m rs)(R:ε m rs r par dep):∀x∈cM m rs r par dep,x.natAbs<2^4000:=λx hx=>by
 obtain⟨v,hv,rfl⟩:=bu.mp hx;obtain⟨v0,v1⟩:=gq.mp hv;obtain⟨h1,h2⟩:=gA g R v0 (show v<m by lia);have h3:((fo mx m rs r par dep (λ_=>1) (bor rs par) v).natAbs:Int)<=2^480:=by rw[Int.natAbs_of_nonneg (bE (by decide) h1)];exact h2
 have h4:(fo mx m rs r par dep (λ_=>1) (bor rs par) v).natAbs<=2^480:=by exact_mod_cast h3
 exact fu h4 (mi (by decide) (by decide))
theorem KP{w:Int}(h1:-(10^60)<=w)(h2:w<=10^60):(w-1).natAbs<2^4000:=by
 have h3:(w-1).natAbs<=10^60+1:=by lia
 exact fu h3 (aW (show 10^60+1<2^200 by decide +kernel) (bF (by decide) (by decide)))
def Zu(rs:List Road)(par:Int->Int)(xs:List Int)(v:Int):Int:=xs.getD v.toNat 0*((cX rs v (par v)).getD 1-1)
def ϱ(m:Int)(rs:List Road)(r:Int)(par:Int->Int)(xs:List Int)(w:Int):Int:=xs.getD r.toNat 0*(w-1)+(((cR m.toNat).filter λv=>decide (v≠r)).map (Zu rs par xs)).sum
theorem Order.sums{t:List Int}(O:Order m r par t)(f:Int->Int):(t.map f).sum=(((cR m.toNat).filter λv=>decide (v≠r)).map f).sum:=by
 refine tD ((iC (bn.mp O.nd).2 ((kh _).filter _) λx=>?_).map f);rw[b5,gq,bK];refine⟨λh=>⟨⟨(O.Μ x h).1,?_⟩,O.ne h⟩,λh=>(O.all x h.1.1 ?_).resolve_left h.2⟩
 .have:=(O.Μ x h).2
  lia
 .have:=h.1.2
  lia
theorem Order.YK{t:List Int}(O:Order m r par t)(r0:0<=r)(r1:r<m):t.length+1=m.toNat:=by
 have h:=(iC O.nd (kh m.toNat) λx=>by
  rw[ar,gq];refine⟨λh=>?_,λh=>O.all x h.1 (by have:=h.2;lia)⟩;rcases h with h|h
  .rw[h];exact⟨r0,by lia⟩
  .have:=O.Μ x h;exact⟨this.1,by lia⟩).length_eq
 rw[da,aE]at h;exact h
theorem Ak{f:Int->Int}{l:List Int}{i:Nat}{v:Int}(h:l[i]?=some v):((l.take (i+1)).map f).sum=((l.take i).map f).sum+f v:=by
 rw[bL,h,Option.toList_some,aD,eE];simp
structure Slk(m:Int)(rs:List Road)(par:Int->Int)(t cs:List Int):Prop where
 len:(cs.length:Int)=m
 pos:∀v,0<=v->v<m->1<=cs.getD v.toNat 0
 std:∀c∈t,cs.getD c.toNat 0*(cX rs c (par c)).getD 1<=cs.getD (par c).toNat 0
theorem Jd{cs:List Int}{i:Nat}(h:i<cs.length):cs.getD i 0∈cs:=by
 rw[List.getD,ap h];exact ee h
end
end Pb
namespace L2
open PySem PySem.Spec PyProof.Rows
theorem Vf{l:List Addr}(h:l.Nodup)(i j:Nat){a b:Addr}(hi:l[i]?=some a)(hj:l[j]?=some b)(ij:i≠j):a≠b:=λz=>by
 subst z;obtain⟨h1,e1⟩:=aq.mp hi;obtain⟨h2,e2⟩:=aq.mp hj;rcases Nat.lt_or_gt_of_ne ij with q|q
 .exact eK.mp h i j h1 h2 q (e1.trans e2.symm)
 .exact eK.mp h j i h2 h1 q (e2.trans e1.symm)
inductive Xx(K:PySem.W.Frag)(C:Addr):List V->List Bool->Prop
 | nil:Xx K C [] []
 | cons {cv:V} {b:Bool} {cvs:List V} {bs:List Bool} (h:KM K C cv b) (t:Xx K C cvs bs):Xx K C (cv::cvs) (b::bs)
theorem Ja{K:PySem.W.Frag}{C:Addr}(c:iS K C):∀{cvs:List V}{us:List Value}{bs:List Bool},Vals cvs us->Xx K C cvs bs->PySem.W.kitAny K (.ref C) us=some (bs.any id)
 | _,_,_,.nil,.nil=>rfl
 | _,_,_,.cons r t,.cons (b:=true) h hs=>by
   unfold PySem.W.kitAny;rw[CF c r h]
   rfl
 | _,_,_,.cons r t,.cons (b:=false) h hs=>by
   unfold PySem.W.kitAny;rw[CF c r h];have h2:=Ja c t hs;exact h2
def Qw(K:PySem.W.Frag):List V->Hp->VK->Prop:=λxs H Q=>∃ea C od tp cvs bs,xs=[.ref ea,.ref tp]/\H ea=some (Y1 ea (.ref C) od)/\AZ H od/\iS K C/\H tp=some (.tup cvs)/\Xx K C cvs bs/\Q (.bl (bs.any id)) H
section
variable{X:Cx}
theorem Lw:kR X (.builtin "isinstance") (Qw X.K):=by
 intro pins s σ H xs us Q I r h;obtain⟨ea,C,od,tp,cvs,bs,rfl,he,hd,c,ht,hk,q⟩:=h;obtain⟨u,cu,rfl,ru,rc⟩:=EB r;cases(show u=Value.ref ea from ru);cases(show cu=Value.ref tp from rc);obtain⟨ox,oo,ia⟩:=FL I he hd;obtain⟨its,rv,⟨⟨oc,odd,dat,sl⟩,e,e1,n,e2⟩,_⟩:=I.tuple (Η.of ht);cases e1;cases e2;exact PySem.W.kia_tup (Fo (x:=ea) (ox:=ox) (od:=oo) c) I.YZ ia e (Ja c rv hk) (λz=>nomatch z) λtk=>⟨.bl (bs.any id),H,I.tok tk,rfl,q⟩
def eqT:Value->Bool
 | .bool b=>b
 | _=>false
theorem SH{bs:List Bool}{its:List Value}(r:Vals (bs.map V.bl) its):its=bs.map Value.bool:=by
 induction bs generalizing its with
 | nil=>cases r;rfl
 | cons b bs ih=>
   cases r with
   | cons h t=>
     rw[ih t,show _=Value.bool b from h]
     rfl
theorem QA(b:Bool):PySem.MeetsSeq.EqGives (.bool b) (.bool true) b:=λprog w A E s Q h=>by
 have:=PySem.SeqAt.EqAt.bool_bool (A:=A) (s:=s) b true prog w E Q;cases b
 .exact this h
 .exact this h
def abr:V->List V->Hp->VK->Prop:=λx vs H Q=>∃(l:Addr)(bs:List Bool),x=.ref l/\vs=[.bl true]/\H l=some (.lst (bs.map V.bl))/\Q (.int (bs.countP id:Nat)) H
theorem MM:MtM X "list.count" abr:=by
 intro pins s σ H x vs v us Q I rx rv h;obtain⟨l,bs,rfl,rfl,hH,q⟩:=h;cases rx;obtain⟨u,rfl,ru⟩:=rv.one;cases(show u=Value.bool true from ru);obtain⟨z,its,n,r,hl,e⟩:=I.Xs hH;have ei:=SH r;subst ei;have hc:(bs.map Value.bool).countP eqT=bs.countP id:=by
  rw[List.countP_map]
  rfl
 refine call_meets F.slot_list_count ⟨_,e,rfl⟩ F.entry_list_count (F.args_list_count_2 _ _) (PySem.MeetsSeq.list_count l (bs.map Value.bool).toArray n (.bool true) eqT (λv hv=>?_)) ⟨e,?_⟩
 .obtain⟨b,_,rfl⟩:=bu.mp (show v∈bs.map Value.bool by simpa using hv);exact QA b
 .refine⟨.int _,H,I.kept (t':=s.toks+1) λb o eb=>eb,⟨s.toks,rfl⟩,?_⟩;show Q (.int (((bs.map Value.bool).toArray.toList.countP eqT:Nat):Int)) H;rw[List.toList_toArray,hc];exact q
def abt:V->List V->Hp->VK->Prop:=λx vs H Q=>∃(l:Addr)(bs:List Bool)(j:Nat),x=.ref l/\vs=[.bl true]/\H l=some (.lst (bs.map V.bl))/\bs[j]?=some true/\(∀i,i<j->bs[i]?=some false)/\j<1000/\Q (.int j) H
theorem LI:MtM X "list.index" abt:=by
 intro pins s σ H x vs v us Q I rx rv h;obtain⟨l,bs,j,rfl,rfl,hH,hj,hno,j1,q⟩:=h;cases rx;obtain⟨u,rfl,ru⟩:=rv.one;cases(show u=Value.bool true from ru);obtain⟨z,its,n,r,hl,e⟩:=I.Xs hH;have ei:=SH r;subst ei;have hjl:j<bs.length:=(aq.mp hj).1;refine call_meets F.slot_list_index ⟨_,e,rfl⟩ F.entry_list_index (F.args_list_index_2 _ _) (PySem.MeetsSeq.list_index l (bs.map Value.bool).toArray n (.bool true) eqT (λv hv=>?_) j (by simpa using hjl) (by lia) ?_ λi hi hij=>?_) ⟨e,?_⟩
 .obtain⟨b,_,rfl⟩:=bu.mp (show v∈bs.map Value.bool by simpa using hv);exact QA b
 .have:=(aq.mp hj).2;simp[eqT,this]
 .have Za:i<bs.length:=by lia
  have:=(aq.mp (hno i hij)).2;simp[eqT,this]
 .exact⟨.int j,H,I.kept (t':=s.toks+1) λb o eb=>eb,⟨s.toks,rfl⟩,q⟩
end
section
variable{P:Program}{w:World}{A:Around}{R:Result->Shared->Prop}{I S:Addr}{fp wr:List Addr}{n:Nat}{Pv:Nat->Value->Prop}{St:Nat->Heap->Prop}{bt:Nat->Nat->Bool}{kw:List (Str×Value)}
abbrev SZ(I S:Addr)(kw:List (Str×Value)):Code:=.builtin "min.loop" ⟨[.ref I,.none,.ref S],kw⟩
abbrev WO(v:Value)(c:Nat):Obj:={ cls:=.type "list",dict:=none,data:=.seq #[v,v] c,slots:=#[] }
theorem xZ:(toString "min" ++ toString ".loop":String)="min.loop":=by decide
def SW(R:Result->Shared->Prop)(Pv:Nat->Value->Prop)(bt:Nat->Nat->Bool)(n:Nat)(wr:List Addr)(S:Addr)(s:Shared):Prop:=∀v h' tk,Pv (argBest bt (n-1)) v->(∀b o,b∉wr->b≠S->s.heap.get? b=some o->h'.get? b=some o)->R (.ok (.ret v)) { s with heap:=h',toks:=tk }
theorem S3(W:Walks P w A.in1 I fp wr n Pv St)(cm:CmpOf P w A.in1 .Lt Pv bt)(ns:S∉fp):∀(k j:Nat)(s:Shared)(vb:Value)(c:Nat),n-(j+1)=k->j+1<=n->St (j+1) s.heap->Pv (argBest bt j) vb->s.heap.get? S=some (WO vb c)->SW R Pv bt n wr S s->codeAny (model P w) A (SZ I S kw) R s:=by
 have nw:S∉wr:=λh=>ns (W.sub _ h);intro k
 induction k with
 | zero=>
   intro j s vb c hk hj ZT hb hS hR;have jn:j+1=n:=by lia
   apply lg lA;rw[jZ (fm) _];change wpAny _ A.in1 (seqItems? (.ref S)>>=_) _ _ s;apply ak;apply cV hS rfl;change wpAny _ A.in1 (tryCatch (pyNext (.ref I)) _>>=_) _ _ s;exact ak (jF (W.done s _ _ (jn▸ZT) λh' tk kp=>ak (je (kp S _ nw hS) rfl (ak (fJ (aR (hR vb _ tk (by rw[<-jn];exact hb) λb o bw bS e=>(bM _ _ (Ne.symm bS)).trans (kp b o bw e))))))))
 | succ k ih=>
   intro j s vb c hk hj ZT hb hS hR;have jl:j+1<n:=by lia
   apply lg lA;rw[jZ (fm) _];change wpAny _ A.in1 (seqItems? (.ref S)>>=_) _ _ s;apply ak;apply cV hS rfl;change wpAny _ A.in1 (tryCatch (pyNext (.ref I)) _>>=_) _ _ s;refine ak (jF (W.item (j+1) s _ _ jl ZT λv h' tk hP Yz kp=>?_));have S':=kp S _ nw hS;change wpAny _ A.in1 (tryCatch (holding [v,v] (richCompare .Lt v vb>>=_)) _>>=_) _ _ _;refine ak (jF (fh (ak (cm (j+1) (argBest bt j) v vb _ _ _ hP hb (ak (fh (c9 (ak (fJ (aR ?_))))))))));cases hbt:bt (j+1) (argBest bt j)with
   | true=>
     simp only[if_true];refine ak (je S' rfl (ak (fJ ?_)));rw[xZ];exact aR ⟨plainId_quiet fm _,ih (j+1) _ v _ (by lia) jl (W.frame _ _ _ Yz λb bf o e=>(bM _ _ (λh:S=b=>ns (by rw[h];exact bf))).trans e) (by simp only[argBest,hbt,if_true];exact hP) (dC _ S' rfl) λv' h'' aak p' k''=>hR v' h'' aak p' λb o bw bS e=>k'' b o bw bS ((bM _ _ (Ne.symm bS)).trans (kp b o bw e))⟩
   | false=>
     simp only[if_false,bR];refine ak (fJ ?_);rw[xZ];exact aR ⟨plainId_quiet fm _,ih (j+1) _ vb _ (by lia) jl Yz (by simp only[argBest,hbt,bR,if_false];exact hb) S' λv' h'' aak p' k''=>hR v' h'' aak p' λb o bw bS e=>k'' b o bw bS (kp b o bw e)⟩
theorem Lp(W:Walks P w A.in1 I fp wr n Pv St)(cm:CmpOf P w A.in1 .Lt Pv bt)(ns:S∉fp)(n0:0<n){s:Shared}{c:Nat}(ZT:St 0 s.heap)(hS:s.heap.get? S=some { cls:=.type "list",dict:=none,data:=.seq #[] c,slots:=#[] })(hR:SW R Pv bt n wr S s):codeAny (model P w) A (SZ I S kw) R s:=by
 have nw:S∉wr:=λh=>ns (W.sub _ h);apply lg lA;rw[jZ (fm) _];change wpAny _ A.in1 (seqItems? (.ref S)>>=_) _ _ s;apply ak;apply cV hS rfl;change wpAny _ A.in1 (tryCatch (pyNext (.ref I)) _>>=_) _ _ s;refine ak (jF (W.item 0 s _ _ n0 ZT λv h' tk hP Yz kp=>?_));have S':=kp S _ nw hS;change wpAny _ A.in1 (updateSeq S (λ_=>#[v,v])>>=_) _ _ _;refine ak (je S' rfl ?_);rw[xZ];exact aR ⟨plainId_quiet fm _,S3 W cm ns _ 0 _ v _ rfl n0 (W.frame _ _ _ Yz λb bf o e=>(bM _ _ (λh:S=b=>ns (by rw[h];exact bf))).trans e) hP (dC _ S' rfl) λv' h'' aak p' k''=>hR v' h'' aak p' λb o bw bS e=>k'' b o bw bS ((bM _ _ (Ne.symm bS)).trans (kp b o bw e))⟩
theorem LJ(a d:Value):argsOk "min" ⟨[a],[("default",d)]⟩:=by unfold argsOk;kernel_rfl
theorem Gp{E:Value->Shared->Prop}{s:Shared}{id:String}{b:Builtin}{args:List Value}{Q:Value->Shared->Prop}(hk:builtinKind id=none)(hp:plainId id=true)(hb:entryFor table id=some b)(ha:argsOk id ⟨args,kw⟩)(hc:wpAny (model P w) A.in1 (b ⟨args,kw⟩) (λfin s'=>match fin with|.done f=>(match (Except.ok f:Result)with|.ok (.ret v)=>Q v s'|.ok _=>False|.error e=>E e s')|.again c'=>c'.quiet=true/\codeAny (model P w) A c' (λr s'=>match r with|.ok (.ret v)=>Q v s'|.ok _=>False|.error e=>E e s') s') E s):wpAny (model P w) A (call (.builtin id) args kw) Q E s:=by
 apply jV;apply codeAny_call_builtin hp hb;simp only[checkBuiltinCall,hk];cases e:Manifest.signature? id with
 | none=>exact aR hc
 | some sg=>
   have h2:Bind.checkArgs id sg ⟨args,kw⟩=pure ():=by simpa only[argsOk,e]using ha
   simp only[h2];exact aR hc
theorem Lm{E:Value->Shared->Prop}{s:Shared}{x d:Value}{Q:Value->Shared->Prop}(h:wpAny (model P w) A.in1 (pyIter x) (λit s2=>∃I fp wr n Pv St bt,it=.ref I/\Walks P w A.in1 I fp wr n Pv St/\St 0 s2.heap/\(∀b∈fp,b<s2.heap.objs.size)/\0<n/\CmpOf P w A.in1 .Lt Pv bt/\∀v h' tk,Pv (argBest bt (n-1)) v->(∀b o,b∉wr->s2.heap.get? b=some o->h'.get? b=some o)->Q v { s2 with heap:=h',toks:=tk }) E s):wpAny (model P w) A (call (.builtin "min") [x] [("default",d)]) Q E s:=by
 refine Gp F.kind_min F.plain_min F.entry_min (LJ _ _) ?_;change wpAny _ A.in1 (Builtin.Builtins.bindParams "min" ["key","default"] 0 ⟨[],[("default",d)]⟩>>=_) _ _ s;refine ak (wpAny_of_eq (show Builtin.Builtins.bindParams "min" ["key","default"] 0 ⟨[],[("default",d)]⟩=pure [none,some d]from rfl) (ak (aR (ak (b9 h (λit s2 h2=>?_) λ_ _ e=>e)))));obtain⟨I,fp,wr,n,Pv,St,bt,rfl,W,st,lt,n0,cm,q⟩:=h2;refine ak (fD ?_);have nS:s2.heap.objs.size∉fp:=λhm=>cG _ (lt _ hm);rw[xZ];exact aR ⟨plainId_quiet fm _,Lp W cm nS n0 (W.frame _ _ _ st λb _ o e=>aw _ e) (ba _ rfl) λv h' tk hP kp=>q v h' tk hP λb o bw e=>kp b o bw (aV (aG e)) (aw _ e)⟩
end
theorem yR(f:Nat->Int):∀n,argBest (λi j=>decide (f i<f j)) n<=n/\∀i,i<=n->f (argBest (λi j=>decide (f i<f j)) n)<=f i
 | 0=>⟨aA _,λi h=>by rw[show i=0 by lia];exact bA _⟩
 | n+1=>by
   obtain⟨h1,h2⟩:=yR f n;show(if decide (f (n+1)<f (argBest (λi j=>decide (f i<f j)) n))=true then n+1 else argBest (λi j=>decide (f i<f j)) n)<=n+1/\∀i,i<=n+1->f (if decide (f (n+1)<f (argBest (λi j=>decide (f i<f j)) n))=true then n+1 else argBest (λi j=>decide (f i<f j)) n)<=f i;by_cases c:f (n+1)<f (argBest (λi j=>decide (f i<f j)) n)
   .rw[aj (bg c)];refine⟨aA _,λi h=>?_⟩;by_cases z:i=n+1
    .rw[z];exact bA _
    .have:=h2 i (by lia)
     lia
   .rw[ag (by simpa using c)];refine⟨by lia,λi h=>?_⟩;by_cases z:i=n+1
    .rw[z];lia
    .exact h2 i (by lia)
section
variable{X:Cx}{x:Str}{p pos aaX:Pos}{e de:Expr}{t tk:TA}
def JA(K:PySem.W.Frag)(t tk:TA):TE:=λσ H Q=>t σ H λvs H1=>tk σ H1 λzs H2=>∃(q:Addr)(ns:List Int)(d:V),vs=[.ref q]/\zs=[d]/\μ K H2 q (ns.map V.int)/\ns≠[]/\∀y,y∈ns->(∀x∈ns,y<=x)->Q (.int y) H2
theorem Q2(hc:X.calm=true)(hg:Gl X x)(hm:X.mg x=none)(hv:bootBuiltins x=some (.builtin "min"))(ha:PA X [e] t)(hkw:PK X [⟨some "default",de,aaX⟩] tk)(hn:x≠"__name__":=by decide)(hdb:(x==("__debug__":Str))=false:=by decide)(hsa:backTo pos (starEach [e] X.env)=(false,eval e X.env)::backTo pos (starEach [] X.env):=by rfl)(hsb:(backTo pos (starEach [e] X.env)).any (·.1)=false:=by rfl):PE X (.Call (.Name x p) [e] [⟨some "default",de,aaX⟩] pos) (JA X.K t tk):=by
 intro pins s σ H Q I h;refine fA (nI I hg hm hv ?_ hn hdb);refine PyProof.Rows.callWith_kw (rL (ha pos pins s σ H _ I h) λus s1 vs H1 I1 r1 q1=>Ψ (hkw pos pins s1 σ H1 _ I1 q1) λws s2 ⟨zs,H2,I2,rz,q2⟩=>?_) hsa hsb;obtain⟨q,ns,d,rfl,rfl,hp,hne,qq⟩:=q2;obtain⟨u,rfl,ru⟩:=sy r1;obtain⟨du,rfl,rd⟩:=sy rz;cases ru;have hh:X.A.in1.handled=none:=I2.ok.hd hc;obtain⟨its,rv,pl,hz⟩:=I2.list hp;have hlen:its.length=ns.length:=by rw[<-rv.length,ah]
 have aeK:∀(i:Nat)(v:Value),its.toArray[i]?=some v->∃t,v=Value.int (ns.getD i 0) t:=λi v hP=>by
  have hi:its[i]?=some v:=by simpa using hP
  have hib:i<ns.length:=by rw[<-hlen];exact(aq.mp hi).1
  obtain⟨u,hu,ru⟩:=rv.get (i:=i) (x:=V.int ns[i]) (by rw[aF,ap hib];rfl);rw[hi]at hu;cases hu;obtain⟨t,e⟩:=(show ∃t,v=Value.int ns[i] t from ru);exact⟨t,by rw[e];simp[List.getD,hib]⟩
 have hl:=pl.isList;have Χ:=pl.lt;have n0:0<ns.length:=List.length_pos_iff.mpr hne;refine Lm (gm hl ?_);refine⟨s2.heap.objs.size,[s2.heap.objs.size,q],[s2.heap.objs.size],its.toArray.size,_,_,_,rfl,Walks.list (A:=X.A.in1) hh _ q (aV Χ) its.toArray,⟨⟨_,ba _ rfl,rfl,rfl⟩,hl.push _⟩,λb hb=>?_,by rw[aN,hlen];exact n0,CmpOf.ints_lt (λi=>ns.getD i 0) λi v hP=>aeK i v hP,λv h' tk hP hk=>?_⟩
 .simp only[Heap.push,mD];rcases ar.mp hb with e|e
  .rw[e];exact eU _
  .rw[aB.mp e];exact fE Χ
 .have kk:∀b o,s2.heap.get? b=some o->h'.get? b=some o:=λb o eb=>hk b o (λhm=>by rw[aB.mp hm]at eb;exact cG _ (aG eb)) (aw _ eb);obtain⟨t,rfl⟩:=aeK _ v hP;obtain⟨a1,a2⟩:=yR (λi=>ns.getD i 0) (its.toArray.size-1);rw[aN,hlen]at a1 a2 ⊢;generalize argBest (λi j=>decide (ns.getD i 0<ns.getD j 0)) (ns.length-1)=b at a1 a2 ⊢;have hb:b<ns.length:=by lia
  refine⟨.int _,H2,I2.kept (t':=tk) kk,⟨t,rfl⟩,qq _ ?_ λy hy=>?_⟩
  .rw[List.getD,ap hb];exact ee hb
  .obtain⟨i,hi,rfl⟩:=dL hy;have:=a2 i (by lia);have e2:ns.getD i 0=ns[i]:=(by rw[List.getD,ap hi];rfl);rw[<-e2];exact this
end
end L2
namespace Pb
open L2 PySem
section
variable{m:Int}{rs:List Road}{r:Int}{par:Int->Int}{dep:Int->Nat}
def tup(rs:List Road)(par:Int->Int)(v:Int):Int:=(cX rs v (par v)).getD 1
theorem jX(g:Good m rs)(R:ε m rs r par dep){v:Int}(h0:0<=v)(h1:v<m)(hr:v≠r):2<=tup rs par v/\tup rs par v<=1000000:=by
 obtain⟨k,hk,k0,k1⟩:=lY g R h0 h1 hr;unfold tup;rw[hk];exact⟨k0,k1⟩
theorem Dr:∀(l:List Int)(a:Int),l.foldl mx a=a\/l.foldl mx a∈l
 | [],a=>.inl rfl
 | y::l,a=>by
   show l.foldl mx (mx a y)=a\/l.foldl mx (mx a y)∈y::l;rcases Dr l (mx a y)with h|h
   .rw[h];unfold mx;by_cases c:y>a
    .rw[aj c];exact .inr aK
    .rw[ag c];exact .inl rfl
   .exact .inr (aI _ h)
theorem Dt(g:Good m rs)(R:ε m rs r par dep){v:Int}(h0:0<=v)(h1:v<m)(hk:bP m rs (front r par v) v≠[]):∃c∈bP m rs (front r par v) v,υ m rs r par dep c*tup rs par c=υ m rs r par dep v:=by
 have e:υ m rs r par dep v=((bP m rs (front r par v) v).map λc=>bor rs par c (υ m rs r par dep c)).foldl mx 1:=u8 g R h0 h1;have at':=Dr ((bP m rs (front r par v) v).map λc=>bor rs par c (υ m rs r par dep c)) 1;rw[<-e]at at';rcases at' with h|h
 .exfalso
  obtain⟨c,l,ek⟩:=List.exists_cons_of_ne_nil hk;have hc:c∈bP m rs (front r par v) v:=by rw[ek];exact aK
  obtain⟨c1,c2,c3⟩:=(bO g R h0 h1).mp hc;have tk:=jX g R c1.1 c1.2 c2;have wb:=gA g R c1.1 c1.2;have hB:∀x∈(bP m rs (front r par v) v).map λc=>bor rs par c (υ m rs r par dep c),x<=2^480*1000000:=λx hx=>by
   obtain⟨d,hd,rfl⟩:=bu.mp hx;obtain⟨d1,d2,d3⟩:=(bO g R h0 h1).mp hd;have tk:=jX g R d1.1 d1.2 d2;have wb:=gA g R d1.1 d1.2;show _*tup rs par d<=_;exact dD wb.2 tk.2 (by lia) (by decide +kernel)
  obtain⟨_,_,i3⟩:=yj (B:=2^480*1000000) ((bP m rs (front r par v) v).map λc=>bor rs par c (υ m rs r par dep c)) 1 (by decide +kernel) hB;have:υ m rs r par dep c*tup rs par c<=_:=i3 _ (bu.mpr ⟨c,hc,rfl⟩);rw[<-e,h]at this;have h2:(1:Int)*2<=υ m rs r par dep c*tup rs par c:=dD wb.1 tk.1 (by decide) (by lia)
  lia
 .obtain⟨c,hc,ec⟩:=bu.mp h;exact⟨c,hc,ec⟩
def ZN(o:Option Int):V:=match o with|none=>.ο|some b=>.int b
def ZV(m:Int)(ch:Int->Option Int):List V:=(cR m.toNat).map λv=>ZN (ch v)
theorem Jf{ch:Int->Option Int}{v:Int}(h0:0<=v)(h1:v<m):Ϣ (ZV m ch) v=some (ZN (ch v)):=by
 refine cq h0 ?_;unfold ZV;rw[aF,fZ (by lia),bH h0]
 rfl
theorem RE{ch:Int->Option Int}{v b:Int}(h0:0<=v)(h1:v<m):(ZV m ch).set v.toNat (.int b)=ZV m λx=>if x=v then some b else ch x:=by
 refine eW λi=>?_;unfold ZV;by_cases c:i<m.toNat
 .rw[aF,fZ c];by_cases z:v.toNat=i
  .rw[<-z,dP (by rw[ah,da];lia)];show _=some (ZN (if((v.toNat:Nat):Int)=v then some b else _));rw[aj (by lia)]
   rfl
  .rw[cY z,aF,fZ c];show some (ZN (ch _))=some (ZN (if((i:Nat):Int)=v then some b else _));rw[ag (by lia)]
 .rw[bI (by rw[cP,ah,da];lia),bI (by rw[ah,da];lia)]
def Yt(m:Int)(rs:List Road)(r:Int)(par:Int->Int)(dep:Int->Nat)(t:List Int)(v:Int):Option Int:=(t.filter λb=>decide (par b=v/\υ m rs r par dep b*tup rs par b=υ m rs r par dep v)).getLast?
theorem MG{t:List Int}{v:Int}(h:υ m rs r par dep v*tup rs par v=υ m rs r par dep (par v)):Yt m rs r par dep (t++[v])=λx=>if x=par v then some v else Yt m rs r par dep t x:=by
 funext x
 unfold Yt;rw[c8];by_cases c:x=par v
 .subst c;rw[aj rfl,gi (by simpa using h),lX,List.getLast?_append]
  rfl
 .rw[ag c,fB (by simp;intro z;exact absurd z.symm c),lX,bX]
theorem L6{t:List Int}{v:Int}(h:¬υ m rs r par dep v*tup rs par v=υ m rs r par dep (par v)):Yt m rs r par dep (t++[v])=Yt m rs r par dep t:=by
 funext x
 unfold Yt;rw[c8,fB (by simp;intro z;rw[<-z];exact h),lX,bX]
variable{ch:Int->Option Int}{w:Int}{cn:Int->Int}
theorem Q6{x k:Int}(hk:2<=k):((x+1)*k-1)/k=x:=by
 rw[show(x+1)*k-1=(k-1)+x*k by rw[iB];lia,Int.add_mul_ediv_right _ _ (by lia),Int.ediv_eq_zero_of_lt (by lia) (by lia),dq]
theorem zy(f:Int->Int)(h:Int->List Int):∀l:List Int,((l.flatMap h).map f).sum=(l.map λc=>((h c).map f).sum).sum
 | []=>rfl
 | a::l=>by rw[di,aD,eE,zy f h l,aH,aZ]
theorem z9(f h:Int->Int):∀l:List Int,(l.map λc=>f c-h c).sum=(l.map f).sum-(l.map h).sum
 | []=>rfl
 | a::l=>by rw[aH,aH,aH,aZ,aZ,aZ,z9 f h l];lia
theorem Ip(g:Good m rs)(R:ε m rs r par dep){t:List Int}(O:Order m r par t):Slk m rs par t (cM m rs r par dep) where
 len:=by
  have:=g.m1;rw[lS]
  lia
 pos:=λv v0 v1=>by rw[fL v0 v1];exact(gA g R v0 v1).1
 std:=λc hc=>by
  have cr:=O.Μ c hc;have cn:=O.ne hc;have u:=R.up c cr.1 cr.2 cn;rw[fL cr.1 cr.2,fL u.1.1 u.1.2];have hk:c∈bP m rs (front r par (par c)) (par c):=(bO g R u.1.1 u.1.2).mpr ⟨cr,cn,rfl⟩;have e:υ m rs r par dep (par c)=((bP m rs (front r par (par c)) (par c)).map λc=>bor rs par c (υ m rs r par dep c)).foldl mx 1:=u8 g R u.1.1 u.1.2;have hB:∀x∈(bP m rs (front r par (par c)) (par c)).map λc=>bor rs par c (υ m rs r par dep c),x<=2^480*1000000:=λx hx=>by
   obtain⟨d,hd,rfl⟩:=bu.mp hx;obtain⟨d1,d2,d3⟩:=(bO g R u.1.1 u.1.2).mp hd;have tk:=jX g R d1.1 d1.2 d2;have wb:=gA g R d1.1 d1.2;show _*tup rs par d<=_;exact dD wb.2 tk.2 (by lia) (by decide +kernel)
  obtain⟨_,_,i3⟩:=yj (B:=2^480*1000000) ((bP m rs (front r par (par c)) (par c)).map λc=>bor rs par c (υ m rs r par dep c)) 1 (by decide +kernel) hB;have:=i3 _ (bu.mpr ⟨c,hk,rfl⟩);rw[<-e]at this;exact this
end
end Pb
namespace L2
open PySem PySem.Spec PyProof.Rows PySem.W
section
variable{n:Nat}
variable(hn:0<n)
include hn
end
end L2
namespace L2
theorem Fe{κ:Type}[DecidableEq κ]{η:List (κ×V)}{k:κ}{v:V}{p:κ×V}(h:p∈ig η k v):p.1=k\/∃q∈η,p.1=q.1:=by
 unfold ig at h;split at h
 .obtain⟨q,hq,e⟩:=bu.mp h;refine .inr ⟨q,hq,?_⟩;rw[<-e];split<;>rfl
 .rcases bc.mp h with h|h
  .exact .inr ⟨p,h,rfl⟩
  .rw[aB.mp h];exact .inl rfl
end L2
namespace Pb
open L2 PySem
theorem GM:∀{z:List Int},(∀x∈z,0<=x)->0<=z.sum
 | [],_=>bA 0
 | x::z,h=>by
   have h1:=h x (.head _);have h2:=GM λy hy=>h y (.tail _ hy);rw[aZ]
   lia
end Pb
namespace L2
open PySem PySem.Spec PyProof.Rows
theorem FV{j:Int}{n:Nat}(h0:j≠0)(h:j.natAbs<2^n)(hn:n<=9000):j.natAbs.log2<9000:=aW ((nJ (by lia)).mpr h) hn
end L2
namespace Pb
open L2 PySem PySem.W NumText
theorem _root_.List.ι{α β:Type}{f:α->β}{l:List α}{i:Nat}{y:β}(h:(l.map f)[i]?=some y):∃x,l[i]?=some x/\y=f x:=by
 rw[aF]at h;cases e:l[i]? with
 | none=>rw[e]at h;cases h
 | some x=>rw[e]at h;exact⟨x,rfl,(bq h).symm⟩
end Pb
namespace L2
open PySem PySem.Spec PyProof.Rows PySem.W
theorem EJ{X:Cx}(K:PySem.W.Frag)(hK:X.K=K){T:String}{name:Str}{id:String}{r:V->List V->Hp->VK->Prop}{o e:Expr}{es:List Expr}{to:TE}{t:TA}{apos Υ:Pos}(pa:PlainAttrs T)(slot:Slot T name id)(hty:typeOf (.builtin id)=pure (.type "method_descriptor"))(hm:MtR X id r)(ho:PE X o to)(ha:PA X (e::es) t)(YC:attributeBase o name X.env (eval o X.env)=eval o X.env:=by rfl)(acE:((backTo Υ (starEach (e::es) X.env)).all (λx=>!x.1)&&(backToKw Υ (keywordEach [] X.env)).all (λx=>x.1.isSome)
 && decide ((e::es).length+([]:List Keyword).length+(if([]:List Keyword).isEmpty then 0 else 1)<30))=true:=by rfl)(hline:(apos.endLine==Υ.line)=true:=by rfl)(hs:starEach (e::es) X.env=(false,eval e X.env)::starEach es X.env:=by rfl)(Y4:(backTo Υ (starEach es X.env)).any (·.1)=false:=by rfl):PE X (.Call (.Attribute o name apos) (e::es) [] Υ) (tBM K T r to t):=by
 subst hK;exact jI pa slot hty hm ho ha YC acE hline hs Y4
end L2
namespace Pb
open L2 PySem
section
variable{m:Int}{rs:List Road}{r:Int}{par:Int->Int}{dep:Int->Nat}{held:Int->Int}
theorem Qz{f h:Int->Int}:∀{l:List Int},(∀c∈l,f c<=h c)->(l.map f).sum<=(l.map h).sum
 | [],_=>bA _
 | a::l,hl=>by
   rw[aH,aH,aZ,aZ];have h1:=hl a (.head _);have h2:=Qz (l:=l) λc hc=>hl c (.tail _ hc)
   lia
theorem F1(k:Int)(f:Int->Int):∀l:List Int,(l.map λc=>k*f c).sum=k*(l.map f).sum
 | []=>(jC k).symm
 | a::l=>by rw[aH,aH,aZ,aZ,F1 k f l,dG]
theorem wle(g:Good m rs)(R:ε m rs r par dep){ws:Int->Int}(pos:∀v,0<=v->v<m->0<=ws v)(std:∀c,0<=c->c<m->c≠r->ws c*tup rs par c<=ws (par c))(hz:∀v,0<=held v):∀(n:Nat)(v:Int),m.toNat-dep v=n->0<=v->v<m->((cW m rs r par dep v).map λu=>ws u*held u-ws u*(tup rs par u-1)).sum<=ws v*Ϛ m rs r par dep held (Ϗ rs par) v-ws v*(tup rs par v-1)
 | 0,v,e,h0,h1=>by
   have:=mN R h0 h1
   lia
 | n+1,v,e,h0,h1=>by
   rw[kY g R h0 h1,aH,aZ,zy,qC g R h0 h1];have ek:∀u∈bP m rs (front r par v) v,((cW m rs r par dep u).map λu=>ws u*held u-ws u*(tup rs par u-1)).sum<=ws v*Ϗ rs par u (Ϛ m rs r par dep held (Ϗ rs par) u):=λu hu=>by
    obtain⟨u1,u2,u3⟩:=(bO g R h0 h1).mp hu;have pd:=R.pos u1.1 u1.2 u2;rw[u3]at pd;refine bE (wle g R pos std hz n u (by lia) u1.1 u1.2) ?_;obtain⟨t0,t1⟩:=jX g R u1.1 u1.2 u2;have st:=std u u1.1 u1.2 u2;rw[u3]at st;have gn:=FQ (m:=m) (r:=r) (par:=par) (dep:=dep) g hz u;have wp:=pos u u1.1 u1.2;show _<=ws v*(Ϛ m rs r par dep held (Ϗ rs par) u/tup rs par u);generalize Ϛ m rs r par dep held (Ϗ rs par) u=G at gn ⊢;generalize tup rs par u=k at t0 t1 st ⊢;generalize ws u=W at wp st ⊢;generalize ws v=V at st ⊢;have q0:0<=G/k:=lU gn (by lia);have e1:=Int.emod_add_mul_ediv G k;have e2:=b7 G (show 0<k by lia);have a1:W*G-W*(k-1)<=W*k*(G/k):=by
     have:W*G=W*(G%k)+W*k*(G/k):=(by rw[<-e1,dG,<-gN,e1]);rw[this];have:W*(G%k)<=W*(k-1):=cT (by lia) wp
     lia
    exact bE a1 (eY st q0)
   have s1:=Qz ek;rw[F1 (ws v) (λu=>Ϗ rs par u (Ϛ m rs r par dep held (Ϗ rs par) u))]at s1;rw[dG]
   lia
theorem QR(g:Good m rs)(R:ε m rs r par dep)(r0:0<=r)(r1:r<m){ws:List Int}{tl:List Int}(et:cW m rs r par dep r=r::tl)(O:Order m r par tl)(S:Slk m rs par tl ws)(hz:∀v,0<=held v){w:Int}(hw:Ϛ m rs r par dep held (Ϗ rs par) r<w):((cR m.toNat).map λv=>ws.getD v.toNat 0*held v).sum<=ϱ m rs r par ws w:=by
 have pos:∀v,0<=v->v<m->0<=ws.getD v.toNat 0:=λv h0 h1=>by have:=S.pos v h0 h1;lia
 have h:=wle (held:=held) g R (ws:=λv=>ws.getD v.toNat 0) pos (λc c0 c1 cn=>S.std c ((O.all c c0 c1).resolve_left cn)) hz _ r rfl r0 r1;rw[et,z9]at h;have p1:((r::tl).map λv=>ws.getD v.toNat 0*held v).sum=((cR m.toNat).map λv=>ws.getD v.toNat 0*held v).sum:=by
  refine tD ((iC O.nd (kh _) λx=>?_).map _);rw[ar,gq];refine⟨λh=>?_,λh=>O.all x h.1 (by have:=h.2;lia)⟩;rcases h with h|h
  .rw[h];exact⟨r0,by lia⟩
  .have:=O.Μ x h;exact⟨this.1,by lia⟩
 rw[<-p1];unfold ϱ;rw[<-O.sums];have p2:(tl.map (Zu rs par ws)).sum=(tl.map λu=>ws.getD u.toNat 0*(tup rs par u-1)).sum:=rfl;rw[p2];rw[aH (f:=λu=>ws.getD u.toNat 0*(tup rs par u-1)),aZ]at h;have:ws.getD r.toNat 0*Ϛ m rs r par dep held (Ϗ rs par) r<=ws.getD r.toNat 0*(w-1):=cT (by lia) (pos r r0 r1)
 lia
theorem Ki:∀(xs:List Int),(List.range xs.length).map (λi=>xs.getD i 0)=xs:=λxs=>by
 refine eW λi=>?_;rw[aF];by_cases h:i<xs.length
 .rw[fS h,ap h];show some (xs.getD i 0)=_;rw[List.getD,ap h]
  rfl
 .rw[bI (by rw[bC];lia),bI (by lia)]
  rfl
theorem MU{xs:List Int}{n:Nat}(h:xs.length=n):((cR n).map λv=>xs.getD v.toNat 0).sum=xs.sum:=by
 unfold cR;rw[List.map_map,<-h];exact congrArg List.sum (Ki xs)
theorem xz:∀l:List Int,(l.map λ_=>(0:Int)).sum=0
 | []=>rfl
 | a::l=>by rw[aH,aZ,xz l];rfl
theorem PN(g:Good m rs)(R:ε m rs r par dep){v:Int}(h0:0<=v)(h1:v<m):Ϛ m rs r par dep (λ_=>0) (Ϗ rs par) v=0:=by
 have:∀(n:Nat)(v:Int),m.toNat-dep v=n->0<=v->v<m->Ϛ m rs r par dep (λ_=>0) (Ϗ rs par) v=0:=by
  intro n
  induction n with
  | zero=>
    intro v e h0 h1;have:=mN R h0 h1
    lia
  | succ n ih=>
    intro v e h0 h1;rw[qC g R h0 h1,dq];rw[qr (h:=λ_=>0) λu hu=>?_]
    .exact xz _
    .obtain⟨u1,u2,u3⟩:=(bO g R h0 h1).mp hu;have pd:=R.pos u1.1 u1.2 u2;rw[u3]at pd;rw[ih u (by lia) u1.1 u1.2,Pp]
 exact this _ v rfl h0 h1
theorem Ji(R:ε m rs r par dep):∀(n:Nat)(v:Int),dep v=n->0<=v->v<m->B9 par r n v=true
 | 0,v,e,h0,h1=>by
   refine bg (Classical.byContradiction λh=>?_);have:=R.pos h0 h1 h
   lia
 | n+1,v,e,h0,h1=>by
   show(decide (v=r)||B9 par r n (par v))=true;by_cases h:v=r
   .rw[bg h];rfl
   .have u:=R.up v h0 h1 h;rw[Ji R n (par v) (by lia) u.1.1 u.1.2,kX]
theorem Ma(g:Good m rs)(R:ε m rs r par dep)(r0:0<=r)(r1:r<m):∃t,cW m rs r par dep r=r::t/\Order m r par t:=Bm g R r0 r1 (uN g R _ r r0 r1).1 λv=>by
 rw[Ry g R r0 r1];exact⟨λh=>h.1,λh=>⟨h,Ji R _ v rfl h.1 h.2⟩⟩
theorem IM{f:Int->Int}{C:Int}:∀{l:List Int},(∀c∈l,f c<=C)->(l.map f).sum<=C*l.length
 | [],_=>by simp
 | a::l,h=>by
   have h1:=h a (.head _);have h2:=IM (l:=l) λc hc=>h c (.tail _ hc);rw[aH,aZ,aE,eM,dG];show f a+(l.map f).sum<=C*l.length+C*1
   lia
theorem QV(g:Good m rs)(R:ε m rs r par dep)(r0:0<=r)(r1:r<m){w:Int}(w1:1<=w)(w2:w<=10^60):0<=ϱ m rs r par (cM m rs r par dep) w/\ϱ m rs r par (cM m rs r par dep) w+1<2^720:=by
 have Ζ:=g.Ζ;obtain⟨tl,et,O⟩:=Ma g R r0 r1;have hl:=O.YK r0 r1
 constructor
 .have h1:=QR (held:=λ_=>0) g R r0 r1 et O (Ip g R O) (λ_=>bA _) (w:=w) (Int.lt_of_le_of_lt (bA _) (by rw[PN g R r0 r1];lia));refine bE (Int.le_of_eq ?_) h1;rw[show(λv:Int=>(cM m rs r par dep).getD v.toNat 0*(0:Int))=λ_=>0 from funext λv=>jC _];exact(xz _).symm
 .unfold ϱ;rw[<-O.sums,show(cM m rs r par dep).getD r.toNat 0=υ m rs r par dep r from fL r0 r1];obtain⟨a0,a1⟩:=gA g R r0 r1;have h1:υ m rs r par dep r*(w-1)<=2^480*10^60:=dD a1 (by lia) (by lia) (by decide +kernel);have h2:(tl.map (Zu rs par (cM m rs r par dep))).sum<=2^480*1000000*tl.length:=IM λc hc=>by
   obtain⟨c0,c1⟩:=O.Μ c hc;obtain⟨t0,t1⟩:=jX g R c0 c1 (O.ne hc);obtain⟨b0,b1⟩:=gA g R c0 c1;unfold Zu;rw[show(cM m rs r par dep).getD c.toNat 0=υ m rs r par dep c from fL c0 c1];exact dD b1 (show tup rs par c-1<=1000000 by lia) (show 0<=tup rs par c-1 by lia) (by decide +kernel)
  have h3:(2:Int)^480*1000000*tl.length<=2^480*1000000*24:=cT (by lia) (by decide +kernel);have h4:(2:Int)^480*10^60+2^480*1000000*24+1<2^720:=by decide +kernel
  lia
end
end Pb
namespace L2
open PySem PySem.Spec PyProof.Rows
section
variable{X:Cx}
theorem pA(K:PySem.W.Frag)(h:X.K=K):kR X (.builtin "isinstance") (Ko K):=by subst h;exact OP
theorem JL(K:PySem.W.Frag)(h:X.K=K):kR X (.builtin "isinstance") (Qw K):=by subst h;exact Lw
end
end L2
namespace Pb
open L2 PySem
theorem CV:∀{l:List Int}{x:Int},(∀y∈l,0<=y)->x∈l->x<=l.sum
 | y::l,x,h,hx=>by
   have h1:=GM λz hz=>h z (aI y hz);have h2:=h y aK;rw[aZ];rcases ar.mp hx with e|e
   .lia
   .have:=CV (λz hz=>h z (aI y hz)) e
    lia
end Pb
namespace L2
open PySem
theorem Mx{K:PySem.W.Frag}{c:Bool}{a p:Addr}{xs:List V}{Q:VK}{g:TG}{tc:TT}{te:TE}{σ0:St}{H0:Hp}(Pv:Nat->List V->St->Hp->Prop)(h0:Pv 0 [] σ0 H0)(hl:∀i ys σ H,Pv i ys σ H->ϧ K c H a xs)(hs:∀(i:Nat) (x:V) (ys:List V) (σ:St) (H:Hp) (q:Addr) (N:List V->St->Hp->Prop),(∀aC σ' H',Pv (i+1) aC σ' H'->N aC σ' H')->xs[i]?=some x->Pv i ys σ H->H q=none->g (.ref q) σ (upd H q (.tup [.int i,x])) λσ2 H2=>tc σ2 H2 λb H3=>
 if b=true then te σ2 H3 λy H4=>H4 p=some (.lst ys)/\ys.length<sizeLine/\N (ys++[y]) σ2 (upd H4 p (.lst (ys++[y])))else N ys σ2 H3)(hd:∀ys σ H,Pv xs.length ys σ H->Q (.ref p) H):vc (Ite K c a) p Q g tc te σ0 H0:=by
 refine⟨λi m ys σ H=>m=xs.length-i/\i<=xs.length/\Pv i ys σ H,⟨_,rfl,bz _,h0⟩,?_⟩;rintro i m ys σ H ⟨rfl,hi,pv⟩;have q1:=hl i ys σ H pv;by_cases Χ:i<xs.length
 .refine .inr ⟨⟨xs,xs[i],q1,ap Χ⟩,λx H' y=>?_⟩;obtain⟨p',x',hp,rfl,rfl,e1⟩:=y;exact hs i x' ys σ H p' (λaC σ' H'=>∃m',m'<xs.length-i/\(m'=xs.length-(i+1)/\i+1<=xs.length/\Pv (i+1) aC σ' H')) (λaC σ' H' pv'=>⟨xs.length-(i+1),by lia,rfl,Χ,pv'⟩) (e1 xs q1) pv hp
 .have e:i=xs.length:=by lia
  subst e;exact .inl ⟨⟨xs,q1,rfl⟩,hd ys σ H pv⟩
def ZW(o:Addr)(H H':Hp):Prop:=∀b x,H b=some x->b≠o->H' b=some x
theorem ZW.refl{o:Addr}{H:Hp}:ZW o H H:=λ_ _ h _=>h
theorem ZW.then{o:Addr}{H H1 H2:Hp}(a:ZW o H H1)(b:δ H1 H2):ZW o H H2:=λc x h n=>b c x (a c x h n)
theorem ZW.put{o:Addr}{H H1:Hp}(a:ZW o H H1)(x:HO):ZW o H (upd H1 o x):=λc y h n=>by rw[aO n];exact a c y h n
end L2
namespace Pb
open PySem L2
abbrev kd(m:Int)(rs:List Road)(r:Int)(par:Int->Int)(v:Int):List Int:=bP m rs (front r par v) v
theorem MN:∀{l:List Int},(∀x∈l,0<=x)->0<=l.sum
 | [],_=>by decide
 | a::l,h=>by
   have h1:=h a aK;have h2:=MN λx hx=>h x (aI _ hx);rw[aZ]
   lia
theorem tL{α β:Type}{R:α->β->Prop}:∀{l:List α}{l':List β},Paired R l l'->∀{i:Nat}{b:β},l'[i]?=some b->∃a,l[i]?=some a/\R a b
 | _,_,.nil,i,b,e=>by simp at e
 | _,_,.cons (a:=a) (b:=b') h _,0,b,e=>by
   rw[List.getElem?_cons_zero]at e;cases e;exact⟨a,rfl,h⟩
 | _,_,.cons h hs,i+1,b,e=>by
   rw[im]at e;obtain⟨a,h1,h2⟩:=tL hs e;exact⟨a,by rw[im];exact h1,h2⟩
theorem CH{α β:Type}{R S:α->β->Prop}:∀{l:List α}{l':List β},(∀a b,a∈l->R a b->S a b)->Paired R l l'->Paired S l l'
 | _,_,_,.nil=>.nil
 | _,_,f,.cons h hs=>.cons (f _ _ aK h) (CH (λa b ha=>f a b (aI _ ha)) hs)
theorem Jm{α β:Type}{R:α->β->Prop}:∀{l:List α}{l':List β},Paired R l l'->∀{a:α},a∈l->∃b,R a b
 | _,_,.nil,a,h=>by cases h
 | _,_,.cons (b:=b) h hs,a,ha=>by
   rcases ar.mp ha with rfl|ha
   .exact⟨b,h⟩
   .exact Jm hs ha
theorem vK{α β:Type}{R:α->β->Prop}{a:α}{b:β}(e:R a b):∀{l:List α}{l':List β},Paired R l l'->Paired R (l++[a]) (l'++[b])
 | _,_,.nil=>.cons e .nil
 | _,_,.cons x xs=>.cons x (vK e xs)
theorem Lx{α:Type}{xs:List α}{i:Int}(h:0<=i):Ϣ xs i=xs[i.toNat]?:=by
 cases e:xs[i.toNat]? with
 | some v=>exact cq h e
 | none=>
   have:=List.getElem?_eq_none_iff.mp e;unfold Ϣ ZI;rw[aj h,ag (by lia)]
   rfl
section
variable{m:Int}{rs:List Road}{r:Int}{par:Int->Int}{dep:Int->Nat}{nd:Int->Int}
theorem uT(g:Good m rs)(R:ε m rs r par dep){v:Int}(h0:0<=v)(h1:v<m){k:Int}(hk:k∈kd m rs r par v):((0<=k/\k<m)/\k≠r/\par k=v)/\m.toNat-dep v=m.toNat-dep k+1/\1<=m.toNat-dep k:=by
 have w:=(bO g R h0 h1).mp hk;have:=R.pos w.1.1 w.1.2 w.2.1;have d:=mN R w.1.1 w.1.2;rw[w.2.2]at this;exact⟨w,by lia,by lia⟩
end
theorem Ij{f:Int->Int}{l:List Int}(h:∀c∈l,0<=f c):0<=(l.map f).sum:=MN λx hx=>by
 obtain⟨c,hc,rfl⟩:=bu.mp hx;exact h c hc
section
variable{m:Int}{rs:List Road}{r:Int}{par:Int->Int}{dep:Int->Nat}{nd w:Int->Int}
theorem zB(g:Good m rs){v:Int}:(kd m rs r par v).length<=24:=by
 have h1:=cA (λu=>decide (V.int u≠front r par v)) (lO m rs v);have h2:=cA (λq=>decide (q∈f6 rs v)) (cR m.toNat);rw[da]at h2;have:=g.Ζ;show((lO m rs v).filter λu=>decide (V.int u≠front r par v)).length<=24;unfold lO at h1 ⊢
 lia
end
theorem AM{α β:Type}{R:α->β->Prop}:∀{l:List α}{l':List β}{b:β},Paired R l (l'++[b])->∃l0 a,l=l0++[a]/\Paired R l0 l'/\R a b
 | _,[],b,.cons (a:=a) h .nil=>⟨[],a,rfl,.nil,h⟩
 | _,c::l',b,.cons (a:=a) h hs=>by
   obtain⟨l0,x,rfl,h1,h2⟩:=AM hs;exact⟨a::l0,x,rfl,.cons h h1,h2⟩
theorem Jk{α:Type}(l:List α)(x:α):Ϣ (l++[x]) (-1)=some x:=by
 unfold Ϣ ZI;rw[ag (by decide),aP,aE,eD,aj (by lia)];show(l++[x])[(-1+((l.length+(0+1):Nat):Int)).toNat]?=some x;rw[show(-1+((l.length+(0+1):Nat):Int)).toNat=l.length by lia,dc (aA _),fC]
 rfl
end Pb
namespace Pb
open L2 PySem PySem.W NumText
theorem Rs{n i:Nat}(h:i<n):seqIndex? (i:Int) n=some i:=by
 unfold seqIndex?;show(if(decide (0<=(if(i:Int)<0 then(i:Int)+n else(i:Int)))&&decide ((if(i:Int)<0 then(i:Int)+n else(i:Int))<n))=true then some (if(i:Int)<0 then(i:Int)+n else(i:Int)).toNat else none)=some i;rw[ag (show ¬(i:Int)<0 by lia),aj (by rw[cj,bK,bK];lia)]
 rfl
def ch:Nat->Nat->Nat
 | _,0=>1
 | 0,_+1=>0
 | n+1,k+1=>ch n k+ch n (k+1)
theorem pi(n:Nat):ch n 0=1:=by cases n<;>rfl
theorem vy:∀n k:Nat,(ch n (k+1):Int)*((k:Int)+1)=(ch n k:Int)*((n:Int)-(k:Int))
 | 0,0=>by simp[ch]
 | 0,k+1=>by simp[ch]
 | n+1,0=>by
   have h:=vy n 0;rw[pi]at h ⊢;show((ch n 0+ch n 1:Nat):Int)*_=_;rw[pi];have h:((ch n 1:Nat):Int)*(((0:Nat):Int)+1)=((1:Nat):Int)*((n:Int)-((0:Nat):Int)):=h;simp only[eM,Int.natCast_one]at h ⊢
   lia
 | n+1,k+1=>by
   have h1:=vy n k;have h2:=vy n (k+1);show((ch n (k+1)+ch n (k+1+1):Nat):Int)*_=((ch n k+ch n (k+1):Nat):Int)*_;generalize ch n (k+1+1)=c at h1 h2;generalize ch n (k+1)=b at h1 h2;generalize ch n k=a at h1 h2;simp only[eM,Int.natCast_one]at h1 h2 ⊢;have e1:((b:Int)+(c:Int))*((k:Int)+1+1)=(c:Int)*((k:Int)+1+1)+(b:Int)*((k:Int)+1)+(b:Int):=by
    rw[iB,dG (b:Int) ((k:Int)+1) 1]
    lia
   have e2:((a:Int)+(b:Int))*((n:Int)+1-((k:Int)+1))=(a:Int)*((n:Int)-(k:Int))+(b:Int)*((n:Int)-((k:Int)+1))+(b:Int):=by
    rw[show(n:Int)+1-((k:Int)+1)=(n:Int)-(k:Int) by lia,iB,show(n:Int)-(k:Int)=((n:Int)-((k:Int)+1))+1 by lia,dG (b:Int) _ 1]
    lia
   rw[e1,e2,h1,h2]
   lia
def ϊ:List Int->Nat->Nat->Int
 | [],_,_=>0
 | d::r,n,k=>d*(ch n k:Int)+ϊ r n (k+1)
theorem Ai:∀(r:List Int)(k:Nat),ϊ r 0 (k+1)=0
 | [],_=>rfl
 | d::r,k=>by
   show d*((ch 0 (k+1):Nat):Int)+ϊ r 0 (k+1+1)=0;rw[Ai r (k+1)];show d*((0:Nat):Int)+0=0;simp
theorem F6:∀(r:List Int)(n k:Nat),ϊ r (n+1) (k+1)=ϊ r n (k+1)+ϊ r n k
 | [],_,_=>rfl
 | d::r,n,k=>by
   show d*((ch n k+ch n (k+1):Nat):Int)+ϊ r (n+1) (k+1+1)=(d*(ch n (k+1):Int)+ϊ r n (k+1+1))+(d*(ch n k:Int)+ϊ r n (k+1));rw[F6 r n (k+1),eM,dG]
   lia
def dl(f:Nat->Int):Nat->Int:=λn=>f (n+1)-f n
def Pd:Nat->(Nat->Int)->Prop
 | 0,f=>∀n,f n=f 0
 | d+1,f=>Pd d (dl f)
def Yu:Nat->(Nat->Int)->List Int
 | 0,_=>[]
 | N+1,f=>f 0::Yu N (dl f)
theorem Da:∀(N:Nat)(f:Nat->Int),(Yu N f).length=N
 | 0,_=>rfl
 | N+1,f=>by
   show(Yu N (dl f)).length+1=_;rw[Da N]
theorem Pd.zero{f:Nat->Int}(h:∀n,f n=0):∀d,Pd d f
 | 0=>λn=>by rw[h n,h 0]
 | d+1=>Pd.zero (f:=dl f) (λn=>by show f (n+1)-f n=0;rw[h,h];rfl) d
theorem Pd.up:∀{d:Nat}{f:Nat->Int},Pd d f->Pd (d+1) f
 | 0,f,h=>λn=>by
   show f (n+1)-f n=f (0+1)-f 0;rw[h (n+1),h n,h (0+1)]
 | d+1,f,h=>Pd.up (d:=d) (f:=dl f) h
theorem Pd.le{d e:Nat}{f:Nat->Int}(h:Pd d f)(l:d<=e):Pd e f:=by
 induction l with
 | refl=>exact h
 | step _ ih=>exact ih.up
theorem Pd.add:∀{d:Nat}{f g:Nat->Int},Pd d f->Pd d g->Pd d (λn=>f n+g n)
 | 0,f,g,h,k=>λn=>by
   show f n+g n=f 0+g 0;rw[h n,k n]
 | d+1,f,g,h,k=>by
   have:=Pd.add (d:=d) (f:=dl f) (g:=dl g) h k;have e:dl (λn=>f n+g n)=λn=>dl f n+dl g n:=by
    funext n
    show f (n+1)+g (n+1)-(f n+g n)=(f (n+1)-f n)+(g (n+1)-g n)
    lia
   show Pd d (dl (λn=>f n+g n));rw[e];exact this
theorem Pd.smul(c:Int):∀{d:Nat}{f:Nat->Int},Pd d f->Pd d (λn=>c*f n)
 | 0,f,h=>λn=>by
   show c*f n=c*f 0;rw[h n]
 | d+1,f,h=>by
   have:=Pd.smul c (d:=d) (f:=dl f) h;have e:dl (λn=>c*f n)=λn=>c*dl f n:=by
    funext n
    show c*f (n+1)-c*f n=c*(f (n+1)-f n);rw[iz]
   show Pd d (dl (λn=>c*f n));rw[e];exact this
theorem Pd.shift(b:Nat):∀{d:Nat}{f:Nat->Int},Pd d f->Pd d (λn=>f (n+b))
 | 0,f,h=>λn=>by
   show f (n+b)=f (0+b);rw[h (n+b),h (0+b)]
 | d+1,f,h=>by
   have:=Pd.shift b (d:=d) (f:=dl f) h;have e:dl (λn=>f (n+b))=λn=>dl f (n+b):=by
    funext n
    show f (n+1+b)-f (n+b)=f (n+b+1)-f (n+b);rw[show n+1+b=n+b+1 by lia]
   show Pd d (dl (λn=>f (n+b)));rw[e];exact this
def Ϡ:Nat->(Nat->Int)->Int
 | 0,_=>0
 | k+1,f=>Ϡ k f+f k
theorem Pd.sum{d:Nat}{f:Nat->Nat->Int}(h:∀i,Pd d (f i)):∀k,Pd d (λn=>Ϡ k λi=>f i n)
 | 0=>Pd.zero (λ_=>rfl) d
 | k+1=>(Pd.sum h k).add (h k)
theorem IT(f:Nat->Int)(b:Nat):∀a:Nat,f (b+a)-f b=Ϡ a λi=>dl f (b+i)
 | 0=>by
   show f b-f b=0
   lia
 | a+1=>by
   have:=IT f b a;show f (b+(a+1))-f b=(Ϡ a λi=>dl f (b+i))+dl f (b+a);rw[<-this];show f (b+(a+1))-f b=f (b+a)-f b+(f (b+a+1)-f (b+a));rw[show b+(a+1)=b+a+1 by lia]
   lia
theorem Pd.lin(a:Nat):∀{d:Nat}{f:Nat->Int},Pd d f->∀b,Pd d (λn=>f (a*n+b))
 | 0,f,h,b=>λn=>by
   show f (a*n+b)=f (a*0+b);rw[h (a*n+b),h (a*0+b)]
 | d+1,f,h,b=>by
   have e:dl (λn=>f (a*n+b))=λn=>Ϡ a λi=>(λi n=>dl f (a*n+(b+i))) i n:=by
    funext n
    show f (a*(n+1)+b)-f (a*n+b)=_;rw[show a*(n+1)+b=(a*n+b)+a by rw[nD];lia,IT f (a*n+b) a]
    congr 1
    funext i
    show dl f (a*n+b+i)=dl f (a*n+(b+i));rw[Nat.add_assoc]
   show Pd d (dl (λn=>f (a*n+b)));rw[e];exact Pd.sum (λi=>Pd.lin a (d:=d) (f:=dl f) h (b+i)) a
def Ye(f g:Nat->Int)(n:Nat):Int:=Ϡ (n+1) λk=>f k*g (n-k)
theorem t7{f g:Nat->Int}:∀{k:Nat},(∀i,i<k->f i=g i)->Ϡ k f=Ϡ k g
 | 0,_=>rfl
 | k+1,h=>by
   show Ϡ k f+f k=Ϡ k g+g k;rw[t7 λi hi=>h i (by lia),h k (by lia)]
theorem IE(f g:Nat->Int):∀k,Ϡ k (λi=>f i-g i)=Ϡ k f-Ϡ k g
 | 0=>rfl
 | k+1=>by
   show Ϡ k (λi=>f i-g i)+(f k-g k)=Ϡ k f+f k-(Ϡ k g+g k);rw[IE f g k]
   lia
theorem LA(f g:Nat->Int):dl (Ye f g)=λn=>f (n+1)*g 0+Ye f (dl g) n:=by
 funext n
 show(Ϡ (n+1) λk=>f k*g (n+1-k))+f (n+1)*g (n+1-(n+1))-Ϡ (n+1) (λk=>f k*g (n-k))=f (n+1)*g 0+Ϡ (n+1) λk=>f k*dl g (n-k);have e:(Ϡ (n+1) λk=>f k*dl g (n-k))=Ϡ (n+1) λk=>f k*g (n+1-k)-f k*g (n-k):=t7 λi hi=>by
  show f i*(g (n-i+1)-g (n-i))=_;rw[iz,show n-i+1=n+1-i by lia]
 rw[e,IE,fC]
 lia
theorem Pd.Ye{f:Nat->Int}{d:Nat}(hf:Pd d f):∀{e:Nat}{g:Nat->Int},Pd e g->Pd (d+e+1) (Ye f g)
 | 0,g,hg=>by
   show Pd d (dl (Pb.Ye f g));rw[LA];refine Pd.add ?_ (Pd.zero (λn=>?_) d)
   .have:=(hf.shift 1).smul (g 0);have e:(λn=>g 0*f (n+1))=λn=>f (n+1)*g 0:=by
     funext n
     exact hJ ..
    rw[e]at this;exact this
   .have z:∀m,dl g m=0:=λm=>by
     show g (m+1)-g m=0;rw[hg (m+1),hg m]
     lia
    have:=t7 (k:=n+1) (f:=λk=>f k*dl g (n-k)) (g:=λ_=>0) λi _=>by rw[z];simp
    show Ϡ (n+1) (λk=>f k*dl g (n-k))=0;rw[this];clear this
    induction n+1 with
    | zero=>rfl
    | succ k ih=>show Ϡ k (λ_=>0)+0=0;rw[ih];rfl
 | e+1,g,hg=>by
   show Pd (d+e+1) (dl (Pb.Ye f g));rw[LA];refine Pd.add ?_ (Pd.Ye hf (e:=e) (g:=dl g) hg);have:=((hf.shift 1).smul (g 0)).le (show d<=d+e+1 by lia);have e:(λn=>g 0*f (n+1))=λn=>f (n+1)*g 0:=by
    funext n
    exact hJ ..
   rw[e]at this;exact this
theorem Fc:∀(N:Nat){d:Nat}{f:Nat->Int},Pd d f->d<N->∀n,ϊ (Yu N f) n 0=f n
 | 0,_,_,_,h,_=>absurd h (Nat.not_lt_zero _)
 | N+1,d,f,hf,_,n=>by
   have ih:∀n,ϊ (Yu N (dl f)) n 0=dl f n:=by
    intro n;cases d with
    | zero=>
      have z:∀m,dl f m=0:=λm=>by
       show f (m+1)-f m=0;rw[hf (m+1),hf m]
       lia
      cases N with
      | zero=>rw[z];rfl
      | succ N=>exact Fc (N+1) (Pd.zero z 0) (by lia) n
    | succ d=>exact Fc N (d:=d) (f:=dl f) hf (by lia) n
   show f 0*(ch n 0:Int)+ϊ (Yu N (dl f)) n (0+1)=f n;rw[pi]
   induction n with
   | zero=>
     rw[Ai];simp
   | succ n ihn=>
     rw[F6,ih n];show f 0*((1:Nat):Int)+(ϊ (Yu N (dl f)) n (0+1)+(f (n+1)-f n))=f (n+1)
     lia
theorem xc:∀{N:Nat}{f g:Nat->Int},(∀i,i<N->f i=g i)->Yu N f=Yu N g
 | 0,_,_,_=>rfl
 | N+1,f,g,h=>by
   show f 0::Yu N (dl f)=g 0::Yu N (dl g);rw[h 0 (by lia),xc (N:=N) (f:=dl f) (g:=dl g) λi hi=>by
    show f (i+1)-f i=g (i+1)-g i;rw[h i (by lia),h (i+1) (by lia)]]
def Ϫ(xs:List Int):List Int:=Yu xs.length λi=>xs.getD i 0
def nxr(xs:List Int):List Int:=(xs.zip (xs.drop 1)).map λp=>p.2-p.1
theorem yi(xs:List Int):(nxr xs).length=xs.length-1:=by
 unfold nxr;rw[ah,lC,dj]
 lia
theorem Ve{xs:List Int}{i:Nat}(h:i+1<xs.length):(nxr xs).getD i 0=xs.getD (i+1) 0-xs.getD i 0:=by
 unfold nxr;rw[cf,aF,ap (by rw[lC,dj];lia)];simp[cf,h,show i<xs.length by lia,Nat.add_comm]
theorem Gf(x:Int)(r:List Int):Ϫ (x::r)=x::Ϫ (nxr (x::r)):=by
 unfold Ϫ;rw[yi];show x::Yu r.length _=x::Yu (r.length+1-1) _;rw[Nat.add_sub_cancel]
 congr 1
 exact xc λi hi=>(Ve (xs:=x::r) (by simpa using hi)).symm
theorem Kb:∀n k:Nat,ch n k<=2^n
 | 0,0=>aA _
 | 0,_+1=>bz _
 | n+1,0=>by rw[pi];exact Nat.one_le_two_pow
 | n+1,k+1=>by
   have h1:=Kb n k;have h2:=Kb n (k+1);show ch n k+ch n (k+1)<=2^(n+1);rw[f7]
   lia
theorem IX(f:Nat->Int):∀k,((List.range k).map f).sum=Ϡ k f
 | 0=>rfl
 | k+1=>by
   rw[cZ,aD,eE,IX f k];show Ϡ k f+(f k+0)=Ϡ k f+f k
   lia
def ϣ:Nat:=2^200000
theorem gP{n k:Nat}(h:n<=2^k)(hk:k<200000):n<ϣ:=by
 unfold ϣ;exact fu h (mi (by decide) hk)
theorem qB{a b:Int}(ha:a.natAbs<ϣ)(hb:b.natAbs<ϣ):IntMulOk a b:=by
 unfold ϣ at ha hb;exact IntMulOk.of_bits (aU (xX ha) (by decide)) (aU (xX hb) (by decide))
theorem UD{n k:Nat}(h:n<=100000):ch n k<ϣ:=gP (Kb n k) (by lia)
theorem xg:∀n k:Nat,ch n k<=(n+1)^k
 | n,0=>by rw[pi];exact aA _
 | 0,k+1=>bz _
 | n+1,k+1=>by
   have h1:=xg n k;have h2:=xg n (k+1);have h3:(n+1)^k<=(n+1+1)^k:=gU (by lia) k;show ch n k+ch n (k+1)<=(n+1+1)^(k+1);rw[f7]at h2;rw[f7,Nat.mul_succ];have h4:(n+1)^k*(n+1)<=(n+1+1)^k*(n+1):=dY _ h3
   lia
theorem Ci{n x k:Nat}(h:n+1<=2^x)(hk:x*k<200000):ch n k<ϣ:=gP (k:=x*k) (aU (xg n k) (by rw[nO];exact gU h k)) hk
def ϐ(fr be:Int->Bool)(ws:Int->Nat->Int):List Int->Nat->Int
 | [],_=>1
 | k::ks,n=>if fr k=true then Ye (ws k) (ϐ fr be ws ks) n else if be k=true then ws k n*ϐ fr be ws ks 0 else ws k 0*ϐ fr be ws ks n
variable{fr be:Int->Bool}{ws:Int->Nat->Int}
theorem zA{k:Int}{ks:List Int}(h:fr k=true):ϐ fr be ws (k::ks)=Ye (ws k) (ϐ fr be ws ks):=by
 funext n
 show(if fr k=true then _ else _)=_;rw[aj h]
theorem Al{k:Int}{ks:List Int}(h:¬fr k=true)(h2:be k=true):ϐ fr be ws (k::ks)=λn=>ws k n*ϐ fr be ws ks 0:=by
 funext n
 show(if fr k=true then _ else _)=_;rw[ag h,aj h2]
theorem zo{k:Int}{ks:List Int}(h:¬fr k=true)(h2:¬be k=true):ϐ fr be ws (k::ks)=λn=>ws k 0*ϐ fr be ws ks n:=by
 funext n
 show(if fr k=true then _ else _)=_;rw[ag h,ag h2]
theorem Lr{d:Int->Nat}:∀{ks:List Int},(∀k∈ks,Pd (d k) (ws k))->Pd ((ks.map λk=>d k+1).sum) (ϐ fr be ws ks)
 | [],_=>λ_=>rfl
 | k::ks,h=>by
   have h1:=h k (.head _);have h2:=Lr (ks:=ks) λx hx=>h x (.tail _ hx);rw[aH,aZ];by_cases f:fr k=true
   .rw[zA f];exact(Pd.Ye h1 h2).le (by lia)
   .by_cases b:be k=true
    .rw[Al f b];have:=(h1.smul (ϐ fr be ws ks 0)).le (show d k<=d k+1+(ks.map λk=>d k+1).sum by lia);have e:(λn=>ϐ fr be ws ks 0*ws k n)=λn=>ws k n*ϐ fr be ws ks 0:=by
      funext n
      exact hJ ..
     rw[e]at this;exact this
    .rw[zo f b];exact(h2.smul (ws k 0)).le (by lia)
theorem Jg{f:Nat->Int}{B:Int}:∀{k:Nat},(∀i,i<k->0<=f i/\f i<=B)->0<=Ϡ k f/\Ϡ k f<=k*B
 | 0,_=>⟨bA _,by show(0:Int)<=((0:Nat):Int)*B;simp⟩
 | k+1,h=>by
   obtain⟨h1,h2⟩:=Jg (k:=k) λi hi=>h i (by lia);obtain⟨g1,g2⟩:=h k (by lia);show 0<=Ϡ k f+f k/\Ϡ k f+f k<=((k+1:Nat):Int)*B;rw[Int.natCast_succ,iB,lH]
   lia
theorem ya{a b A B:Int}(h1:0<=a/\a<=A)(h2:0<=b/\b<=B):0<=a*b/\a*b<=A*B:=⟨jY h1.1 h2.1,dD h1.2 h2.2 h2.1 (bE h1.1 h1.2)⟩
theorem Q9{f g:Nat->Int}{A B:Int}{n:Nat}(h1:∀i,i<=n->0<=f i/\f i<=A)(h2:∀i,i<=n->0<=g i/\g i<=B):0<=Ye f g n/\Ye f g n<=((n+1:Nat):Int)*(A*B):=Jg λi hi=>ya (h1 i (by lia)) (h2 (n-i) (by lia))
theorem lu(n:Nat):(0:Int)<2^n:=Int.pow_pos (by decide)
theorem wv{X x:Nat}(hx:((X+1:Nat):Int)<=2^x){a:Int->Nat}:∀{ks:List Int},(∀k∈ks,∀i,i<=X->0<=ws k i/\ws k i<=2^a k)->∀n,n<=X->0<=ϐ fr be ws ks n/\ϐ fr be ws ks n<=2^(ks.map λk=>x+a k).sum
 | [],_,n,_=>⟨by show(0:Int)<=1;decide,by show(1:Int)<=2^0;decide⟩
 | k::ks,h,n,hn=>by
   have h1:=h k (.head _);have h2:=wv hx (ks:=ks) λx hx=>h x (.tail _ hx);rw[aH,aZ,lJ,lJ];have px:=lu x;have up:∀{u:Int},0<=u/\u<=2^a k*2^(ks.map λk=>x+a k).sum->0<=u/\u<=2^x*2^a k*2^(ks.map λk=>x+a k).sum:=λ{u} hu=>by
    refine⟨hu.1,?_⟩;rw[gN];have:=(ya (a:=1) (A:=2^x) (b:=u) ⟨by decide,by lia⟩ hu).2;rw[lH]at this;exact this
   by_cases f:fr k=true
   .rw[zA f];obtain⟨g1,g2⟩:=Q9 (n:=n) (λi hi=>h1 i (by lia)) (λi hi=>h2 i (by lia));refine⟨g1,bE g2 ?_⟩;rw[gN];refine eY (by lia) (jY (jD (lu _)) (jD (lu _)))
   .by_cases b:be k=true
    .rw[Al f b];exact up (ya (h1 n hn) (h2 0 (by lia)))
    .rw[zo f b];exact up (ya (h1 0 (by lia)) (h2 n hn))
theorem F4:∀{N:Nat}{f:Nat->Int}{b:Nat},(∀i,i<N->(f i).natAbs<=2^b)->∀c∈Yu N f,c.natAbs<=2^(b+N)
 | 0,_,_,_,c,hc=>by cases hc
 | N+1,f,b,h,c,hc=>by
   rcases ar.mp (show c∈f 0::Yu N (dl f)from hc)with rfl|hc
   .exact aU (h 0 (by lia)) (bF (by decide) (by lia))
   .have:=F4 (N:=N) (f:=dl f) (b:=b+1) (λi hi=>by
     have h1:=h i (by lia);have h2:=h (i+1) (by lia);show(f (i+1)-f i).natAbs<=2^(b+1);rw[f7]
     lia) c hc
    rw[show b+1+N=b+(N+1) by lia]at this;exact this
def uv(d:Nat)(W:Nat->Int):Prop:=Pd d W/\∀x n,((n+1:Nat):Int)<=2^x->0<=W n/\W n<=2^(d*(x+20*d))
def Β(c:Nat)(g:Nat):Nat:=(g+1)*c-1
theorem RJ{c g:Nat}(h:1<=c):Β c g=c*g+(c-1):=by
 unfold Β;rw[fK,iM]
 lia
theorem zN{a b:Nat}(h:a<=b):(2:Int)^a<=2^b:=by
 obtain⟨k,rfl⟩:∃k,b=a+k:=⟨b-a,by lia⟩;rw[lJ];have:=cT (show(1:Int)<=2^k from lu k) (jD (lu a));rw[iw]at this;exact this
theorem qO{f g:Int->Nat}{y:Nat}:∀{ks:List Int},(∀k∈ks,f k<=g k*y)->(ks.map f).sum<=(ks.map g).sum*y
 | [],_=>by simp
 | k::ks,h=>by
   have h1:=h k (.head _);have h2:=qO (ks:=ks) λx hx=>h x (.tail _ hx);rw[aH,aZ,aH,aZ,fK]
   lia
theorem vM{g:Int->Nat}:∀{ks:List Int}{k:Int},k∈ks->g k<=(ks.map g).sum
 | k'::ks,k,h=>by
   rw[aH,aZ];rcases ar.mp h with rfl|h
   .lia
   .have:=vM (g:=g) h
    lia
theorem CO{W:Int->Nat->Int}{c d:Int->Nat}{ks:List Int}(h:∀k∈ks,uv (d k) (W k))(hc:∀k∈ks,1<=c k/\c k<=1000000):uv (ks.map λk=>d k+1).sum (ϐ fr be (λk g=>W k (Β (c k) g)) ks):=by
 refine⟨Lr λk hk=>?_,λx n hn=>?_⟩
 .have:=(h k hk).1.lin (c k) (c k-1);have e:(λg=>W k (Β (c k) g))=λg=>W k (c k*g+(c k-1)):=by
   funext g
   rw[RJ (hc k hk).1]
  rw[e];exact this
 .have key:=wv (fr:=fr) (be:=be) (ws:=λk g=>W k (Β (c k) g)) (X:=n) (x:=x) hn (a:=λk=>d k*(x+20+20*d k)) (ks:=ks) (λk hk i hi=>by
   refine(h k hk).2 (x+20) (Β (c k) i) ?_;have h1:=(hc k hk).1;have h2:=(hc k hk).2;have e:Β (c k) i+1=(i+1)*c k:=by
    unfold Β;have:1<=(i+1)*c k:=bZ (show 1<=i+1 by lia) h1
    lia
   rw[e,jK,lJ];exact dD (by lia) (by have:(2:Int)^20=1048576:=rfl;lia) (Int.natCast_nonneg _) (jD (lu x))) n (aA _)
  refine⟨key.1,bE key.2 ?_⟩;refine zN (qO λk hk=>?_);have dk:=vM (g:=λk=>d k+1) hk;generalize (ks.map λk=>d k+1).sum=D at dk;have e1:x+d k*(x+20+20*d k)=x+d k*x+d k*(20+20*d k):=by rw[show x+20+20*d k=x+(20+20*d k) by lia,nD];lia
  have e2:(d k+1)*(x+20*D)=x+d k*x+(d k+1)*(20*D):=by rw[nD,fK];lia
  have e3:d k*(20+20*d k)<=(d k+1)*(20*D):=bZ (by lia) (by lia)
  lia
structure ϑ(b:Nat)(cs:List Int)(f:Nat->Int):Prop where
 ne:cs≠[]
 len:cs.length<=24
 bt:∀c∈cs,c.natAbs<=2^b
 val:∀n,ϊ cs n 0=f n
theorem Rh:∀(x:Int)(r:List Int),ϊ (x::r) 0 0=x:=λx r=>by
 show x*((1:Nat):Int)+ϊ r 0 (0+1)=x;rw[Ai];simp
theorem ϑ.head{b:Nat}{cs:List Int}{f:Nat->Int}(h:ϑ b cs f):∃r,cs=f 0::r:=by
 obtain⟨ne,_,_,v⟩:=h;cases cs with
 | nil=>exact absurd rfl ne
 | cons x r=>exact⟨r,by rw[<-v 0,Rh]⟩
theorem ϑ.one:ϑ 0 [1] (ϐ fr be ws []):=⟨by simp,by simp,λc hc=>by rw[aB.mp hc];decide,λn=>by
 show 1*((ch n 0:Nat):Int)+0=1;rw[pi]
 rfl⟩
theorem EM(a:Int):∀(cs:List Int)(n k:Nat),ϊ (cs.map λc=>a*c) n k=a*ϊ cs n k
 | [],_,_=>by show(0:Int)=a*0;simp
 | c::cs,n,k=>by
   show a*c*(ch n k:Int)+ϊ (cs.map λc=>a*c) n (k+1)=a*(c*(ch n k:Int)+ϊ cs n (k+1));rw[EM a cs,dG,gN]
theorem ϑ.Ϫ{f:Nat->Int}{N d b:Nat}(hf:Pd d f)(hd:d<N)(hN:N<=24)(hb:∀i,i<N->(f i).natAbs<=2^b):ϑ (b+N) (Ϫ ((List.range N).map f)) f:=by
 have e:Pb.Ϫ ((List.range N).map f)=Yu N f:=by
  unfold Pb.Ϫ;rw[ah,bC];refine xc λi hi=>?_;rw[cf,aF,fS hi]
  rfl
 rw[e];refine⟨λz=>?_,by rw[Da];exact hN,F4 hb,Fc N hf hd⟩;have:=Da N f;rw[z]at this;simp at this
 lia
def ZO:List Int->List (List Int)
 | []=>[[]]
 | k::ks=>(k::ks)::ZO ks
theorem Jb:∀ks:List Int,(ZO ks).reverse=(List.range (ks.length+1)).map λj=>ks.drop (ks.length-j)
 | []=>rfl
 | k::ks=>by
   show((k::ks)::ZO ks).reverse=_;rw[dW,Jb ks,cZ (n:=(k::ks).length),aD,aH,d8,fC,ir]
   congr 1
   refine dM λj hj=>?_;have:=b6.mp hj;rw[aE,show ks.length+1-j=(ks.length-j)+1 by lia,j2]
theorem ϑ.le{b b':Nat}{cs:List Int}{f:Nat->Int}(h:ϑ b cs f)(l:b<=b'):ϑ b' cs f:=⟨h.ne,h.len,λc hc=>aU (h.bt c hc) (bF (by decide) l),h.val⟩
def Yg(d:Int->Nat)(ks:List Int):Nat:=(ks.map λk=>d k*(25+20*d k)+29).sum
theorem tR{d:Int->Nat}{ks:List Int}(h:(ks.map λk=>d k+1).sum<=23):Yg d ks<=15000:=by
 have:Yg d ks<=(ks.map λk=>d k+1).sum*514:=qO λk hk=>by
  have:=vM (g:=λk=>d k+1) hk;have h1:d k*(25+20*d k)<=d k*485:=gW _ (by lia);rw[fK]
  lia
 lia
theorem vY(g:Int->Nat)(ks:List Int)(j:Nat):((ks.drop j).map g).sum<=(ks.map g).sum:=by
 have:=congrArg (λl=>(l.map g).sum) (b8 j ks);simp only[aD,eE]at this
 lia
theorem Dj{W:Int->Nat->Int}{c d:Int->Nat}{ks:List Int}{N:Nat}(hN:N<=24)(h:∀k∈ks,uv (d k) (W k))(hc:∀k∈ks,1<=c k/\c k<=1000000):∀i,i<N->0<=ϐ fr be (λk g=>W k (Β (c k) g)) ks i/\ϐ fr be (λk g=>W k (Β (c k) g)) ks i<=2^(ks.map λk=>5+d k*(25+20*d k)).sum:=by
 intro i hi;refine wv (X:=23) (x:=5) (by decide) (a:=λk=>d k*(25+20*d k)) (λk hk j hj=>?_) i (by lia);refine(h k hk).2 25 (Β (c k) j) ?_;have h1:=(hc k hk).1;have h2:=(hc k hk).2;have e:Β (c k) j+1=(j+1)*c k:=by
  unfold Β;have:1<=(j+1)*c k:=bZ (show 1<=j+1 by lia) h1
  lia
 have h3:(j+1)*c k<=24*1000000:=bZ (by lia) h2;have h4:(2:Int)^25=33554432:=rfl;rw[e,h4]
 lia
theorem Ft{W:Nat->Int}{c d:Nat}(h:uv d W)(h1:1<=c)(h2:c<=1000000){j:Nat}(hj:j<24):0<=W (Β c j)/\W (Β c j)<=2^(d*(25+20*d)):=by
 refine h.2 25 (Β c j) ?_;have e:Β c j+1=(j+1)*c:=by
  unfold Β;have:1<=(j+1)*c:=bZ (show 1<=j+1 by lia) h1
  lia
 have h3:(j+1)*c<=24*1000000:=bZ (by lia) h2;have h4:(2:Int)^25=33554432:=rfl;rw[e,h4]
 lia
theorem rp{z:Int}{b:Nat}(h:0<=z/\z<=2^b):z.natAbs<=2^b:=by
 have:((2^b:Nat):Int)=(2:Int)^b:=by simp
 lia
theorem vT(d:Int->Nat)(k:Int)(ks:List Int):Yg d (k::ks)=d k*(25+20*d k)+29+Yg d ks:=by
 unfold Yg;rw[aH,aZ]
theorem Cc(d:Int->Nat):∀ks:List Int,(ks.map λk=>5+d k*(25+20*d k)).sum<=Yg d ks
 | []=>aA _
 | k::ks=>by
   have:=Cc d ks;rw[vT,aH,aZ]
   lia
theorem MJ{W:Int->Nat->Int}{c d:Int->Nat}{k:Int}{S:List Int}{N:Nat}(hN:N<=24)(h:∀x∈k::S,uv (d x) (W x))(hc:∀x∈k::S,1<=c x/\c x<=1000000)(hd:((k::S).map λk=>d k+1).sum<N){vs:List Int}(hv:vs=(List.range N).map (ϐ fr be (λk g=>W k (Β (c k) g)) (k::S))):ϑ (Yg d (k::S)) (Ϫ vs) (ϐ fr be (λk g=>W k (Β (c k) g)) (k::S)):=by
 subst hv;refine(ϑ.Ϫ (CO h hc).1 hd hN λi hi=>rp (Dj hN h hc i hi)).le ?_;have:=Cc d S;rw[vT,aH,aZ]
 lia
theorem Rr{W:Int->Nat->Int}{c d:Int->Nat}{k:Int}{S:List Int}{cs:List Int}(hk:uv (d k) (W k))(h1:1<=c k)(h2:c k<=1000000)(f:¬fr k=true)(b:¬be k=true)(hcs:ϑ (Yg d S) cs (ϐ fr be (λk g=>W k (Β (c k) g)) S)):ϑ (Yg d (k::S)) (cs.map λx=>W k (Β (c k) 0)*x) (ϐ fr be (λk g=>W k (Β (c k) g)) (k::S)):=by
 refine⟨λz=>hcs.ne (List.map_eq_nil_iff.mp z),by rw[ah];exact hcs.len,λx hx=>?_,λn=>?_⟩
 .obtain⟨y,hy,rfl⟩:=bu.mp hx;have h3:=rp (Ft hk h1 h2 (j:=0) (by decide));have h4:=hcs.bt y hy;rw[j5,vT];refine aU (bZ h3 h4) ?_;rw[<-eF];exact bF (by decide) (by lia)
 .rw[EM,hcs.val,zo f b]
theorem MQ{f g f' g':Nat->Int}{n:Nat}(h1:∀i,i<=n->f i=f' i)(h2:∀i,i<=n->g i=g' i):Ye f g n=Ye f' g' n:=t7 λi hi=>by rw[h1 i (by lia),h2 (n-i) (by lia)]
theorem Ff{f:Nat->Int}{N i:Nat}(h:i<N):((List.range N).map f).getD i 0=f i:=by
 rw[cf,aF,fS h]
 rfl
theorem Mj{d:Int->Nat}:∀ks:List Int,ks.length<=(ks.map λk=>d k+1).sum
 | []=>aA _
 | k::ks=>by
   have:=Mj (d:=d) ks;rw[aH,aZ,aE]
   lia
theorem II{α β:Type}{R:α->β->Prop}:∀{l:List α}{l':List β},Paired R l l'->Paired R l.reverse l'.reverse
 | _,_,.nil=>.nil
 | _,_,.cons e h=>by
   rw[dW,dW];exact vK e (II h)
theorem wW{fr' be':Int->Bool}{ws':Int->Nat->Int}:∀{ks:List Int},(∀k∈ks,fr k=fr' k/\be k=be' k/\ws k=ws' k)->ϐ fr be ws ks=ϐ fr' be' ws' ks
 | [],_=>rfl
 | k::ks,h=>by
   obtain⟨h1,h2,h3⟩:=h k (.head _);have ih:=wW (ks:=ks) λx hx=>h x (.tail _ hx)
   funext n
   show(if fr k=true then Ye (ws k) (ϐ fr be ws ks) n else if be k=true then ws k n*ϐ fr be ws ks 0 else ws k 0*ϐ fr be ws ks n)=(if fr' k=true then Ye (ws' k) (ϐ fr' be' ws' ks) n else if be' k=true then ws' k n*ϐ fr' be' ws' ks 0 else ws' k 0*ϐ fr' be' ws' ks n);rw[h1,h2,h3,ih]
section
variable{m:Int}{rs:List Road}{r:Int}{par:Int->Int}{dep:Int->Nat}{c:Int->Nat}
def wyF(m:Int)(rs:List Road)(r:Int)(par:Int->Int)(fr be:Int->Bool)(c:Int->Nat):Nat->Int->Nat->Int
 | 0,_=>λ_=>1
 | f+1,v=>ϐ fr be (λk g=>wyF m rs r par fr be c f k (Β (c k) g)) (kd m rs r par v)
def wy(m:Int)(rs:List Road)(r:Int)(par:Int->Int)(dep:Int->Nat)(fr be:Int->Bool)(c:Int->Nat)(v:Int):Nat->Int:=wyF m rs r par fr be c (m.toNat-dep v) v
theorem qy(g:Good m rs)(R:ε m rs r par dep){v:Int}(h0:0<=v)(h1:v<m):wy m rs r par dep fr be c v=ϐ fr be (λk g=>wy m rs r par dep fr be c k (Β (c k) g)) (kd m rs r par v):=by
 unfold wy;cases e:m.toNat-dep v with
 | zero=>
   have:kd m rs r par v=[]:=by
    cases hk:kd m rs r par v with
    | nil=>rfl
    | cons k ks=>
      have:=(uT g R h0 h1 (k:=k) (by rw[hk];exact .head _)).2.1
      lia
   rw[this]
   rfl
 | succ f=>
   show ϐ fr be (λk g=>wyF m rs r par fr be c f k (Β (c k) g)) (kd m rs r par v)=_;refine wW λk hk=>⟨rfl,rfl,?_⟩;have:=(uT g R h0 h1 hk).2.1;rw[show m.toNat-dep k=f by lia]
def oR(m:Int)(rs:List Road)(r:Int)(par:Int->Int)(dep:Int->Nat)(v:Int):Nat:=(cW m rs r par dep v).length-1
theorem jQ(g:Good m rs)(R:ε m rs r par dep){v:Int}(h0:0<=v)(h1:v<m):((kd m rs r par v).map λk=>oR m rs r par dep k+1).sum=oR m rs r par dep v:=by
 have e:=congrArg List.length (kY g R h0 h1);rw[aE,List.length_flatMap]at e;unfold oR;rw[e,Nat.add_sub_cancel];show _=((kd m rs r par v).map λk=>(cW m rs r par dep k).length).sum;refine congrArg List.sum (dM λk hk=>?_);obtain⟨⟨k0,k1⟩,_⟩:=(uT g R h0 h1 hk).1;have:=congrArg List.length (kY g R k0 k1);rw[aE]at this
 lia
theorem KZ(g:Good m rs)(R:ε m rs r par dep)(hc:∀v,0<=v->v<m->v≠r->1<=c v/\c v<=1000000):∀(n:Nat){v:Int},0<=v->v<m->m.toNat-dep v<=n->uv (oR m rs r par dep v) (wy m rs r par dep fr be c v)
 | n,v,h0,h1,hn=>by
   rw[qy g R h0 h1,<-jQ g R h0 h1];refine CO (λk hk=>?_) λk hk=>?_
   .obtain⟨⟨k0,k1⟩,_⟩:=(uT g R h0 h1 hk).1;have:=(uT g R h0 h1 hk).2.1;cases n with
    | zero=>lia
    | succ n=>exact KZ g R hc n k0 k1 (by lia)
   .obtain⟨⟨k0,k1⟩,kr,_⟩:=(uT g R h0 h1 hk).1;exact hc k k0 k1 kr
end
theorem Ch:∀{ks ZP:List Int},ZP∈ZO ks->∀x∈ZP,x∈ks
 | [],ZP,h,x,hx=>by
   rw[aB.mp h]at hx;exact hx
 | k::ks,ZP,h,x,hx=>by
   rcases ar.mp (show ZP∈(k::ks)::ZO ks from h)with rfl|h
   .exact hx
   .exact .tail _ (Ch h x hx)
theorem Fy{α β:Type}{R S:α->β->Prop}:∀{l:List α}{l':List β},(∀a b,b∈l'->R a b->S a b)->Paired R l l'->Paired S l l'
 | _,_,_,.nil=>.nil
 | _,_,f,.cons e h=>.cons (f _ _ (.head _) e) (Fy (λa b hb=>f a b (.tail _ hb)) h)
theorem wa(ks:List Int):∃r,ZO ks=ks::r:=by
 cases ks with
 | nil=>exact⟨[],rfl⟩
 | cons k ks=>exact⟨ZO ks,rfl⟩
theorem pK{m:Int}{rs:List Road}{r:Int}{par:Int->Int}{dep:Int->Nat}(g:Good m rs)(R:ε m rs r par dep){v:Int}(h0:0<=v)(h1:v<m):(oR m rs r par dep v:Int)<m:=by
 obtain⟨n1,n2⟩:=uN g R (m.toNat-1-dep v) v h0 h1;have:=gx (m:=m) (by lia) n1 λx hx=>(n2 x hx).1;have:=g.m1;unfold oR cW
 lia
theorem RV{m:Int}{rs:List Road}{r:Int}{par:Int->Int}{dep:Int->Nat}(g:Good m rs)(R:ε m rs r par dep){tl:List Int}(O:Order m r par tl){i:Nat}{v:Int}(hv:(r::tl).reverse[i]?=some v)(h0:0<=v)(h1:v<m):∀k∈kd m rs r par v,k∈(r::tl).reverse.take i:=by
 intro k hk;have w:=(bO g R h0 h1).mp hk;rw[dW]at hv ⊢;by_cases c:i<tl.length
 .rw[dA (by rw[bj];exact c)]at hv;obtain⟨_,_,_,_,hdk⟩:=O.cut R hv;have:=hdk k w.1.1 w.1.2 w.2.1 w.2.2;rw[List.take_append_of_le_length (by rw[bj];lia),List.take_reverse,eT];exact this
 .rw[List.take_append,dh (by rw[bj];lia)];exact bo _ (eT.mpr ((O.all k w.1.1 w.1.2).resolve_left w.2.1))
end Pb
namespace Pb
open L2 PySem PySem.W NumText
section
variable{fr be:Int->Bool}{ws:Int->Nat->Int}
theorem MV{f:Nat->Int}:∀{k:Nat},(∀i,i<k->0<=f i)->0<=Ϡ k f
 | 0,_=>bA _
 | k+1,h=>by
   have h1:=MV (k:=k) λi hi=>h i (by lia);have h2:=h k (by lia);show 0<=Ϡ k f+f k
   lia
end
def chN(a k:Nat):Int:=if k%2=0 then(ch (a+k) k:Int)else -(ch (a+k) k:Int)
def ZX:Int->Nat->Int
 | .ofNat n,k=>(ch n k:Int)
 | .negSucc a,k=>chN a k
def nwN:List Int->Nat->Nat->Int
 | [],_,_=>0
 | d::r,a,k=>d*chN a k+nwN r a (k+1)
def Zv(cs:List Int)(n:Int)(k:Nat):Int:=match n with
 | .ofNat n=>ϊ cs n k
 | .negSucc a=>nwN cs a k
theorem yc(cs:List Int)(n k:Nat):Zv cs (n:Int) k=ϊ cs n k:=rfl
theorem yg(n:Int)(k:Nat):Zv [] n k=0:=by cases n<;>rfl
theorem vX(d:Int)(r:List Int)(n:Int)(k:Nat):Zv (d::r) n k=d*ZX n k+Zv r n (k+1):=by cases n<;>rfl
theorem OB(n:Int):ZX n 0=1:=by
 cases n with
 | ofNat n=>show((ch n 0:Nat):Int)=1;rw[pi];rfl
 | negSucc a=>show chN a 0=1;unfold chN;rw[aj rfl,pi];rfl
theorem OO(a k:Nat):chN a (k+1)=-(if k%2=0 then(ch (a+(k+1)) (k+1):Int)else -(ch (a+(k+1)) (k+1):Int)):=by
 unfold chN;by_cases c:k%2=0
 .rw[ag (by lia),aj c]
 .rw[aj (by lia),ag c,Int.neg_neg]
theorem OE(n:Int)(k:Nat):ZX n (k+1)*((k:Int)+1)=ZX n k*(n-(k:Int)):=by
 cases n with
 | ofNat n=>exact vy n k
 | negSucc a=>
   show chN a (k+1)*((k:Int)+1)=chN a k*(Int.negSucc a-(k:Int));have h:=vy (a+k) k;have e:ch (a+(k+1)) (k+1)=ch (a+k) k+ch (a+k) (k+1):=rfl;have e2:(ch (a+(k+1)) (k+1):Int)*((k:Int)+1)=(ch (a+k) k:Int)*((a:Int)+(k:Int)+1):=by
    rw[e,eM,iB,h,<-dG]
    congr 1
    rw[eM]
    lia
   have e3:Int.negSucc a-(k:Int)=-((a:Int)+(k:Int)+1):=by
    rw[Int.negSucc_eq]
    lia
   rw[OO,e3,Int.mul_neg,ow];unfold chN
   congr 1
   split
   .exact e2
   .rw[ow,ow,e2]
theorem Pn(r:List Int)(d:Int)(n:Int)(k:Nat):Zv (r++[d]) n k=Zv r n k+d*ZX n (k+r.length):=by
 induction r generalizing k with
 | nil=>
   rw[jg,vX,yg,yg,eD,Nat.add_zero]
   lia
 | cons x r ih=>
   rw[lB,vX,vX,ih (k+1),aE,show k+1+r.length=k+(r.length+1) by lia]
   lia
theorem Gh{z:Int}{x k:Nat}(h0:-100<=z)(hz:z+1<=2^x)(hx:8<=x)(hk:k<=100):(ZX z k).natAbs<=2^(x*k):=by
 cases z with
 | ofNat n=>
   show((ch n k:Nat):Int).natAbs<=_;rw[kF];have h1:n+1<=2^x:=by
    have:((2^x:Nat):Int)=(2:Int)^x:=(by simp);have h2:((n:Int)+1)<=2^x:=hz
    lia
   exact aU (xg n k) (by rw[nO];exact gU h1 k)
 | negSucc a=>
   have ha:a<=99:=by
    rw[Int.negSucc_eq]at h0
    lia
   have h1:=xg (a+k) k;have h2:(a+k+1)^k<=2^(x*k):=by
    rw[nO];refine gU ?_ k;exact aU (show a+k+1<=2^8 by lia) (bF (by decide) hx)
   show(chN a k).natAbs<=_;unfold chN;split
   .rw[kF];lia
   .rw[Int.natAbs_neg,kF];lia
theorem vZ{z:Int}{x b:Nat}(h0:-100<=z)(hz:z+1<=2^x)(hx:8<=x):∀{cs:List Int}{k:Nat},k+cs.length<=100->(∀c∈cs,c.natAbs<=2^b)->(Zv cs z k).natAbs<=cs.length*2^(b+x*100)
 | [],k,_,_=>by rw[yg];exact bz _
 | c::cs,k,hk,hc=>by
   rw[aE]at hk;have ih:=vZ h0 hz hx (cs:=cs) (k:=k+1) (by lia) λy hy=>hc y (.tail _ hy);have h1:=Gh h0 hz hx (k:=k) (by lia);have h2:=hc c (.head _);have h3:(c*ZX z k).natAbs<=2^(b+x*100):=by
    rw[j5,eF];refine bZ h2 (aU h1 (bF (by decide) ?_));exact gW x (by lia)
   rw[vX,aE,fK,nN];have:=Int.natAbs_add_le (c*ZX z k) (Zv cs z (k+1))
   lia
end Pb
namespace L2
open PySem PySem.Spec PyProof.Rows
section
variable{X:Cx}
def abu:V->List V->Hp->VK->Prop:=λx vs H Q=>∃d b η more,x=.ref d/\vs=[.ref b]/\H d=some (.dK η)/\H b=some (.dK more)/\d≠b/\η.length+more.length<=sizeLine/\Q .ο (upd H d (.dK (jU η more)))
theorem My:MtM X "dict.update" abu:=by
 intro pins s σ H x vs v us Q I rx rv h;obtain⟨d,b,η,more,rfl,rfl,hd,hb,ne,hz,q⟩:=h;cases rx;obtain⟨u,rfl,ru⟩:=rv.one;cases ru;obtain⟨z1,sd,vs1,r1,dd1⟩:=EA I.τ hd;obtain⟨z2,sb,vs2,r2,dd2⟩:=EA I.τ hb;refine call_meetsIn F.slot_dict_update dd1.typeIs F.entry_dict_update (F.args_dict_update_2 _ _) (meets_dict_update (g6 X.prog X.w) d b ne sb) ⟨vs1,vs2,dd1,dd2,?_,λh' m1 m2 hs=>?_⟩
 .rw[<-Paired.length r1,<-Paired.length r2];exact hz
 .refine⟨.ο,_,yh I (by rw[hd];exact True.intro) hs (let ⟨q,_,_,hq,_⟩:=m1;⟨q,hq⟩) (Fa (aU (oO more η) hz) sd (r2.merge r1) m1),rfl,q⟩
end
end L2
namespace Pb
open L2 PySem PySem.W NumText
theorem IB{cs:List Int}{z:Int}(h0:-100<=z)(hz:z+1<=2^64)(hl:cs.length<=24)(cb:∀c∈cs,c.natAbs<=2^15000):(Zv cs z 0).natAbs<ϣ:=by
 have h:=vZ (x:=64) (b:=15000) h0 hz (by decide) (cs:=cs) (k:=0) (by lia) cb;refine gP (k:=21405) (aU h ?_) (by decide);have h2:(2:Nat)^21405=32*2^(15000+64*100):=by rw[show 21405=5+(15000+64*100)from rfl,eF 2 5]
 rw[h2];exact dY _ (aU hl (by decide))
theorem u6{z:Int}{k:Nat}(h0:-100<=z)(hz:z+1<=2^64)(hk:k<=24):(ZX z k).natAbs<ϣ:=gP (Gh h0 hz (by decide) (by lia)) (by lia)
theorem Aw{cs:List Int}(cb:∀c∈cs,c.natAbs<=2^15000):∀c∈cs,c.natAbs<ϣ:=λc hc=>gP (cb c hc) (by decide)
def ϴ(m:Nat)(F:Nat->Int):List Int:=(List.range m).map λj=>Ϡ j F
def rW(cs csk:List Int)(c:Nat)(z:Int)(g:Nat):Int:=ϊ csk (Β c g) 0*Zv cs (z-(g:Int)) 0
theorem RF{xs:List Int}{c:Int}(h:c∈nxr xs):∃x∈xs,∃y∈xs,c=y-x:=by
 unfold nxr at h;obtain⟨p,hp,rfl⟩:=bu.mp h;exact⟨p.1,(gQ hp).1,p.2,cI (gQ hp).2,rfl⟩
theorem zI:∀(n:Nat){xs:List Int}{b:Nat},xs.length=n->(∀x∈xs,x.natAbs<=2^b)->∀c∈Ϫ xs,c.natAbs<=2^(b+n)
 | 0,xs,b,hl,_,c,hc=>by
   rw[List.length_eq_zero_iff.mp hl]at hc;cases hc
 | n+1,[],b,hl,_,c,hc=>by cases hc
 | n+1,x::r,b,hl,hx,c,hc=>by
   rw[Gf]at hc;rcases ar.mp hc with rfl|hc
   .exact aU (hx _ (.head _)) (bF (by decide) (by lia))
   .have h:=zI n (xs:=nxr (x::r)) (b:=b+1) (by rw[yi,hl];rfl) (λy hy=>by
     obtain⟨u,hu,v,hv,rfl⟩:=RF hy;have h1:=hx u hu;have h2:=hx v hv;rw[f7]
     lia) c hc
    rw[show b+(n+1)=b+1+n by lia];exact h
theorem zG{F:Nat->Int}{b:Nat}:∀{k:Nat},(∀i,i<k->(F i).natAbs<=2^b)->(Ϡ k F).natAbs<=k*2^b
 | 0,_=>by show(0:Int).natAbs<=_;lia
 | k+1,h=>by
   have h1:=zG (F:=F) (k:=k) λi hi=>h i (by lia);have h2:=h k (by lia);show(Ϡ k F+F k).natAbs<=_;rw[fK,nN];generalize 2^b=G at *
   lia
theorem Ll{cs:List Int}{z:Int}(h0:-100<=z)(hz:z+1<=2^64)(hl:cs.length<=24)(cb:∀c∈cs,c.natAbs<=2^15000):(Zv cs z 0).natAbs<=2^21405:=by
 have h:=vZ (x:=64) (b:=15000) h0 hz (by decide) (cs:=cs) (k:=0) (by lia) cb;refine aU h ?_;have h2:(2:Nat)^21405=32*2^(15000+64*100):=by rw[show 21405=5+(15000+64*100)from rfl,eF 2 5]
 rw[h2];exact dY _ (aU hl (by decide))
theorem Gs{cs csk:List Int}{c:Nat}{z:Int}{g:Nat}(z0:-70<=z)(z1:z+1<=2^64)(g24:g<=24)(c1:c<=1000000)(l1:cs.length<=24)(l2:csk.length<=24)(b1:∀c∈cs,c.natAbs<=2^15000)(b2:∀c∈csk,c.natAbs<=2^15000):(rW cs csk c z g).natAbs<=2^42810:=by
 unfold rW;have hb:Β c g+1<=2^25:=by
  unfold Β;have h1:(g+1)*c<=25*1000000:=bZ (by lia) c1;have h2:(2:Nat)^25=33554432:=rfl
  lia
 have h1:(ϊ csk (Β c g) 0).natAbs<=2^21405:=Ll (z:=((Β c g:Nat):Int)) (by lia) (by lia) l2 b2;have h2:(Zv cs (z-(g:Int)) 0).natAbs<=2^21405:=Ll (by lia) (by lia) l1 b1;rw[j5,show 42810=21405+21405 from rfl,eF];exact bZ h1 h2
theorem IQ{m:Nat}{cs csk:List Int}{c:Nat}{z:Int}(Ζ:m<=24)(z0:-70<=z)(z1:z+1<=2^64)(c1:c<=1000000)(l1:cs.length<=24)(l2:csk.length<=24)(b1:∀c∈cs,c.natAbs<=2^15000)(b2:∀c∈csk,c.natAbs<=2^15000):∀x∈Ϫ (ϴ m (rW cs csk c z)),x.natAbs<ϣ:=λx hx=>by
 have ml:(ϴ m (rW cs csk c z)).length=m:=by unfold ϴ;rw[ah,bC]
 have:=zI m (b:=42815) ml (λy hy=>by
  unfold ϴ at hy;obtain⟨j,hj,rfl⟩:=bu.mp hy;have jm:=b6.mp hj;refine aU (zG λi hi=>Gs z0 z1 (show i<=24 by lia) c1 l1 l2 b1 b2) ?_;rw[show 42815=5+42810 from rfl,eF 2 5];exact dY _ (show j<=2^5 by lia)) x hx
 exact gP this (by lia)
theorem Cj(xs:List Int):(Ϫ xs).length=xs.length:=by
 unfold Ϫ;generalize (λi=>xs.getD i 0)=f
 induction xs.length generalizing f with
 | zero=>rfl
 | succ n ih=>show(_::Yu n _).length=_;rw[aE,ih]
section
variable{fr be:Int->Bool}{ws:Int->Nat->Int}
theorem qQ{a b:Int}(h1:1<=a)(h2:1<=b):1<=a*b:=dD h1 h2 (by decide) (by lia)
theorem C9:∀{ks:List Int},(∀k∈ks,∀n,1<=ws k n)->∀n,1<=ϐ fr be ws ks n
 | [],_,_=>bA _
 | k::ks,h,n=>by
   have h1:=h k (.head _);have h2:=C9 (ks:=ks) λx hx=>h x (.tail _ hx);show 1<=if fr k=true then _ else if be k=true then _ else _;split
   .show 1<=Ϡ n _+ws k n*ϐ fr be ws ks (n-n);have:=MV (k:=n) (f:=λi=>ws k i*ϐ fr be ws ks (n-i)) λi _=>bE (by decide) (qQ (h1 i) (h2 (n-i)));have:=qQ (h1 n) (h2 (n-n))
    lia
   .split
    .exact qQ (h1 _) (h2 _)
    .exact qQ (h1 _) (h2 _)
variable{m r:Int}{rs:List Road}{par:Int->Int}{dep:Int->Nat}{c:Int->Nat}{tl:List Int}
theorem Fj(g:Good m rs)(R:ε m rs r par dep):∀(n:Nat){v:Int},0<=v->v<m->m.toNat-dep v<=n->∀h,1<=wy m rs r par dep fr be c v h
 | 0,v,h0,h1,e=>by have:=mN R h0 h1;lia
 | n+1,v,h0,h1,e=>by
   rw[qy g R h0 h1];refine C9 λk hk i=>?_;obtain⟨k1,k2,k3⟩:=(bO g R h0 h1).mp hk;have pd:=R.pos k1.1 k1.2 k2;rw[k3]at pd;exact Fj g R n k1.1 k1.2 (by lia) _
theorem QM(g:Good m rs)(R:ε m rs r par dep)(O:Order m r par tl){k:Int}(k0:0<=k)(k1:k<m)(kr:k≠r):υ m rs r par dep k*tup rs par k<=υ m rs r par dep (par k):=by
 have p:=(R.up k k0 k1 kr).1;have:=(Ip g R O).std k ((O.all k k0 k1).resolve_left kr);rw[fL k0 k1,fL p.1 p.2]at this;exact this
theorem IA(g:Good m rs)(R:ε m rs r par dep)(O:Order m r par tl){k:Int}(k0:0<=k)(k1:k<m)(kr:k≠r)(hc:(c k:Int)=tup rs par k)(i:Nat):υ m rs r par dep k*((Β (c k) i:Nat)+1)<=υ m rs r par dep (par k)*((i:Int)+1):=by
 have w:=QM g R O k0 k1 kr;have t:=(jX g R k0 k1 kr).1;have e:((Β (c k) i:Nat):Int)+1=tup rs par k*((i:Int)+1):=by
  unfold Β;have:1<=(i+1)*c k:=bZ (show 1<=i+1 by lia) (show 1<=c k by lia);rw[lZ this,jK,hc,hJ];simp
 rw[e,<-gN];exact eY w (by lia)
theorem vV{w a b:Int}(h:1<=w)(a0:0<=a)(e:w*a<=b):a<=b:=bE (by have:=eY h a0;lia) e
theorem Je(g:Good m rs)(R:ε m rs r par dep)(O:Order m r par tl)(hc:∀k,0<=k->k<m->k≠r->(c k:Int)=tup rs par k){x:Nat}{v:Int}(h0:0<=v)(h1:v<m)(ih:∀k∈kd m rs r par v,∀h:Nat,υ m rs r par dep k*((h:Int)+1)<=2^x->0<=wy m rs r par dep fr be c k h/\wy m rs r par dep fr be c k h<=2^(x*oR m rs r par dep k)){ks:List Int}(hks:∀k∈ks,k∈kd m rs r par v){h:Nat}(hh:υ m rs r par dep v*((h:Int)+1)<=2^x):ϐ fr be (λk g=>wy m rs r par dep fr be c k (Β (c k) g)) ks h<=2^(x*(ks.map λk=>oR m rs r par dep k+1).sum):=by
 have w1:=(gA g R h0 h1).1;have:=(wv (fr:=fr) (be:=be) (ws:=λk g=>wy m rs r par dep fr be c k (Β (c k) g)) (X:=h) (x:=x) (by rw[eM];exact vV w1 (by lia) hh) (a:=λk=>x*oR m rs r par dep k) (ks:=ks) (λk hk i hi=>by
  obtain⟨k1,k2,k3⟩:=(bO g R h0 h1).mp (hks k hk);refine ih k (hks k hk) _ (bE (IA g R O k1.1 k1.2 k2 (hc k k1.1 k1.2 k2) i) ?_);rw[k3];exact bE (cT (by lia) (by lia)) hh) h (aA _)).2
 refine bE this (zN ?_);rw[iM];exact qO λk _=>by rw[fK,iM];lia
theorem I0(g:Good m rs)(R:ε m rs r par dep)(O:Order m r par tl)(hc:∀k,0<=k->k<m->k≠r->(c k:Int)=tup rs par k){x:Nat}:∀(n:Nat){v:Int},0<=v->v<m->m.toNat-dep v<=n->∀h:Nat,υ m rs r par dep v*((h:Int)+1)<=2^x->0<=wy m rs r par dep fr be c v h/\wy m rs r par dep fr be c v h<=2^(x*oR m rs r par dep v)
 | 0,v,h0,h1,e=>by have:=mN R h0 h1;lia
 | n+1,v,h0,h1,e=>λh hh=>by
   refine⟨bE (by decide) (Fj g R _ h0 h1 (aA _) h),?_⟩;rw[qy g R h0 h1,<-jQ g R h0 h1];refine Je g R O hc h0 h1 (λk hk i hi=>?_) (λk hk=>hk) hh;obtain⟨k1,k2,k3⟩:=(bO g R h0 h1).mp hk;have pd:=R.pos k1.1 k1.2 k2;rw[k3]at pd;exact I0 g R O hc n k1.1 k1.2 (by lia) i hi
end
section
variable{m r w:Int}{rs:List Road}{par:Int->Int}{dep:Int->Nat}{cn gv held:Int->Int}
structure Spr(m:Int)(rs:List Road)(r:Int)(par:Int->Int)(dep:Int->Nat)(w:Int)(cn gv:Int->Int):Prop where
 rt:cn r=w-1
 up:∀v,0<=v->v<m->v≠r->cn v=(gv v+1)*tup rs par v-1/\(gv v≠0->υ m rs r par dep v*tup rs par v=υ m rs r par dep (par v))
 su:∀v,0<=v->v<m->kd m rs r par v≠[]->((kd m rs r par v).map gv).sum=cn v
theorem Spr.Ϛ(g:Good m rs)(R:ε m rs r par dep)(N:Spr m rs r par dep w cn gv)(hh:∀v,0<=v->v<m->held v=if kd m rs r par v=[]then cn v else 0):∀(n:Nat)(v:Int),m.toNat-dep v=n->0<=v->v<m->Pb.Ϛ m rs r par dep held (Ϗ rs par) v=cn v
 | 0,v,e,h0,h1=>by
   have:=mN R h0 h1
   lia
 | n+1,v,e,h0,h1=>by
   rw[qC g R h0 h1,hh v h0 h1];have ek:∀u∈bP m rs (front r par v) v,Ϗ rs par u (Pb.Ϛ m rs r par dep held (Ϗ rs par) u)=gv u:=λu hu=>by
    obtain⟨u1,u2,u3⟩:=(bO g R h0 h1).mp hu;have pd:=R.pos u1.1 u1.2 u2;rw[u3]at pd;rw[Spr.Ϛ g R N hh n u (by lia) u1.1 u1.2,(N.up u u1.1 u1.2 u2).1];exact Q6 (jX g R u1.1 u1.2 u2).1
   rw[qr ek];by_cases c:kd m rs r par v=[]
   .rw[aj c,show bP m rs (front r par v) v=[]from c];exact nM _
   .rw[ag c,N.su v h0 h1 c];exact dq _
theorem Spr.sums(g:Good m rs)(R:ε m rs r par dep)(N:Spr m rs r par dep w cn gv)(hh:∀v,0<=v->v<m->held v=if kd m rs r par v=[]then cn v else 0):∀(n:Nat)(v:Int),m.toNat-dep v=n->0<=v->v<m->((cW m rs r par dep v).map λu=>held u-υ m rs r par dep u*(tup rs par u-1)).sum=υ m rs r par dep v*cn v-υ m rs r par dep v*(tup rs par v-1)
 | 0,v,e,h0,h1=>by
   have:=mN R h0 h1
   lia
 | n+1,v,e,h0,h1=>by
   rw[kY g R h0 h1,aH,aZ,zy];have ek:∀u∈bP m rs (front r par v) v,((cW m rs r par dep u).map λu=>held u-υ m rs r par dep u*(tup rs par u-1)).sum=υ m rs r par dep v*gv u:=λu hu=>by
    obtain⟨u1,u2,u3⟩:=(bO g R h0 h1).mp hu;have pd:=R.pos u1.1 u1.2 u2;rw[u3]at pd;obtain⟨n1,n2⟩:=N.up u u1.1 u1.2 u2;rw[Spr.sums g R N hh n u (by lia) u1.1 u1.2,n1];rw[u3]at n2;generalize υ m rs r par dep v=V at n2 ⊢;generalize υ m rs r par dep u=W at n2 ⊢;generalize tup rs par u=k at n2 ⊢;by_cases c:gv u=0
    .rw[c,dq,lH,jC]
     lia
    .rw[<-n2 c,iz,iz,iB,dG,iw,lH,gN,hJ (gv u)]
     lia
   have em:∀l:List Int,(l.map λu=>υ m rs r par dep v*gv u).sum=υ m rs r par dep v*(l.map gv).sum:=λl=>by
    induction l with
    | nil=>exact(jC _).symm
    | cons a l ih=>rw[aH,aH,aZ,aZ,ih,dG]
   rw[qr ek,em,hh v h0 h1];by_cases c:kd m rs r par v=[]
   .have w1:υ m rs r par dep v=1:=by
     show fo mx m rs r par dep _ _ v=1;rw[u8 g R h0 h1,show bP m rs (front r par v) v=[]from c]
     rfl
    rw[aj c,w1,show bP m rs (front r par v) v=[]from c];show cn v-_+1*0=_
    lia
   .rw[ag c,N.su v h0 h1 c]
    lia
theorem Spr.total(g:Good m rs)(R:ε m rs r par dep)(N:Spr m rs r par dep w cn gv)(hh:∀v,0<=v->v<m->held v=if kd m rs r par v=[]then cn v else 0)(r0:0<=r)(r1:r<m){tl:List Int}(et:cW m rs r par dep r=r::tl)(O:Order m r par tl):((cR m.toNat).map held).sum=ϱ m rs r par (cM m rs r par dep) w:=by
 have h:=Spr.sums g R N hh _ r rfl r0 r1;rw[et,z9,N.rt]at h;have p1:((r::tl).map held).sum=((cR m.toNat).map held).sum:=by
  refine tD ((iC O.nd (kh _) λx=>?_).map _);rw[ar,gq];refine⟨λh=>?_,λh=>O.all x h.1 (by have:=h.2;lia)⟩;rcases h with h|h
  .rw[h];exact⟨r0,by lia⟩
  .have:=O.Μ x h;exact⟨this.1,by lia⟩
 rw[<-p1];unfold ϱ;rw[<-O.sums,show(cM m rs r par dep).getD r.toNat 0=υ m rs r par dep r from fL r0 r1];have p2:(tl.map (Zu rs par (cM m rs r par dep))).sum=(tl.map λu=>υ m rs r par dep u*(tup rs par u-1)).sum:=by
  refine qr λu hu=>?_;unfold Zu tup;rw[show(cM m rs r par dep).getD u.toNat 0=υ m rs r par dep u from fL (O.Μ u hu).1 (O.Μ u hu).2]
 rw[p2];rw[aH (f:=λu=>υ m rs r par dep u*(tup rs par u-1)),aZ]at h
 lia
theorem IP(g:Good m rs)(R:ε m rs r par dep){B:Int}(hB:∀v,0<=held v/\held v<=B):∀(n:Nat)(v:Int),m.toNat-dep v=n->0<=v->v<m->Pb.Ϛ m rs r par dep held (Ϗ rs par) v<=B*((oR m rs r par dep v:Int)+1)
 | 0,v,e,h0,h1=>by
   have:=mN R h0 h1
   lia
 | n+1,v,e,h0,h1=>by
   have ek:∀ks:List Int,(∀k∈ks,k∈kd m rs r par v)->(ks.map λc=>Ϗ rs par c (Pb.Ϛ m rs r par dep held (Ϗ rs par) c)).sum<=B*((ks.map λk=>oR m rs r par dep k+1).sum:Nat):=λks hk=>by
    induction ks with
    | nil=>exact Int.le_of_eq (jC _).symm
    | cons u ks ih=>
      have:=ih λk h=>hk k (.tail _ h);obtain⟨u1,u2,u3⟩:=(bO g R h0 h1).mp (hk u (.head _));have pd:=R.pos u1.1 u1.2 u2;rw[u3]at pd;have q:=IP g R hB n u (by lia) u1.1 u1.2;have nn:=FQ (m:=m) (r:=r) (par:=par) (dep:=dep) g (λv=>(hB v).1) u;have t2:=(jX g R u1.1 u1.2 u2).1;rw[aH,aH,aZ,aZ,eM,dG];have:Ϗ rs par u (Pb.Ϛ m rs r par dep held (Ϗ rs par) u)<=Pb.Ϛ m rs r par dep held (Ϗ rs par) u:=by
       show _/tup rs par u<=_;exact Int.ediv_le_self _ nn
      have e:((oR m rs r par dep u+1:Nat):Int)=(oR m rs r par dep u:Int)+1:=rfl;rw[e]
      lia
   have:=ek _ λk h=>h;rw[qC g R h0 h1];rw[jQ g R h0 h1]at this;have:=(hB v).2;rw[dG,iw];exact bE (Int.add_le_add this (ek _ λk h=>h)) (by rw[jQ g R h0 h1];lia)
end
theorem QN{m r w:Int}{rs:List Road}{par:Int->Int}{dep:Int->Nat}(g:Good m rs)(R:ε m rs r par dep)(r0:0<=r)(r1:r<m)(w1:1<=w):υ m rs r par dep r*w<=3*ϱ m rs r par (cM m rs r par dep) w+1:=by
 have s0:∀x∈((cR m.toNat).filter λv=>decide (v≠r)).map (Zu rs par (cM m rs r par dep)),0<=x:=λx hx=>by
  obtain⟨v,hv,rfl⟩:=bu.mp hx;obtain⟨hv,vn⟩:=b5.mp hv;obtain⟨v0,v1⟩:=gq.mp hv;have vm:v<m:=by lia
  have t2:2<=(cX rs v (par v)).getD 1:=(jX g R v0 vm (dE vn)).1;unfold Zu;rw[show(cM m rs r par dep).getD v.toNat 0=υ m rs r par dep v from fL v0 vm];exact jY (by have:=(gA g R v0 vm).1;lia) (by lia)
 have W1:=(gA g R r0 r1).1;have S0:=GM s0;have p0:=jY (show 0<=υ m rs r par dep r by lia) (show 0<=w-1 by lia);have e:υ m rs r par dep r*w=υ m rs r par dep r*(w-1)+υ m rs r par dep r:=by rw[iz,iw];lia
 unfold ϱ;rw[show(cM m rs r par dep).getD r.toNat 0=υ m rs r par dep r from fL r0 r1,e];by_cases c:kd m rs r par r=[]
 .have w1:υ m rs r par dep r=1:=by
   show fo mx m rs r par dep _ _ r=1;rw[u8 g R r0 r1,show bP m rs (front r par r) r=[]from c]
   rfl
  lia
 .obtain⟨k,hk,ek⟩:=Dt g R r0 r1 c;obtain⟨k1,k2,k3⟩:=(bO g R r0 r1).mp hk;have t2:=(jX g R k1.1 k1.2 k2).1;have wk:=(gA g R k1.1 k1.2).1;have:=CV s0 (bu.mpr ⟨k,b5.mpr ⟨gq.mpr ⟨k1.1,by lia⟩,bg k2⟩,rfl⟩);unfold Zu at this;rw[show(cM m rs r par dep).getD k.toNat 0=υ m rs r par dep k from fL k1.1 k1.2,show(cX rs k (par k)).getD 1=tup rs par k from rfl,iz,iw,ek]at this;have h2:υ m rs r par dep k*2<=υ m rs r par dep r:=by rw[<-ek];exact cT t2 (by lia)
  unfold Zu
  lia
theorem RM{nu b N W:Int}{i dk D dv:Nat}(h1:nu.natAbs<=i*2^(50000+600*dv-590))(h2:b.natAbs<=2^50000)(h3:N.natAbs<=2^(50000+600*dk))(h4:0<=W/\W<=2^(D*(45+20*D)))(hd:dk+1+D<=dv)(h23:dv<=23):IntMulOk N W/\(nu+b+N*W).natAbs<=(i+1)*2^(50000+600*dv-590):=by
 have w1:W.natAbs<=2^(600*D):=aU (rp h4) (bF (by decide) (by rw[iM 600];exact gW _ (by lia)));refine⟨qB (gP h3 (by lia)) (gP w1 (by lia)),?_⟩;have p:(N*W).natAbs<=2^(50000+600*dv-591):=by
  rw[j5];refine aU (bZ h3 w1) ?_;rw[<-eF];exact bF (by decide) (by lia)
 have b1:b.natAbs<=2^(50000+600*dv-591):=aU h2 (bF (by decide) (by lia));have e:2^(50000+600*dv-590)=2^(50000+600*dv-591)*2:=by rw[<-f7];congr 1;lia
 rw[fK,nN];generalize i*2^(50000+600*dv-590)=I at h1 ⊢;rw[e];generalize 2^(50000+600*dv-591)=X at p b1 ⊢
 lia
theorem RD{m:Nat}{cs csk:List Int}{c:Nat}{z:Int}{g:Nat}(Ζ:m<=24)(z0:-70<=z)(z1:z+1<=2^64)(g1:(g:Int)+1<=2^64)(c1:c<=1000000)(l1:cs.length<=24)(l2:csk.length<=24)(b1:∀c∈cs,c.natAbs<=2^15000)(b2:∀c∈csk,c.natAbs<=2^15000):(ϊ (Ϫ (ϴ m (rW cs csk c z))) g 0).natAbs<=2^50000:=by
 have len:(Ϫ (ϴ m (rW cs csk c z))).length=m:=by rw[Cj];unfold ϴ;rw[ah,bC]
 have db:∀x∈Ϫ (ϴ m (rW cs csk c z)),x.natAbs<=2^(42815+m):=zI m (by unfold ϴ;rw[ah,bC]) λx hx=>by
  obtain⟨j,hj,rfl⟩:=bu.mp hx;rw[b6]at hj;have h1:=zG (F:=rW cs csk c z) (b:=42810) (k:=j) λi hi=>Gs z0 z1 (by lia) c1 l1 l2 b1 b2;refine aU h1 (aU (dY _ (show j<=2^5 by lia)) (mY (eF ..).symm))
 have:=vZ (z:=(g:Int)) (x:=64) (by lia) g1 (by decide) (cs:=Ϫ (ϴ m (rW cs csk c z))) (k:=0) (by lia) db;rw[yc,len]at this;refine aU this (aU (dY _ (show m<=2^5 by lia)) ?_);rw[<-eF];exact bF (by decide) (by lia)
section
variable{m r w:Int}{rs:List Road}{par:Int->Int}{dep:Int->Nat}
theorem LU{p:Int->Bool}{l:List Int}{j:Nat}{u:Int}(h:l[j]?=some u)(hp:p u=true):(l.take (j+1)).filter p=(l.take j).filter p++[u]:=by
 rw[df,h,c8];exact congrArg _ (gi hp)
theorem Cp{p:Int->Bool}{l:List Int}{j:Nat}{u:Int}(h:l[j]?=some u)(hp:p u=false):(l.take (j+1)).filter p=(l.take j).filter p:=by
 rw[df,h,c8];exact(congrArg _ (fB (by rw[hp];decide))).trans (bX _)
theorem Order.behind(R:ε m rs r par dep){t:List Int}(O:Order m r par t){i:Nat}{u v:Int}(hv:(r::t)[i]?=some v)(hu:u∈(r::t).take (i+1))(un:u≠r):par u≠v:=λz=>by
 obtain⟨j,hj,ej⟩:=dL hu;rw[bd]at hj;rw[fG]at ej;cases j with
 | zero=>exact un ej.symm
 | succ j=>
   have hj2:t[j]?=some u:=by rw[ap (by rw[aE]at hj;lia)];exact congrArg some ej
   have au:=After.up (A:=t.take (j+1)) (B:=t.drop (j+1)) (S:=[r]) (by rw[b8];exact O.af) u (by rw[df,hj2];exact aY _ (.head _));have ur:=O.Μ u (aM hj2);have pd:=R.pos ur.1 ur.2 un;have pm:par u∈(r::t).take (j+1):=by
    rw[mI];rcases au with y|y
    .rw[aB.mp y];exact .head _
    .rw[df,hj2]at y;rcases bc.mp y with y|y
     .exact .tail _ y
     .have:par u=u:=aB.mp y;rw[this]at pd
      lia
   obtain⟨a,ha,ea⟩:=dL pm;rw[bd]at ha;rw[fG,z]at ea;have:=(fF (show a<(r::t).length by lia) O.nd).mp (show(r::t)[a]?=(r::t)[i]? by rw[hv,ap (by lia),ea])
   lia
structure Sps(m:Int)(rs:List Road)(r:Int)(par:Int->Int)(dep:Int->Nat)(w:Int)(t:List Int)(i:Nat)(xs ys:List Int)(gv:Int->Int):Prop where
 xl:(xs.length:Int)=m
 yl:(ys.length:Int)=m
 rt:ys.getD r.toNat 0=w-1
 up:∀u,0<=u->u<m->u≠r->par u∈(r::t).take i->ys.getD u.toNat 0=(gv u+1)*tup rs par u-1/\(gv u≠0->υ m rs r par dep u*tup rs par u=υ m rs r par dep (par u))
 su:∀v∈(r::t).take i,kd m rs r par v≠[]->((kd m rs r par v).map gv).sum=ys.getD v.toNat 0
 ly:∀v,0<=v->v<m->xs.getD v.toNat 0=if v∈(r::t).take i/\kd m rs r par v=[]then ys.getD v.toNat 0 else 0
structure Spk(m:Int)(rs:List Road)(r:Int)(par:Int->Int)(dep:Int->Nat)(v:Int)(ks ys:List Int)(gv:Int->Int)(j:Nat)(zs:List Int)(gw:Int->Int)(left:Int):Prop where
 zl:(zs.length:Int)=m
 ot:∀u,0<=u->u∉ks.take j->zs.getD u.toNat 0=ys.getD u.toNat 0/\gw u=gv u
 up:∀u∈ks.take j,zs.getD u.toNat 0=(gw u+1)*tup rs par u-1/\(gw u≠0->υ m rs r par dep u*tup rs par u=υ m rs r par dep v)
 su:((ks.take j).map gw).sum+left=ys.getD v.toNat 0
 lz:(∃u∈ks.take j,(ks.filter λu=>decide (υ m rs r par dep u*tup rs par u=υ m rs r par dep v)).getLast?=some u)->left=0
variable{ks ys zs xs t:List Int}{gv gw:Int->Int}{v left:Int}{i j:Nat}
theorem Spk.start(yl:(ys.length:Int)=m):Spk m rs r par dep v ks ys gv 0 ys gv (ys.getD v.toNat 0):=⟨yl,λ_ _ _=>⟨rfl,rfl⟩,λ_ h=>(nomatch h),dq _,λ⟨_,h,_⟩=>(nomatch h)⟩
theorem Spk.step(S:Spk m rs r par dep v ks ys gv j zs gw left)(nd:ks.Nodup)(kr:∀u∈ks,0<=u/\u<m){u g:Int}(hu:ks[j]?=some u)(g0:0<=g)(g1:g<=left)(gh:g≠0->υ m rs r par dep u*tup rs par u=υ m rs r par dep v)(gl:(ks.filter λu=>decide (υ m rs r par dep u*tup rs par u=υ m rs r par dep v)).getLast?=some u->g=left):Spk m rs r par dep v ks ys gv (j+1) (zs.set u.toNat ((g+1)*tup rs par u-1)) (λx=>if x=u then g else gw x) (left-g):=by
 have zl:=S.zl;have ur:=kr u (aM hu);have et:ks.take (j+1)=ks.take j++[u]:=by rw[df,hu];rfl
 have nu:u∉ks.take j:=λy=>by
  obtain⟨a,ha,ea⟩:=dL y;rw[bd]at ha;rw[fG]at ea;have:=(fF (show a<ks.length by lia) nd).mp (show ks[a]?=ks[j]? by rw[hu,ap (by lia),ea])
  lia
 have get:∀x,0<=x->x≠u->(zs.set u.toNat ((g+1)*tup rs par u-1)).getD x.toNat 0=zs.getD x.toNat 0:=λx x0 xn=>by rw[o0 _ _ _ _ (by lia),ag (by lia)]
 refine⟨by rw[cP];exact zl,λx x0 xn=>?_,λx hx=>?_,?_,λ⟨x,hx,e⟩=>?_⟩
 .rw[et]at xn;have xu:x≠u:=λz=>xn (aY _ (z▸.head _));rw[get x x0 xu,ag xu];exact S.ot x x0 λz=>xn (bo _ z)
 .rw[et]at hx;rcases bc.mp hx with hx|hx
  .have xu:x≠u:=λz=>nu (z▸hx);rw[get x (kr x (gJ hx)).1 xu,ag xu];exact S.up x hx
  .rw[aB.mp hx,o0 _ _ _ _ (by lia),aj rfl,aj rfl];exact⟨rfl,gh⟩
 .rw[et,aD,eE,qr (h:=gw) λc hc=>ag λz:c=u=>nu (z▸hc)];have:=S.su;show _+((if u=u then g else gw u)+0)+_=_;rw[aj rfl]
  lia
 .rw[et]at hx;rcases bc.mp hx with hx|hx
  .have:=S.lz ⟨x,hx,e⟩
   lia
  .rw[aB.mp hx]at e;have:=gl e
   lia
theorem Spk.done(g:Good m rs)(R:ε m rs r par dep)(O:Order m r par t)(r0:0<=r)(r1:r<m)(N:Sps m rs r par dep w t i xs ys gv)(hv:(r::t)[i]?=some v)(S:Spk m rs r par dep v ks ys gv ks.length zs gw left)(nd:ks.Nodup)(hk:∀u,u∈ks↔u∈kd m rs r par v):Sps m rs r par dep w t (i+1) (if ks=[]then xs.set v.toNat (zs.getD v.toNat 0)else xs) zs gw:=by
 have vr:0<=v/\v<m:=by
  rcases ar.mp (aM hv)with h|h
  .rw[h];exact⟨r0,r1⟩
  .exact O.Μ v h
 have ot:∀u,0<=u->u∉ks->zs.getD u.toNat 0=ys.getD u.toNat 0/\gw u=gv u:=λu u0 un=>S.ot u u0 (by rw[bp];exact un);have et:(r::t).take (i+1)=(r::t).take i++[v]:=by rw[df,hv];rfl
 have kk:∀u∈ks,(0<=u/\u<m)/\u≠r/\par u=v:=λu h=>(bO g R vr.1 vr.2).mp ((hk u).mp h);have far:∀u∈(r::t).take (i+1),u∉ks:=λu h z=>Order.behind R O hv h (kk u z).2.1 (kk u z).2.2;have vi:v∈(r::t).take (i+1):=by rw[et];exact aY _ (.head _)
 have nv:v∉(r::t).take i:=λy=>by
  obtain⟨a,ha,ea⟩:=dL y;rw[bd]at ha;rw[fG]at ea;have:=(fF (show a<(r::t).length by lia) O.nd).mp (show(r::t)[a]?=(r::t)[i]? by rw[hv,ap (by lia),ea])
  lia
 have ke:ks=[]↔kd m rs r par v=[]:=by
  rw[dX,dX];exact⟨λh u z=>h u ((hk u).mpr z),λh u z=>h u ((hk u).mp z)⟩
 have xl:=N.xl;refine⟨by split;rw[cP];exact xl;exact xl,S.zl,?_,λu u0 u1 un hp=>?_,λx hx kx=>?_,λx x0 x1=>?_⟩
 .rw[(ot r r0 λz=>(kk r z).2.1 rfl).1];exact N.rt
 .by_cases c:par u=v
  .have:=S.up u (by rw[bp];exact(hk u).mpr ((bO g R vr.1 vr.2).mpr ⟨⟨u0,u1⟩,un,c⟩));rw[c];exact this
  .obtain⟨o1,o2⟩:=ot u u0 λz=>c (kk u z).2.2;rw[o1,o2];rw[et]at hp;exact N.up u u0 u1 un ((bc.mp hp).resolve_right λz=>c (aB.mp z))
 .have xr:0<=x/\x<m:=by
   rcases ar.mp (gJ hx)with h|h
   .rw[h];exact⟨r0,r1⟩
   .exact O.Μ x h
  rw[(ot x xr.1 (far x hx)).1];by_cases c:x=v
  .subst c;have:=S.su;rw[bp]at this;obtain⟨b,hb,eb⟩:=Dt g R vr.1 vr.2 kx;have hn:b∈ks.filter λu=>decide (υ m rs r par dep u*tup rs par u=υ m rs r par dep x):=b5.mpr ⟨(hk b).mpr hb,bg eb⟩;have l0:left=0:=S.lz (by
    cases e:(ks.filter λu=>decide (υ m rs r par dep u*tup rs par u=υ m rs r par dep x)).getLast? with
    | none=>rw[List.getLast?_eq_none_iff]at e;rw[e]at hn;cases hn
    | some u=>exact⟨u,by rw[bp];exact(b5.mp (mj e)).1,rfl⟩)
   rw[<-tD ((iC nd pH hk).map gw)]
   lia
  .rw[et]at hx;have hx:=(bc.mp hx).resolve_right λz=>c (aB.mp z);rw[<-N.su x hx kx];exact qr λu hu=>(ot u ((bO g R xr.1 xr.2).mp hu).1.1 λz=>c (((bO g R xr.1 xr.2).mp hu).2.2.symm.trans (kk u z).2.2)).2
 .have old:=N.ly x x0 x1;by_cases c:x=v
  .subst c;rw[ag λz=>nv z.1]at old;by_cases cz:ks=[]
   .rw[aj cz,o0 _ _ _ _ (by lia),aj rfl,aj ⟨vi,ke.mp cz⟩]
   .rw[ag cz,old,ag λz=>cz (ke.mpr z.2)]
  .have e1:(if ks=[]then xs.set v.toNat (zs.getD v.toNat 0)else xs).getD x.toNat 0=xs.getD x.toNat 0:=by
    split
    .rw[o0 _ _ _ _ (by lia),ag (by lia)]
    .rfl
   have e2:x∈(r::t).take (i+1)↔x∈(r::t).take i:=by
    rw[et];exact⟨λy=>(bc.mp y).resolve_right λz=>c (aB.mp z),λy=>bo _ y⟩
   rw[e1,old];by_cases cx:x∈(r::t).take i
   .rw[(ot x x0 (far x (e2.mpr cx))).1];simp only[e2]
   .rw[ag λz=>cx z.1,ag λz=>cx (e2.mp z.1)]
theorem Sps.fin(g:Good m rs)(R:ε m rs r par dep)(O:Order m r par t)(N:Sps m rs r par dep w t (r::t).length xs ys gv):Spr m rs r par dep w (λv=>ys.getD v.toNat 0) gv/\∀v,0<=v->v<m->xs.getD v.toNat 0=if kd m rs r par v=[]then ys.getD v.toNat 0 else 0:=by
 have all:∀v,0<=v->v<m->v∈(r::t).take (r::t).length:=λv v0 v1=>by
  rw[bp];rcases O.all v v0 v1 with h|h
  .rw[h];exact .head _
  .exact .tail _ h
 refine⟨⟨N.rt,λv v0 v1 vn=>N.up v v0 v1 vn (all _ (R.up v v0 v1 vn).1.1 (R.up v v0 v1 vn).1.2),λv v0 v1=>N.su v (all v v0 v1)⟩,λv v0 v1=>?_⟩;rw[N.ly v v0 v1];simp only[all v v0 v1,true_and]
end
def du7(pick m r w:Int)(fl:Bool)(num need count:Int)(good:Bool):Str:=if r<0\/m<=r then "place" else if w<1 then "wish" else if 1<pick/\1000000000000<need then "many" else if(pick=0\/pick=3)/\fl=false then "laying" else if(pick=2/\(num<0\/count<=num))\/(pick=3/\good=false)then "number" else "none"
theorem Κ{l:List Addr}(h:l.Nodup)(i j:Nat){a b:Addr}(hi:l[i]?=some a:=by rfl)(hj:l[j]?=some b:=by rfl)(ij:i≠j:=by decide):a≠b:=Vf h i j hi hj ij
section
variable{X:Cx}{x:Str}{p pos pos':Pos}{e:Expr}{es:List Expr}{te:TE}{t:TA}{ex:XK->TE}
theorem γ(i:Nat)(n:Zt X.env.scope x:=by exact .of (by kernel_rfl))(hN:X.N[i]?=some x:=by rfl):PE X (.Name x pos) (wX i):=pvl i n hN
theorem ϲ(i:Nat)(n:ZU X.env.scope x:=by exact .of (by kernel_rfl))(hN:X.N[i]?=some x:=by rfl):PE X (.Name x pos) (wX i):=pvc i n hN
theorem Φ(i:Nat)(hN:X.N.Nodup:=by exact dE (by kernel_rfl))(hi:X.N[i]?=some x:=by rfl)(hl:X.env.scope.names.lookup x=some .local:=by kernel_rfl):PG X (.Name x pos) (vU i):=fN hN hi (.inl hl) (.inr hl)
theorem ρ(i:Nat)(he:PE X e te)(hN:X.N.Nodup:=by exact dE (by kernel_rfl))(hi:X.N[i]?=some x:=by rfl)(hl:X.env.scope.names.lookup x=some .local:=by kernel_rfl)(hs:swapsWith e (some (.Name x pos')) pos.line X.env=pure false:=by rfl):PS X (.Assign [.Name x pos'] e pos) (Ck te (vU i)):=xK hN hi (.inl hl) he hs (.inr hl)
theorem pgl{C:Addr}(hm:X.mg x=some (.ref C))(hg:X.env.scope.names.lookup x=some .globalImplicit:=by kernel_rfl)(hd:(x==("__debug__":Str))=false:=by kernel_rfl):PE X (.Name x pos) (tC (.ref C)):=IZ hg hm rfl hd
variable{CX:nE}{k j:Nat}{f:Addr}{fd:FuncData}{ps:List Str}{sp:Sp}{st:Stmt}
theorem pcq(D:Df X.K X.mg x st ps f fd)(F:Ω X.prog X.w X.K X.mg X.base CX k f fd ps sp)(hr:Ι j X.A)(q:bU CX)(ha:PA X (e::es) t)(hj:k<=j:=by decide)(hg:X.env.scope.names.lookup x=some .globalImplicit:=by kernel_rfl)(hdb:(x==("__debug__":Str))=false:=by kernel_rfl)(he:starEach (e::es) X.env=(false,eval e X.env)::starEach es X.env:=by rfl)(ϡ:(backTo pos (starEach es X.env)).any (·.1)=false:=by rfl):PE X (.Call (.Name x p) (e::es) [] pos) (qL sp [] E0 t):=sM F (hr.mono hj) hg D.m D.F.kp D.b .nil (yf q) ha hdb he ϡ
theorem pcx{E:XK}(D:Df X.K X.mg x st ps f fd)(F:Ω X.prog X.w X.K X.mg X.base CX k f fd ps sp)(hr:Ι j X.A)(hx:q9 CX X E)(ha:PA X (e::es) t)(hj:k<=j:=by decide)(hg:X.env.scope.names.lookup x=some .globalImplicit:=by kernel_rfl)(hdb:(x==("__debug__":Str))=false:=by kernel_rfl)(he:starEach (e::es) X.env=(false,eval e X.env)::starEach es X.env:=by rfl)(ϡ:(backTo pos (starEach es X.env)).any (·.1)=false:=by rfl):PE X (.Call (.Name x p) (e::es) [] pos) (qL sp [] E t):=sM F (hr.mono hj) hg D.m D.F.kp D.b .nil hx ha hdb he ϡ
theorem pxc(D:Df X.K X.mg x st ps f fd)(F:Ω X.prog X.w X.K X.mg X.base CX k f fd ps sp)(hr:Ι j X.A)(ha:PA X.nox (e::es) t)(hj:k<=j:=by decide)(hg:X.env.scope.names.lookup x=some .globalImplicit:=by kernel_rfl)(hdb:(x==("__debug__":Str))=false:=by kernel_rfl)(he:starEach (e::es) X.env=(false,eval e X.env)::starEach es X.env:=by rfl)(ϡ:(backTo pos (starEach es X.env)).any (·.1)=false:=by rfl):PEx CX X (.Call (.Name x p) (e::es) [] pos) (λE=>qL sp [] E t):=Qg F (hr.mono hj) hg D.m D.F.kp D.b .nil ha hdb he ϡ
structure Cb(P:Program)(w:World)(K:PySem.W.Frag)(mg:Str->Option Value)(base:Heap)(x:Str)(st:Stmt)(ps:List Str)(k:Nat)(sp:Sp) where
 f:Addr
 fd:FuncData
 D:Df K mg x st ps f fd
 G:Ω P w K mg base (ψ P w) k f fd ps sp
def cb{P:Program}{w:World}{K:PySem.W.Frag}{mg:Str->Option Value}{base:Heap}(D:Df K mg x st ps f fd)(G:Ω P w K mg base (ψ P w) k f fd ps sp):Cb P w K mg base x st ps k sp:=⟨f,fd,D,G⟩
theorem Θ(c:Cb X.prog X.w X.K X.mg X.base x st ps k sp)(hr:Ι j X.A)(q:bU (ψ X.prog X.w))(ha:PA X (e::es) t)(hj:k<=j:=by decide)(hg:X.env.scope.names.lookup x=some .globalImplicit:=by kernel_rfl)(hdb:(x==("__debug__":Str))=false:=by kernel_rfl)(he:starEach (e::es) X.env=(false,eval e X.env)::starEach es X.env:=by rfl)(ϡ:(backTo pos (starEach es X.env)).any (·.1)=false:=by rfl):PE X (.Call (.Name x p) (e::es) [] pos) (qL sp [] E0 t):=pcq c.D c.G hr q ha hj hg hdb he ϡ
theorem ϖ{E:XK}(c:Cb X.prog X.w X.K X.mg X.base x st ps k sp)(hr:Ι j X.A)(hx:q9 (ψ X.prog X.w) X E)(ha:PA X (e::es) t)(hj:k<=j:=by decide)(hg:X.env.scope.names.lookup x=some .globalImplicit:=by kernel_rfl)(hdb:(x==("__debug__":Str))=false:=by kernel_rfl)(he:starEach (e::es) X.env=(false,eval e X.env)::starEach es X.env:=by rfl)(ϡ:(backTo pos (starEach es X.env)).any (·.1)=false:=by rfl):PE X (.Call (.Name x p) (e::es) [] pos) (qL sp [] E t):=pcx c.D c.G hr hx ha hj hg hdb he ϡ
theorem pyb(c:Cb X.prog X.w X.K X.mg X.base x st ps k sp)(hr:Ι j X.A)(ha:PA X.nox (e::es) t)(hj:k<=j:=by decide)(hg:X.env.scope.names.lookup x=some .globalImplicit:=by kernel_rfl)(hdb:(x==("__debug__":Str))=false:=by kernel_rfl)(he:starEach (e::es) X.env=(false,eval e X.env)::starEach es X.env:=by rfl)(ϡ:(backTo pos (starEach es X.env)).any (·.1)=false:=by rfl):PEx (ψ X.prog X.w) X (.Call (.Name x p) (e::es) [] pos) (λE=>qL sp [] E t):=pxc c.D c.G hr ha hj hg hdb he ϡ
variable{id T:String}{r:List V->Hp->VK->Prop}
theorem dO(hc:kR X (.builtin id) r)(hm:X.mg x=none)(ha:PA X (e::es) t)(hv:bootBuiltins x=some (.builtin id):=by kernel_rfl)(hg:X.env.scope.names.lookup x=some .globalImplicit:=by kernel_rfl)(hn:decide (x="__name__")=false:=by kernel_rfl)(hdb:(x==("__debug__":Str))=false:=by kernel_rfl)(he:starEach (e::es) X.env=(false,eval e X.env)::starEach es X.env:=by rfl)(ϡ:(backTo pos (starEach es X.env)).any (·.1)=false:=by rfl):PE X (.Call (.Name x p) (e::es) [] pos) (tCB r t):=Pu hc hg hm hv ha (of_decide_eq_false hn) hdb he ϡ
theorem pct(hc:kR X (.type T) r)(hm:X.mg x=none)(ha:PA X (e::es) t)(hv:bootBuiltins x=some (.type T):=by kernel_rfl)(hg:X.env.scope.names.lookup x=some .globalImplicit:=by kernel_rfl)(hn:decide (x="__name__")=false:=by kernel_rfl)(hdb:(x==("__debug__":Str))=false:=by kernel_rfl)(he:starEach (e::es) X.env=(false,eval e X.env)::starEach es X.env:=by rfl)(ϡ:(backTo pos (starEach es X.env)).any (·.1)=false:=by rfl):PE X (.Call (.Name x p) (e::es) [] pos) (tCB r t):=DB hc hg hm hv ha (of_decide_eq_false hn) hdb he ϡ
end
inductive E3{A0 A1 A2:Type}(p:A0->A1->A2->Prop):Prop
 | mk (a0:A0) (a1:A1) (a2:A2) (h:p a0 a1 a2):E3 p
inductive E4{A0 A1 A2 A3:Type}(p:A0->A1->A2->A3->Prop):Prop
 | mk (a0:A0) (a1:A1) (a2:A2) (a3:A3) (h:p a0 a1 a2 a3):E4 p
inductive E5{A0 A1 A2 A3 A4:Type}(p:A0->A1->A2->A3->A4->Prop):Prop
 | mk (a0:A0) (a1:A1) (a2:A2) (a3:A3) (a4:A4) (h:p a0 a1 a2 a3 a4):E5 p
inductive E6{A0 A1 A2 A3 A4 A5:Type}(p:A0->A1->A2->A3->A4->A5->Prop):Prop
 | mk (a0:A0) (a1:A1) (a2:A2) (a3:A3) (a4:A4) (a5:A5) (h:p a0 a1 a2 a3 a4 a5):E6 p
inductive E7{A0 A1 A2 A3 A4 A5 A6:Type}(p:A0->A1->A2->A3->A4->A5->A6->Prop):Prop
 | mk (a0:A0) (a1:A1) (a2:A2) (a3:A3) (a4:A4) (a5:A5) (a6:A6) (h:p a0 a1 a2 a3 a4 a5 a6):E7 p
inductive E8{A0 A1 A2 A3 A4 A5 A6 A7:Type}(p:A0->A1->A2->A3->A4->A5->A6->A7->Prop):Prop
 | mk (a0:A0) (a1:A1) (a2:A2) (a3:A3) (a4:A4) (a5:A5) (a6:A6) (a7:A7) (h:p a0 a1 a2 a3 a4 a5 a6 a7):E8 p
inductive E9{A0 A1 A2 A3 A4 A5 A6 A7 A8:Type}(p:A0->A1->A2->A3->A4->A5->A6->A7->A8->Prop):Prop
 | mk (a0:A0) (a1:A1) (a2:A2) (a3:A3) (a4:A4) (a5:A5) (a6:A6) (a7:A7) (a8:A8) (h:p a0 a1 a2 a3 a4 a5 a6 a7 a8):E9 p
inductive E10{A0 A1 A2 A3 A4 A5 A6 A7 A8 A9:Type}(p:A0->A1->A2->A3->A4->A5->A6->A7->A8->A9->Prop):Prop
 | mk (a0:A0) (a1:A1) (a2:A2) (a3:A3) (a4:A4) (a5:A5) (a6:A6) (a7:A7) (a8:A8) (a9:A9) (h:p a0 a1 a2 a3 a4 a5 a6 a7 a8 a9):E10 p
inductive E11{A0 A1 A2 A3 A4 A5 A6 A7 A8 A9 eQ:Type}(p:A0->A1->A2->A3->A4->A5->A6->A7->A8->A9->eQ->Prop):Prop
 | mk (a0:A0) (a1:A1) (a2:A2) (a3:A3) (a4:A4) (a5:A5) (a6:A6) (a7:A7) (a8:A8) (a9:A9) (Yh:eQ) (h:p a0 a1 a2 a3 a4 a5 a6 a7 a8 a9 Yh):E11 p
inductive E12{A0 A1 A2 A3 A4 A5 A6 A7 A8 A9 eQ Ac:Type}(p:A0->A1->A2->A3->A4->A5->A6->A7->A8->A9->eQ->Ac->Prop):Prop
 | mk (a0:A0) (a1:A1) (a2:A2) (a3:A3) (a4:A4) (a5:A5) (a6:A6) (a7:A7) (a8:A8) (a9:A9) (Yh:eQ) (YL:Ac) (h:p a0 a1 a2 a3 a4 a5 a6 a7 a8 a9 Yh YL):E12 p
inductive E15{A0 A1 A2 A3 A4 A5 A6 A7 A8 A9 eQ Ac Xy Xz XA:Type}(p:A0->A1->A2->A3->A4->A5->A6->A7->A8->A9->eQ->Ac->Xy->Xz->XA->Prop):Prop
 | mk (a0:A0) (a1:A1) (a2:A2) (a3:A3) (a4:A4) (a5:A5) (a6:A6) (a7:A7) (a8:A8) (a9:A9) (Yh:eQ) (YL:Ac) (Zc:Xy) (Zd:Xz) (Ze:XA) (h:p a0 a1 a2 a3 a4 a5 a6 a7 a8 a9 Yh YL Zc Zd Ze):E15 p
inductive E16{A0 A1 A2 A3 A4 A5 A6 A7 A8 A9 eQ Ac Xy Xz XA X3:Type}(p:A0->A1->A2->A3->A4->A5->A6->A7->A8->A9->eQ->Ac->Xy->Xz->XA->X3->Prop):Prop
 | mk (a0:A0) (a1:A1) (a2:A2) (a3:A3) (a4:A4) (a5:A5) (a6:A6) (a7:A7) (a8:A8) (a9:A9) (Yh:eQ) (YL:Ac) (Zc:Xy) (Zd:Xz) (Ze:XA) (ZQ:X3) (h:p a0 a1 a2 a3 a4 a5 a6 a7 a8 a9 Yh YL Zc Zd Ze ZQ):E16 p
inductive E18{A0 A1 A2 A3 A4 A5 A6 A7 A8 A9 eQ Ac Xy Xz XA X3 YM YN:Type}(p:A0->A1->A2->A3->A4->A5->A6->A7->A8->A9->eQ->Ac->Xy->Xz->XA->X3->YM->YN->Prop):Prop
 | mk (a0:A0) (a1:A1) (a2:A2) (a3:A3) (a4:A4) (a5:A5) (a6:A6) (a7:A7) (a8:A8) (a9:A9) (Yh:eQ) (YL:Ac) (Zc:Xy) (Zd:Xz) (Ze:XA) (ZQ:X3) (a16:YM) (a17:YN) (h:p a0 a1 a2 a3 a4 a5 a6 a7 a8 a9 Yh YL Zc Zd Ze ZQ a16 a17):E18 p
inductive E19{A0 A1 A2 A3 A4 A5 A6 A7 A8 A9 eQ Ac Xy Xz XA X3 YM YN Zw:Type}(p:A0->A1->A2->A3->A4->A5->A6->A7->A8->A9->eQ->Ac->Xy->Xz->XA->X3->YM->YN->Zw->Prop):Prop
 | mk (a0:A0) (a1:A1) (a2:A2) (a3:A3) (a4:A4) (a5:A5) (a6:A6) (a7:A7) (a8:A8) (a9:A9) (Yh:eQ) (YL:Ac) (Zc:Xy) (Zd:Xz) (Ze:XA) (ZQ:X3) (a16:YM) (a17:YN) (a18:Zw) (h:p a0 a1 a2 a3 a4 a5 a6 a7 a8 a9 Yh YL Zc Zd Ze ZQ a16 a17 a18):E19 p
inductive E20{A0 A1 A2 A3 A4 A5 A6 A7 A8 A9 eQ Ac Xy Xz XA X3 YM YN Zw A19:Type}(p:A0->A1->A2->A3->A4->A5->A6->A7->A8->A9->eQ->Ac->Xy->Xz->XA->X3->YM->YN->Zw->A19->Prop):Prop
 | mk (a0:A0) (a1:A1) (a2:A2) (a3:A3) (a4:A4) (a5:A5) (a6:A6) (a7:A7) (a8:A8) (a9:A9) (Yh:eQ) (YL:Ac) (Zc:Xy) (Zd:Xz) (Ze:XA) (ZQ:X3) (a16:YM) (a17:YN) (a18:Zw) (a19:A19) (h:p a0 a1 a2 a3 a4 a5 a6 a7 a8 a9 Yh YL Zc Zd Ze ZQ a16 a17 a18 a19):E20 p
inductive E21{A0 A1 A2 A3 A4 A5 A6 A7 A8 A9 eQ Ac Xy Xz XA X3 YM YN Zw A19 A20:Type}(p:A0->A1->A2->A3->A4->A5->A6->A7->A8->A9->eQ->Ac->Xy->Xz->XA->X3->YM->YN->Zw->A19->A20->Prop):Prop
 | mk (a0:A0) (a1:A1) (a2:A2) (a3:A3) (a4:A4) (a5:A5) (a6:A6) (a7:A7) (a8:A8) (a9:A9) (Yh:eQ) (YL:Ac) (Zc:Xy) (Zd:Xz) (Ze:XA) (ZQ:X3) (a16:YM) (a17:YN) (a18:Zw) (a19:A19) (a20:A20) (h:p a0 a1 a2 a3 a4 a5 a6 a7 a8 a9 Yh YL Zc Zd Ze ZQ a16 a17 a18 a19 a20):E21 p
inductive E22{A0 A1 A2 A3 A4 A5 A6 A7 A8 A9 eQ Ac Xy Xz XA X3 YM YN Zw A19 A20 A21:Type}(p:A0->A1->A2->A3->A4->A5->A6->A7->A8->A9->eQ->Ac->Xy->Xz->XA->X3->YM->YN->Zw->A19->A20->A21->Prop):Prop
 | mk (a0:A0) (a1:A1) (a2:A2) (a3:A3) (a4:A4) (a5:A5) (a6:A6) (a7:A7) (a8:A8) (a9:A9) (Yh:eQ) (YL:Ac) (Zc:Xy) (Zd:Xz) (Ze:XA) (ZQ:X3) (a16:YM) (a17:YN) (a18:Zw) (a19:A19) (a20:A20) (a21:A21) (h:p a0 a1 a2 a3 a4 a5 a6 a7 a8 a9 Yh YL Zc Zd Ze ZQ a16 a17 a18 a19 a20 a21):E22 p
inductive E23{A0 A1 A2 A3 A4 A5 A6 A7 A8 A9 eQ Ac Xy Xz XA X3 YM YN Zw A19 A20 A21 A22:Type}(p:A0->A1->A2->A3->A4->A5->A6->A7->A8->A9->eQ->Ac->Xy->Xz->XA->X3->YM->YN->Zw->A19->A20->A21->A22->Prop):Prop
 | mk (a0:A0) (a1:A1) (a2:A2) (a3:A3) (a4:A4) (a5:A5) (a6:A6) (a7:A7) (a8:A8) (a9:A9) (Yh:eQ) (YL:Ac) (Zc:Xy) (Zd:Xz) (Ze:XA) (ZQ:X3) (a16:YM) (a17:YN) (a18:Zw) (a19:A19) (a20:A20) (a21:A21) (a22:A22) (h:p a0 a1 a2 a3 a4 a5 a6 a7 a8 a9 Yh YL Zc Zd Ze ZQ a16 a17 a18 a19 a20 a21 a22):E23 p
def clK(Nc:List Str)(own:Nat)(js:List Nat)(N:List Str)(sc sX:Scope):Bool:=(sc.names.all λy=>decide (y.2≠.cell))&&decide (sc.kind=.function)&&(sc.names.all λy=>decide (y.2=.local->sc.names.lookup y.1=some .local))&&decide (Nc.length=own+js.length)&&(sc.names.all λy=>decide (y.2=.free->sX.names.lookup y.1=some .cell))&&decide (sX.kind=.function)&&(List.range js.length).all λi=>match Nc[own+i]?,js[i]? with
 | some x,some j=>decide (N[j]?=some x)&&decide (sc.names.lookup x=some .free)
 | _,_=>false
theorem ZY{X:Cx}{scope:Scope}(Nc:List Str)(own:Nat)(js:List Nat)(h:clK Nc own js X.N scope X.env.scope=true:=by kernel_rfl)(ϳ:∀x,X.env.scope.names.lookup x=some .cell->∃c,X.env.cells.lookup x=some c:=by exact λ_ h=>Ah h):ϝ X Nc own js scope (sW X.env.cells scope.names []):=by
 unfold clK at h;simp only[cj,bK,fX,b6]at h;obtain⟨⟨⟨⟨⟨⟨h1,h2⟩,h3⟩,h4⟩,h5⟩,h6⟩,h7⟩:=h;refine Ri own js h1 h2 h3 h4 h5 h6 ϳ λi hi=>?_;have q:=h7 i hi;split at q
 .rename_i x j e1 e2
  simp only[cj,bK]at q;exact⟨x,j,e1,e2,q.1,q.2⟩
 .cases q
abbrev Ok(P:Program)(w:World)(K:PySem.W.Frag)(mg:Str->Option Value)(base:Heap)(x:Str)(st:Stmt)(ps:List Str)(k:Nat)(sp:Sp):Prop:=∀(f:Addr)(fd:FuncData),Df K mg x st ps f fd->Ω P w K mg base (ψ P w) k f fd ps sp
section
variable{X:Cx}{a b:Expr}{ta tb:TE}{pos:Pos}
theorem Δ{r:R2}(hr:IxR X r)(ha:PE X a ta)(hb:PE X b tb)(hs:Iv b:=by exact λ_ _=>rfl):PE X (.Subscript a b pos) (tOp r ta tb):=iL hr ha hb hs
theorem ό{op:CmpOp}{r:R2}(ho:ϸ X (compareOp op) r)(ha:PE X a ta)(hb:PE X b tb)(h:op≠.In:=by decide)(h2:op≠.NotIn:=by decide):PT X (.Compare a [op] [b] pos) (BQ (tOp r ta tb)):=sK ho ha hb (oC _ h h2)
end
end Pb
set_option maxHeartbeats 4000000
namespace Pk
open PySem L2 Pb
seal L2.Y0 L2.PS L2.PE L2.PT L2.PW L2.PA L2.PG L2.PGs L2.PI L2.PTs L2.PC L2.PPs L2.PO
abbrev top(i:Nat):Stmt:=Hd.top i
local macro_rules|`(tactic| walk_at "") => `(tactic| ((try dsimp only [acL, JI, Ends.less, DC, Iy, Gb, Ie, DG, OZ, K0, P3, KQ, JY, JM, Nm, O3, LY, Dx, PR, K3, Z8, Ck, vU, KO, JC, acw, OF, Js, Oy, JA, ipI, K4, Kf, BQ, tB, BU, tC, wX, tOp, tUn, rI0, rI, rU, rEq, rNe, qL, La, EC, aaW, O8, PH, tCB, tBM, Nk, Pt, M0, OX, Ca, Kk, KW, EE, xL, Y6, Y7, Pi, tOr, O2, KG, List.nil_append, List.append_nil, List.set_cons_zero, List.set_cons_succ, List.getElem?_cons_zero, List.getElem?_cons_succ]);(try simp only [acL, JI, Ends.less, DC, Iy, Gb, Ie, DG, OZ, K0, P3, KQ, JY, JM, Nm, O3, LY, Dx, PR, K3, Z8, Ck, vU, KO, JC, acw, OF, Js, Oy, JA, ipI, K4, Kf, BQ, tB, BU, tC, wX, tOp, tUn, rI0, rI, rU, rEq, rNe, RB, QQ, Q5, QH, RI, QY, qL, La, EC, aaW, O8, PH, tCB, tBM, Nk, Pt, M0, OX, Ca, Kk, KW, EE, xL, Y6, Y7, Pi, tOr, O2, KG, List.nil_append, List.append_nil, List.set_cons_zero, List.set_cons_succ, List.getElem?_cons_zero, List.getElem?_cons_succ, Option.some.injEq, V.int.injEq, V.bl.injEq, V.ref.injEq, List.cons.injEq, exists_eq_left, exists_eq_left', exists_and_left, exists_const, and_true, true_and, decide_eq_true_eq, Bool.not_eq_true', decide_eq_false_iff_not, Bool.true_eq_false, Bool.false_eq_true, if_true, if_false])))
local macro_rules|`(tactic| walk_at "v") => `(tactic| (intro _ _ _ _ h;first|(cases h;(have q := ‹_ = _ /\ _›);rw [q.1];rfl)|((repeat (obtain ⟨_, h⟩ := h));subst_vars;rfl)))
local macro_rules|`(tactic| walk_at "s") => `(tactic| simp only [L2.start, List.map_cons, List.map_nil, List.length_cons, List.length_nil, Nat.reduceAdd, Nat.reduceSub, List.replicate_succ, List.replicate_zero, List.cons_append, List.nil_append])
set_option genSizeOf false in
set_option genInjectivity false in
structure Txt(K:PySem.W.Frag)(mg:Str->Option Value) where
 TollError:Addr
 Hr:mg "TollError"=some (.ref TollError)
 BadWeb:Addr
 Pw:mg "BadWeb"=some (.ref BadWeb)
 NoPlace:Addr
 Dy:mg "NoPlace"=some (.ref NoPlace)
 NoRoad:Addr
 Fx:mg "NoRoad"=some (.ref NoRoad)
 BadLaying:Addr
 zf:mg "BadLaying"=some (.ref BadLaying)
 BadWish:Addr
 DN:mg "BadWish"=some (.ref BadWish)
 TooMany:Addr
 DP:mg "TooMany"=some (.ref TooMany)
 NoNumber:Addr
 wg:mg "NoNumber"=some (.ref NoNumber)
 NoWorst:Addr
 Lf:mg "NoWorst"=some (.ref NoWorst)
 NoDeed:Addr
 OL:mg "NoDeed"=some (.ref NoDeed)
 BadStep:Addr
 Mq:mg "BadStep"=some (.ref BadStep)
 BadText:Addr
 MS:mg "BadText"=some (.ref BadText)
 Web:Addr
 VC:mg "Web"=some (.ref Web)
 Tally:Addr
 Dd:mg "Tally"=some (.ref Tally)
 uG:acT K TollError
 Ad:Ο K TollError BadWeb
 ug:Ο K TollError NoPlace
 xE:pM K NoPlace
 zq:Ο K TollError NoRoad
 Aa:pM K NoRoad
 qT:Ο K TollError BadLaying
 uJ:pM K BadLaying
 uc:Ο K TollError BadWish
 wQ:pM K BadWish
 tV:Ο K TollError TooMany
 xJ:pM K TooMany
 sH:Ο K TollError NoNumber
 ss:pM K NoNumber
 xA:Ο K TollError NoWorst
 An:Ο K TollError NoDeed
 xi:Ο K TollError BadStep
 xM:Ο K TollError BadText
 Λ:[TollError,BadWeb,NoPlace,NoRoad,BadLaying,BadWish,TooMany,NoNumber,NoWorst,NoDeed,BadStep,BadText].Nodup
 range:mg "range"=none
 zip:mg "zip"=none
 len:mg "len"=none
 isinstance:mg "isinstance"=none
 all:mg "all"=none
 int:mg "int"=none
 tuple:mg "tuple"=none
 list:mg "list"=none
 reversed:mg "reversed"=none
 sorted:mg "sorted"=none
 min:mg "min"=none
 max:mg "max"=none
 enumerate:mg "enumerate"=none
 sum:mg "sum"=none
 str:mg "str"=none
 set:mg "set"=none
 ValueError:mg "ValueError"=none
 XR:∃t,mg "MOST_PLACES"=some (.int 24 t)
 Yi:∃t,mg "LEAST_TOLL"=some (.int 2 t)
 YQ:∃t,mg "MOST_TOLL"=some (.int 1000000 t)
 XB:∃t,mg "MOST_PEBBLES"=some (.int 1000000000000 t)
 kQ:Cls K Web
 ϒ:Ν K Web "many"
 Yj:Ν K Web "roads"
 cQ:Cls K Tally
 As:Ν K Tally "web"
 vo:Ν K Tally "down"
 X4:Ν K Tally "weights"
 ul:Ν K Tally "bearers"
 rC:Ν K Tally "kids"
 ϫ:Ν K Tally "rests"
section
variable{P:Program}{w:World}{K:PySem.W.Frag}{mg:Str->Option Value}{base:Heap}{CX:nE}
def ub(T:Txt K mg):Sp:=λvs H Q _=>E3 λ(m:Int)(t:Addr)(xs:List V)=>vs=[.int m,.ref t]/\Η K H t xs/\1<=m/\m<=24/\(xs.length:Int)=m-1/\Q .ο H
abbrev lW:Stmt:=top 22
theorem AE:ζ ["many","roads"] ["many","roads"] (aJ lW):=.of
theorem mf:ϗ (aJ lW) "MOST_PLACES":=.of (by kernel_rfl)
theorem BS(T:Txt K mg)(hq:bU (ψ P w)):Ok P w K mg base "check_counts" lW ["many","roads"] 1 (ub T):=λ_ _ D=>by
 refine D.F.ϔ AE (by walk_at "v") λς A outer s H vs Q E hr h=>?_;obtain⟨m,t,xs,rfl,ht,h1,h2,hl,k⟩:=h;refine⟨_,(ao (dz (mL (zY we we az (γ 0) (wq mf.g T.XR (hd:=mf.d)))) (aL qo) ce) (aL (dz (ό sG (dO gO T.len (aa (γ 1) ay)) (aX fH (γ 0) az)) (aL qo) ce))),?_⟩;walk_at "s";walk_at "";rw[aj h1,ag (by lia)];exact⟨xs,.inr ht,by rw[ag (by lia)];exact k⟩
def uB(T:Txt K mg):Sp:=λvs H Q _=>∃m n:Int,vs=[.int m,.int n]/\Q (.bl (decide (0<=n)&&decide (n<m))) H
abbrev qa:Stmt:=top 21
theorem HU:ζ ["many","number"] ["many","number"] (aJ qa):=.of
theorem HH(T:Txt K mg)(hq:bU (ψ P w)):Ok P w K mg base "is_place" qa ["many","number"] 1 (uB T):=λ_ _ D=>by
 refine D.F.ϔ HU (by walk_at "v") λς A outer s H vs Q E hr h=>?_;obtain⟨m,n,rfl,k⟩:=h;refine⟨_,(aL (bG (Qq we pJ az (γ 1) (γ 0)))),?_⟩;walk_at "s";walk_at "";by_cases c:0<=n
 .simpa[c]using k
 .simpa[c]using k
def wK(T:Txt K mg):Sp:=λvs H Q _=>E3 λ(m:Int)(p:Addr)(r:Road)=>vs=[.int m,.ref p]/\H p=some (.tup (pT r))/\0<=r.a/\r.a<m/\0<=r.b/\r.b<m/\r.a≠r.b/\Q .ο H
abbrev pI:Stmt:=top 23
theorem Eh:ζ ["many","road"] ["many","road"] (aJ pI):=.of
theorem DX(T:Txt K mg)(hq:bU (ψ P w))(mC:Cb P w K mg base "is_place" qa ["many","number"] 1 (uB T)):Ok P w K mg base "check_ends" pI ["many","road"] 2 (wK T):=λ_ _ D=>by
 refine D.F.ϔ Eh (by walk_at "v") λς A outer s H vs Q E hr h=>?_;obtain⟨m,p,r,rfl,hp,a0,a1,b0,b1,ne,k⟩:=h;refine⟨_,(ao (dz (PW.pt (Bd (mL (nB (Θ mC hr hq (aa (γ 0) (aa (Δ g9 (γ 1) az) ay))))) (xa (mL (nB (Θ mC hr hq (aa (γ 0) (aa (Δ g9 (γ 1) az) ay)))))))) (aL qo) ce) (aL (dz (ό gc (Δ g9 (γ 1) az) (Δ g9 (γ 1) az)) (aL qo) ce))),?_⟩;walk_at "s";walk_at "";refine XI hp rfl ⟨m,r.a,rfl,_,rfl,?_⟩;rw[ag (by simp[a0,a1])];refine XI hp rfl ⟨m,r.b,rfl,_,rfl,?_⟩;rw[ag (by simp[b0,b1])];refine XI hp rfl (XI hp rfl ⟨rfl,?_⟩);rw[ag (by simpa using ne)];exact k
def rT(T:Txt K mg):Sp:=λvs H Q _=>E4 λ(t:Addr)(ps:List Addr)(rs:List Road)(n:Int)=>vs=[.ref t,.int n]/\Η K H t (ps.map V.ref)/\π H ps rs/\rs.length<=1000/\∀l H',H l=none->δ H H'->H' l=some (.lst ((f6 rs n).map V.int))->Q (.ref l) H'
abbrev nF:Stmt:=top 26
theorem D2:ζ ["roads","place","ends","road"] ["roads","place"] (aJ nF):=.of
theorem DV(T:Txt K mg)(hq:bU (ψ P w)):Ok P w K mg base "other_ends" nF ["roads","place"] 1 (rT T):=λ_ _ D=>by
 refine D.F.ϔ D2 (by walk_at "v") λς A outer s H vs Q E hr h=>?_;obtain⟨t,ps,rs,n,rfl,ht,hp,hl,k⟩:=h;refine⟨_,(ao (ρ 2 (eC ay)) (ao (eZ PassesOwn.never rfl (xC (γ 0)) (Φ 3) (ao (dz (ό gc (Δ g9 (γ 3) az) (γ 1)) (aL (dH (jI PySem.F.plainAttrs_list PySem.F.slot_list_append PySem.F.type_list_append fY (γ 2) (aa (Δ g9 (γ 3) az) ay)))) ce) (aL (dz (ό gc (Δ g9 (γ 3) az) (γ 1)) (aL (dH (jI PySem.F.plainAttrs_list PySem.F.slot_list_append PySem.F.type_list_append fY (γ 2) (aa (Δ g9 (γ 3) az) ay)))) ce)))) (aL (bG (γ 2))))),?_⟩;walk_at "s";walk_at "";refine⟨by decide,λl hn=>?_⟩;have hlen:ps.length=rs.length:=Paired.length hp;refine⟨⟨_,δ.tup (δ.new _ hn) ht⟩,Cn (xs:=ps.map V.ref) (λi σ H2=>H2=upd H l (.lst ((f6 (rs.take i) n).map V.int))/\∃v,σ=[some (.ref t),some (.int n),some (.ref l),v]) ⟨rfl,_,rfl⟩ (λi σ H2 _ z=>by rw[z.1];exact δ.tup (δ.new _ hn) ht) ?_ ?_⟩
 .rintro i x σ H2 hi ⟨rfl,v,rfl⟩;obtain⟨p,r,rfl,h1,h2,h3⟩:=hp.get hi;have np:p≠l:=bQ h3 hn;have Za:i<rs.length:=(aq.mp h2).1;have et:rs.take (i+1)=rs.take i++[r]:=by rw[bL,h2];rfl
  have hb:(f6 (rs.take i) n).length<=2000:=aU (FB _ _) (by rw[bd];lia);have hx:∀o,upd H l o p=some (.tup (pT r)):=λo=>by rw[aO np];exact h3
  walk_at "";refine XI (hx _) rfl ?_;walk_at "";have fin:∀(ys:List Int),(f6 (rs.take i) n++ys)=f6 (rs.take (i+1)) n->upd H l (.lst ((f6 (rs.take i) n).map V.int++ys.map V.int))=upd H l (.lst ((f6 (rs.take (i+1)) n).map V.int)):=λys e=>by
   rw[<-aD,e]
  have e1:ua n r=(if r.a=n then[r.b]else[])++(if r.b=n then[r.a]else[]):=rfl;by_cases ca:r.a=n
  .rw[aj ca];refine⟨oK ax,XI (hx _) rfl (rP ax (ff (by rw[ah];lia)) ?_)⟩;rw[sI];refine XI (hx _) rfl ?_;walk_at "";by_cases cb:r.b=n
   .rw[aj cb];refine⟨oK ax,XI (hx _) rfl (rP ax (ff (by rw[aP,ah];simp;lia)) ?_)⟩;rw[sI,cU];exact⟨fin [r.b,r.a] (by rw[et,ue,e1,aj ca,aj cb];rfl),_,rfl⟩
   .rw[ag cb];exact⟨fin [r.b] (by rw[et,ue,e1,aj ca,ag cb];rfl),_,rfl⟩
  .rw[ag ca];refine XI (hx _) rfl ?_;walk_at "";by_cases cb:r.b=n
   .rw[aj cb];refine⟨oK ax,XI (hx _) rfl (rP ax (ff (by rw[ah];lia)) ?_)⟩;rw[sI];exact⟨fin [r.a] (by rw[et,ue,e1,ag ca,aj cb];rfl),_,rfl⟩
   .rw[ag cb];have:=fin [] (by rw[et,ue,e1,ag ca,ag cb];rfl);rw[d8,bX]at this;exact⟨this,_,rfl⟩
 .rintro σ H2 ⟨rfl,v,rfl⟩;rw[ah,hlen,bp];exact⟨_,rfl,k l _ hn (δ.new _ hn) ax⟩
def nY(ks:List Int):List (Key×V):=ks.map λk=>((Sum.inl k:Key),V.bl true)
theorem Dg(ks:List Int):(nY ks).length=ks.length:=by unfold nY;rw[ah]
theorem EX(ks:List Int)(e:Int):f8 (nY ks) (Sum.inl e:Key)=if e∈ks then some (V.bl true)else none:=by
 unfold nY
 induction ks with
 | nil=>rfl
 | cons k ks ih=>
   rw[aH];by_cases c:k=e
   .rw[i9 (by rw[c]),aj (by rw[c];exact aK)]
   .rw[iX (λz=>c (Sum.inl.inj z)),ih];by_cases d:e∈ks
    .rw[aj d,aj (aI _ d)]
    .rw[ag d,ag (λz=>by rcases ar.mp z with z|z;exact c z.symm;exact d z)]
theorem PB{ks:List Int}{e:Int}(h:e∉ks):ig (nY ks) (Sum.inl e:Key) (V.bl true)=nY (ks++[e]):=by
 rw[EZ _ (by rw[EX,ag h])];unfold nY;rw[aD]
 rfl
def uj(T:Txt K mg):Sp:=λvs H Q _=>E4 λ(m:Int)(t:Addr)(ps:List Addr)(rs:List Road)=>vs=[.int m,.ref t]/\Η K H t (ps.map V.ref)/\π H ps rs/\Good m rs/\∀H',δ H H'->Q .ο H'
abbrev oh:Stmt:=top 25
theorem B0:ζ ["many","roads","reached","waiting","place","end"] ["many","roads"] (aJ oh):=.of
theorem BO(T:Txt K mg)(hq:bU (ψ P w))(lR:Cb P w K mg base "other_ends" nF ["roads","place"] 1 (rT T)):Ok P w K mg base "check_joined" oh ["many","roads"] 2 (uj T):=λ_ _ D=>by
 refine D.F.ϔ B0 (by walk_at "v") λς A outer s H vs Q E hr h=>?_;obtain⟨m,t,ps,rs,rfl,ht,hp,g,k⟩:=h;have hu:=oS hr;refine⟨_,(ao (ρ 2 (Il (EI az vO IL) rfl rfl (List.cons_ne_nil _ _) (by decide))) (ao (ρ 3 (eC (aa az ay))) (ao (qK PassesOwn.never (qm (γ 3) (λ_=>rfl)) (ao (ρ 4 (GO PySem.F.plainAttrs_list PySem.F.slot_list_pop PySem.F.type_list_pop FJ (γ 3))) (aL (eZ PassesOwn.never rfl (hG (Θ lR hr hq (aa (γ 1) (aa (γ 4) ay)))) (Φ 5) (aL (dz (Gd (Lh hu (γ 5) (γ 2))) (ao (xU hu (γ 2) (γ 5) vO rfl) (aL (dH (jI PySem.F.plainAttrs_list PySem.F.slot_list_append PySem.F.type_list_append fY (γ 3) (aa (γ 5) ay))))) ce)))))) (aL (dz (ό sG (dO LM T.len (aa (γ 2) ay)) (γ 0)) (aL qo) ce))))),?_⟩;walk_at "s";have m1:=g.m1;have Ζ:=g.Ζ;have abx:=g.len;walk_at "";intro d hd;refine⟨ax,[(Sum.inl 0,.bl true)],rfl,by decide,?_⟩;rw[sI];refine⟨by decide,λw0 hw=>?_⟩;have ed:jU [] [((Sum.inl 0:Key),V.bl true)]=nY [0]:=rfl;rw[ed];have ndw:w0≠d:=λz=>by rw[z,ax]at hw;cases hw
 have hw0:H w0=none:=by rw[aO ndw]at hw;exact hw
 refine vg (λn σ H2=>E4 λ(ks ws:List Int)(v4 v5:Option V)=>n=2*(m.toNat-ks.length)+ws.length/\σ=[some (.int m),some (.ref t),some (.ref d),some (.ref w0),v4,v5]/\δ H H2/\H2 d=some (.dK (nY ks))/\H2 w0=some (.lst (ws.map V.int))/\YH m rs ks ws) _ ⟨[0],[0],none,none,rfl,rfl,?_,?_,ax,YH.start m1⟩ ?_
 .exact δ.trans (δ.new _ hd) (δ.new _ hw)
 .rw[aO ndw.symm,ax]
 rintro n σ H2 NW hN Ys ⟨ks,ws,v4,v5,rfl,rfl,sm,h1,h2,J⟩;have kl:=gx (by lia) J.nd J.Μ;refine⟨_,rfl,!(ws.map V.int).isEmpty,.inl ⟨_,μ.of h2,rfl⟩,?_⟩;rcases jE ws with rfl|⟨ws',p,rfl⟩
 .-- nothing aeQ: all places have apw reached
  have full:=J.all m1 g.jn;refine Ud ?_;walk_at "";refine⟨nY ks,h1,?_⟩;rw[Dg,ag (by lia)];exact k _ sm
 .rw[jA]at J h2 hN Ys ⊢;have e1:(!(List.map V.int (ws'++[p])).isEmpty)=true:=by simp
  rw[e1];refine RY ⟨NW,Ys,?_⟩;walk_at "";rw[aD,aH,d8]at h2;refine⟨oK h2,Nv h2 ?_⟩;have acZ:d≠w0:=ndw.symm;have sm2:δ H (upd H2 w0 (.lst (ws'.map V.int))):=λb o e=>by rw[aO (bQ e hw0)];exact sm b o e
  refine⟨t,ps,rs,p,rfl,δ.tup sm2 ht,π.same sm2 hp,by lia,λl H3 hn s3 hl=>?_⟩;have nlw:w0≠l:=bQ (o:=.lst (ws'.map V.int)) ax hn;have nld:d≠l:=bQ (o:=.dK (nY ks)) (by rw[aO acZ];exact h1) hn;have hl0:H l=none:=sm2.free hn;refine⟨l,rfl,⟨_,μ.of hl⟩,uh (K:=K) (xs:=(f6 rs p).map V.int) (λi σ H4=>∃(v5:Option V),σ=[some (.int m),some (.ref t),some (.ref d),some (.ref w0),some (.int p),v5]/\δ H H4/\H4 l=some (.lst ((f6 rs p).map V.int))/\∃ks4 ws4:List Int,H4 d=some (.dK (nY ks4))/\H4 w0=some (.lst (ws4.map V.int))/\Yd m rs p ((f6 rs p).take i) ks4 ws4 ks ws'.length) ?_ (λi σ H4 _ z=>by obtain⟨_,_,_,z,_⟩:=z;exact μ.of z) ?_ ?_⟩
  .refine⟨_,rfl,sm2.trans s3,hl,ks,ws',?_,?_,?_⟩
   .exact s3 _ _ (by rw[aO acZ];exact h1)
   .exact s3 _ _ ax
   .rw[d6];exact Yd.start J
  .rintro i x σ H4 NI hI hi ⟨v5,rfl,s4,hl4,ks4,ws4,hd4,hw4,M⟩;rw[aF]at hi;obtain⟨e,he,rfl⟩:∃e,(f6 rs p)[i]?=some e/\V.int e=x:=by
    cases q:(f6 rs p)[i]? with
    | none=>rw[q]at hi;cases hi
    | some e=>rw[q]at hi;exact⟨e,rfl,bq hi⟩
   have er:=P9 g.ok (aM he);have et:(f6 rs p).take (i+1)=(f6 rs p).take i++[e]:=(by rw[bL,he];rfl);have st:=M.step er.1 er.2;have k4:=gx (by lia) M.nd M.Μ;have mu4:=M.mu;walk_at "";refine⟨_,ϙ.k (k:=Sum.inl e) hd4,?_⟩;rw[EX];by_cases c:e∈ks4
   .rw[aj c];rw[ag (by simp)];refine hI _ _ ⟨_,rfl,s4,hl4,ks4,ws4,hd4,hw4,?_⟩;rw[et];unfold Bg at st;rw[aj c]at st;exact st
   .rw[ag c];rw[aj (by simp)];refine⟨_,XN.k (k:=Sum.inl e) hd4 (ff (by rw[Dg];lia)),?_⟩;rw[PB c];have hw5:upd H4 d (.dK (nY (ks4++[e]))) w0=some (.lst (ws4.map V.int)):=(by rw[aO ndw];exact hw4);refine⟨oK hw5,rP hw5 (ff (by rw[ah];have:=M.wl;lia)) ?_⟩;have apA:=M.mu;refine hI _ _ ⟨_,rfl,λb o z=>?_,?_,ks4++[e],ws4++[e],?_,?_,?_⟩
    .rw[aO (bQ z hw0),aO (bQ z hd)];exact s4 b o z
    .rw[aO nlw.symm,aO nld.symm];exact hl4
    .rw[aO acZ,ax]
    .rw[ax,aD];rfl
    .rw[et];unfold Bg at st;rw[ag c]at st;exact st
  .rintro σ H4 ⟨v5,rfl,s4,hl4,ks4,ws4,hd4,hw4,M⟩;rw[ah,bp]at M;have k4:=gx (by lia) M.nd M.Μ;have mu4:=M.mu;have up4:=M.up;refine hN _ _ _ ?_ ⟨ks4,ws4,some (.int p),v5,rfl,rfl,s4,hd4,hw4,M.done⟩;rw[aP];simp only[aE,eD]
   lia
def vG(T:Txt K mg):Sp:=λvs H Q _=>∃(p:Addr)(r:Road),vs=[.ref p]/\H p=some (.tup (pT r))/\2<=r.t/\r.t<=1000000/\2<=r.u/\r.u<=1000000/\∀H',δ H H'->Q .ο H'
abbrev kO:Stmt:=top 24
theorem CS:ζ ["road","number"] ["road"] (aJ kO):=.of
theorem m7:ϗ (aJ kO) "LEAST_TOLL":=.of (by kernel_rfl)
theorem nh:ϗ (aJ kO) "MOST_TOLL":=.of (by kernel_rfl)
theorem B8(T:Txt K mg)(hq:bU (ψ P w)):Ok P w K mg base "check_tolls" kO ["road"] 1 (vG T):=λ_ _ D=>by
 refine D.F.ϔ CS (by walk_at "v") λς A outer s H vs Q E hr h=>?_;obtain⟨p,r,rfl,hp,t0,t1,u0,u1,k⟩:=h;refine⟨_,(aL (eZ PassesOwn.never rfl (xC (gS (aa (Δ g9 (γ 0) az) (aa (Δ g9 (γ 0) az) ay)))) (Φ 1) (aL (dz (mL (zY we we (wq m7.g T.Yi (hd:=m7.d)) (γ 1) (wq nh.g T.YQ (hd:=nh.d)))) (aL qo) ce)))),?_⟩;walk_at "s";walk_at "";refine XI hp rfl (XI hp rfl ⟨bN (by simp),λq hn=>?_⟩);have e1:upd H q (.tup [.int r.t,.int r.u]) q=some (.tup [.int r.t,.int r.u]):=ax;refine⟨⟨_,Η.of e1⟩,Cn (K:=K) (xs:=[.int r.t,.int r.u]) (λi σ H2=>H2=upd H q (.tup [.int r.t,.int r.u])/\∃v,σ=[some (.ref p),v]) ⟨rfl,_,rfl⟩ (λi σ H2 _ z=>by rw[z.1];exact Η.of e1) ?_ ?_⟩
 .rintro i x σ H2 hi ⟨rfl,v,rfl⟩;have hx:∃n:Int,x=.int n/\2<=n/\n<=1000000:=by
   match i,hi with
   | 0,hi=>exact⟨r.t,by simpa using hi.symm,t0,t1⟩
   | 1,hi=>exact⟨r.u,by simpa using hi.symm,u0,u1⟩
  obtain⟨n,rfl,n0,n1⟩:=hx;walk_at "";rw[aj n0,ag (by lia)];exact⟨_,rfl⟩
 .rintro σ H2 ⟨rfl,v,rfl⟩;exact k _ (δ.new _ hn)
def Bj(m:Int)(t:Addr):List (Str×V):=bx "roads" (.ref t) (bx "many" (.int m) [])
theorem VN:¬(("many":Str)="roads"):=by decide +kernel
theorem j7(m:Int)(t:Addr):(Bj m t).lookup ("many":Str)=some (.int m):=by
 unfold Bj;rw[cJ,ag VN,cJ,aj rfl]
theorem yO(m:Int)(t:Addr):(Bj m t).lookup ("roads":Str)=some (.ref t):=by
 unfold Bj;rw[cJ,aj rfl]
structure ν(C:Addr)(H:Hp)(p:Addr)(m:Int)(t:Addr)(ps:List Addr)(rs:List Road):Prop where
 ob:∃dx,H p=some (.ins C dx (Bj m t))
 tu:H t=some (.tup (ps.map V.ref))
 ro:π H ps rs
 go:Good m rs
theorem ν.same{C:Addr}{H H':Hp}{p:Addr}{m:Int}{t:Addr}{ps:List Addr}{rs:List Road}(e:δ H H')(h:ν C H p m t ps rs):ν C H' p m t ps rs:=⟨let ⟨dx,q⟩:=h.ob;⟨dx,e _ _ q⟩,e _ _ h.tu,π.same e h.ro,h.go⟩
def pS(T:Txt K mg):Sp:=λvs H Q _=>E7 λ(p dx:Addr)(m:Int)(c:Bool)(a:Addr)(ps:List Addr)(rs:List Road)=>vs=[.ref p,.int m,.ref a]/\H p=some (.ins T.Web dx [])/\ϧ K c H a (ps.map V.ref)/\π H ps rs/\Good m rs/\∀t H',H t=none->ν T.Web H' p m t ps rs->(∀b o,H b=some o->b≠p->H' b=some o)->Q .ο H'
abbrev iY:Stmt:=Jp (top 17) 0
theorem BK:ζ ["self","many","roads","kept","road"] ["self","many","roads"] (aJ iY):=.of
theorem Ba(T:Txt K mg)(hq:bU (ψ P w)){f:Addr}{fd:FuncData}(F:Y8 K "__init__" "Web.__init__" iY f fd)(qv:Cb P w K mg base "check_counts" lW ["many","roads"] 1 (ub T))(tK:Cb P w K mg base "check_ends" pI ["many","road"] 2 (wK T))(qk:Cb P w K mg base "check_joined" oh ["many","roads"] 2 (uj T))(rF:Cb P w K mg base "check_tolls" kO ["road"] 1 (vG T)):Ω P w K mg base (ψ P w) 3 f fd ["self","many","roads"] (pS T):=by
 refine F.ϔ BK (by walk_at "v") λς A outer s H vs Q E hr h=>?_;obtain⟨p,dx,m,c,a,ps,rs,rfl,hp,ha,hro,g,k⟩:=h;refine⟨_,(ao (ρ 3 (pct oP T.tuple (aa (kN rfl (zX (Nc:=["road"]) 1 (by decide +kernel) (by decide +kernel) rfl (by decide +kernel) rfl) (MY c (γ 2)) (λ_ _ _ _=>(fN (i:=0) (show(["road"]:List Str).Nodup from by decide +kernel) rfl (Or.inl rfl))) (λ_ _ _ _=>mS) (λ_ _ _ _=>(DB (CD K rfl) (by rfl) T.tuple N7 (aa (pv 0) ay)))) ay))) (ao (dH (Θ qv hr hq (aa (γ 1) (aa (γ 3) ay)))) (ao (eZ PassesOwn.never rfl (xC (γ 3)) (Φ 4) (ao (dH (Θ tK hr hq (aa (γ 1) (aa (γ 4) ay)))) (aL (dH (Θ rF hr hq (aa (γ 4) ay)))))) (ao (dH (Θ qk hr hq (aa (γ 1) (aa (γ 3) ay)))) (ao (rg (γ 0) (γ 1) rfl) (aL (rg (γ 0) (γ 3) rfl))))))),?_⟩;walk_at "s";walk_at "";refine⟨⟨_,ha⟩,λl hl=>?_⟩;have hlen:ps.length=rs.length:=Paired.length hro;have abx:=g.len;have Ζ:=g.Ζ;have hl1:δ H (upd H l (.lst [])):=δ.new _ hl;refine oZ (K:=K) (xs:=ps.map V.ref) (λi ys σ H2=>H2=upd H l (.lst ((ps.take i).map V.ref))/\ys=(ps.take i).map V.ref/\∃v,σ=[v]) ⟨rfl,rfl,_,rfl⟩ (λi ys σ H2 _ ⟨z,_⟩=>by rw[z];exact δ.X1 (δ.new _ hl) ha) ?_ ?_
 .rintro i x ys σ H2 N hN hi ⟨rfl,rfl,v,rfl⟩;obtain⟨q,r,rfl,h1,h2,h3⟩:=hro.get hi;have nq:q≠l:=bQ h3 hl;have Za:i<ps.length:=(aq.mp h1).1;have et:ps.take (i+1)=ps.take i++[q]:=by rw[bL,h1];rfl
  walk_at "";refine⟨pT r,.inr ⟨Η.of (by rw[aO nq];exact h3),ax,ff (by rw[ah,bd];lia),hN _ _ _ ⟨?_,?_,_,rfl⟩⟩⟩
  .rw[sI,et,aD];rfl
  .rw[et,aD];rfl
 .rintro ys σ H2 ⟨rfl,rfl,v,rfl⟩;rw[ah,bp];refine⟨l,rfl,ps.map V.ref,.inl ⟨μ.of ax,λt ht=>?_⟩⟩;have s1:δ H (upd H l (.lst (ps.map V.ref))):=δ.new _ hl;have s2:δ (upd H l (.lst (ps.map V.ref))) (upd (upd H l (.lst (ps.map V.ref))) t (.tup (ps.map V.ref))):=δ.new _ ht;have ht0:H t=none:=s1.free ht;have ht1:∀{H':Hp},δ (upd (upd H l (.lst (ps.map V.ref))) t (.tup (ps.map V.ref))) H'->H' t=some (.tup (ps.map V.ref)):=λe=>e _ _ ax;refine⟨m,t,ps.map V.ref,rfl,Η.of ax,g.m1,g.Ζ,by rw[ah];lia,⟨_,Η.of ax⟩,?_⟩;refine GC (K:=K) (xs:=ps.map V.ref) (λi σ H3=>δ (upd (upd H l (.lst (ps.map V.ref))) t (.tup (ps.map V.ref))) H3/\∃v,σ=[some (.ref p),some (.int m),some (.ref a),some (.ref t),v]) ⟨δ.refl _,_,rfl⟩ (λi σ H3 _ ⟨z,_⟩=>Η.of (ht1 z)) ?_ ?_
  .rintro i x σ H3 N hN hi ⟨s3,v,rfl⟩;have s03:=s1.trans (s2.trans s3);obtain⟨q,r,rfl,h1,h2,h3⟩:=hro.get hi;have ok:=g.ok r (aM h2);walk_at "";refine⟨m,q,r,rfl,s03 _ _ h3,ok.a0,ok.a1,ok.b0,ok.b1,ok.ne,?_⟩;exact⟨q,r,rfl,s03 _ _ h3,ok.t0,ok.t1,ok.u0,ok.u1,λH4 s4=>hN _ _ ⟨s3.trans s4,_,rfl⟩⟩
  .rintro σ H3 ⟨s3,v,rfl⟩;have s03:=s1.trans (s2.trans s3);walk_at "";refine⟨m,t,ps,rs,rfl,Η.of (ht1 s3),π.same s03 hro,g,λH4 s4=>?_⟩;have s04:=s03.trans s4;have ntp:t≠p:=λz=>by rw[z,hp]at ht0;cases ht0
   refine⟨T.Web,dx,[],s04 _ _ hp,T.kQ,T.ϒ,by decide,?_⟩;refine⟨T.Web,dx,_,ax,T.kQ,T.Yj,by show 1<1000;decide,?_⟩;rw[sI];refine k t _ ht0 ⟨⟨dx,ax⟩,?_,?_,g⟩ λb o hb nb=>?_
   .rw[aO ntp];exact ht1 (s3.trans s4)
   .refine Paired.imp' (λq r hq=>?_) hro;rw[aO (hW hq hp (by intro z;cases z))];exact s04 _ _ hq
   .rw[aO nb];exact s04 _ _ hb
theorem UH(T:Txt K mg){H:Hp}{m:Int}{c:Bool}{a:Addr}{ps:List Addr}{rs:List Road}{Q:Addr->Hp->Prop}(ha:ϧ K c H a (ps.map V.ref))(ro:π H ps rs)(g:Good m rs)(k:∀x t H',H x=none->H t=none->δ H H'->ν T.Web H' x m t ps rs->Q x H'):∀x dx,H x=none->H dx=none->dx≠x->pS T [.ref x,.int m,.ref a] (upd (upd H dx (.own x)) x (.ins T.Web dx [])) (λv H2=>v=.ο/\Q x H2) E0:=by
 intro x dx hx hdx ne;have hx1:upd H dx (.own x) x=none:=by rw[aO ne.symm];exact hx
 have s0:δ H (upd (upd H dx (.own x)) x (.ins T.Web dx [])):=(δ.new _ hdx).trans (δ.new _ hx1);exact⟨x,dx,m,c,a,ps,rs,rfl,ax,δ.X1 s0 ha,π.same s0 ro,g,λt H' ht W kp=>⟨rfl,k x t H' hx (s0.free ht) (λb o e=>kp b o (s0 b o e) (bQ e hx)) W⟩⟩
def QL(H:Hp)(d:Addr)(rs:List Road)(n:Nat):Prop:=∃η,H d=some (.dT η)/\(η.length<=2*n/\∀p∈η,∃a b:Int,p.1=[.inl a,.inl b])/\∀a b:Int,(∀i x,i<n->rs[i]?=some x->sF x a b->f8 η [.inl a,.inl b]=(jk a b x).map V.int)/\((∀i x,i<n->rs[i]?=some x->¬sF x a b)->f8 η [.inl a,.inl b]=none)
structure ϋ(H:Hp)(d:Addr)(rs:List Road):Prop where
 ex:∃η,H d=some (.dT η)/\∀a b:Int,f8 η [.inl a,.inl b]=(cX rs a b).map V.int
 ks:∃η,H d=some (.dT η)/\η.length<=2*rs.length/\∀p∈η,∃a b:Int,p.1=[.inl a,.inl b]
theorem ϋ.same{H H':Hp}{d:Addr}{rs:List Road}(e:δ H H')(h:ϋ H d rs):ϋ H' d rs:=by
 obtain⟨η,h1,h2⟩:=h.ex;obtain⟨kws,h3,h4⟩:=h.ks;exact⟨⟨η,e _ _ h1,h2⟩,⟨kws,e _ _ h3,h4⟩⟩
def wZ(T:Txt K mg):Sp:=λvs H Q _=>E4 λ(l:Addr)(ps:List Addr)(m:Int)(rs:List Road)=>vs=[.ref l]/\H l=some (.lst (ps.map V.ref))/\π H ps rs/\Good m rs/\∀d H',H d=none->δ H H'->ϋ H' d rs->Q (.ref d) H'
abbrev qU:Stmt:=top 81
theorem EY:ζ ["roads","tolls","one","other","there","back"] ["roads"] (aJ qU):=.of
theorem FR(T:Txt K mg)(hq:bU (ψ P w)):Ok P w K mg base "_law_tolls" qU ["roads"] 1 (wZ T):=λ_ _ D=>by
 refine D.F.ϔ EY (by walk_at "v") λς A outer s H vs Q E hr h=>?_;obtain⟨l,ps,m,rs,rfl,hl,ro,g,k⟩:=h;have hu:=oS hr;refine⟨_,(ao (ρ 1 Ny) (ao (eZ PassesOwn.never rfl (hG (γ 0)) (jo (n:=4) rfl (bW (Φ 2) (bW (Φ 3) (bW (Φ 4) (bW (Φ 5) gK))))) (ao (xU hu (γ 1) (gS (aa (γ 2) (aa (γ 3) ay))) (γ 4) rfl) (aL (xU hu (γ 1) (gS (aa (γ 3) (aa (γ 2) ay))) (γ 5) rfl)))) (aL (bG (γ 1))))),?_⟩;walk_at "s";walk_at "";intro d hd;have s0:=δ.new (.dT []) hd;have hlen:ps.length=rs.length:=Paired.length ro;have abx:=g.len;have Ζ:=g.Ζ;refine⟨⟨_,μ.of (s0 _ _ hl)⟩,?_⟩;refine uh (K:=K) (xs:=ps.map V.ref) (λi σ H2=>δ H H2/\QL H2 d rs i/\∃v1 v2 v3 v4,σ=[some (V.ref l),some (V.ref d),v1,v2,v3,v4]) ⟨s0,⟨[],ax,⟨by simp,λp hp=>nomatch hp⟩,λa b=>⟨λi x hi=>absurd hi (Nat.not_lt_zero _),λ_=>rfl⟩⟩,_,_,_,_,rfl⟩ (λi σ H2 _ z=>μ.of (z.1 _ _ hl)) ?_ ?_
 .rintro i x σ H2 N hN hx ⟨s2,⟨η,hk,⟨hkl,hks⟩,Yv⟩,v1,v2,v3,v4,rfl⟩;obtain⟨q,r,rfl,h1,h2,h3⟩:=ro.get hx;have Za:i<rs.length:=(aq.mp h2).1;have ok:=g.ok r (aM h2);walk_at "";refine⟨_,Η.of (s2 _ _ h3),rfl,_,_,rfl,_,_,rfl,_,_,rfl,_,_,rfl,rfl,?_⟩;refine⟨bN (by simp),λp1 n1=>⟨_,XN.t (k:=[.inl r.a,.inl r.b]) (δ.new (.tup [V.int r.a,V.int r.b]) n1 _ _ hk) ax (ff (by lia)),bN (by simp),λp2 n2=>?_⟩⟩;have l1:=oz η [Sum.inl r.a,Sum.inl r.b] (V.int r.t);have np2:d≠p2:=λz=>by rw[<-z,ax]at n2;cases n2
  refine⟨_,XN.t (k:=[.inl r.b,.inl r.a]) (by rw[aO np2];exact ax) ax (ff (by lia)),hN _ _ ⟨?_,⟨_,ax,?_,?_⟩,_,_,_,_,rfl⟩⟩
  .intro b o hb;have nd:b≠d:=bQ hb hd;have b2:=s2 _ _ hb;have nb1:b≠p1:=bQ b2 n1;have b3:upd (upd H2 p1 (.tup [V.int r.a,V.int r.b])) d (.dT (ig η [Sum.inl r.a,Sum.inl r.b] (V.int r.t))) b=some o:=(by rw[aO nd,aO nb1];exact b2);rw[aO nd,aO (bQ b3 n2)];exact b3
  .have l2:=oz (ig η [Sum.inl r.a,Sum.inl r.b] (V.int r.t)) [Sum.inl r.b,Sum.inl r.a] (V.int r.u);refine⟨by lia,λp hp=>?_⟩;rcases Fe hp with e|⟨q,hq,e⟩
   .exact⟨_,_,e⟩
   rcases Fe hq with e'|⟨q',Io,e'⟩
   .exact⟨_,_,e.trans e'⟩
   .obtain⟨a',b',e2⟩:=hks q' Io;exact⟨a',b',e.trans (e'.trans e2)⟩
  .intro a' b';have v2:f8 (ig (ig η [Sum.inl r.a,Sum.inl r.b] (V.int r.t)) [Sum.inl r.b,Sum.inl r.a] (V.int r.u)) [Sum.inl a',Sum.inl b']=if a'=r.b/\b'=r.a then some (V.int r.u)else if a'=r.a/\b'=r.b then some (V.int r.t)else f8 η [Sum.inl a',Sum.inl b']:=by
    rw[zS,zS];simp
   rw[v2];have away:¬sF r a' b'->(if a'=r.b/\b'=r.a then some (V.int r.u)else if a'=r.a/\b'=r.b then some (V.int r.t)else f8 η [Sum.inl a',Sum.inl b'])=f8 η [Sum.inl a',Sum.inl b']:=λz=>by
    rw[ag (λw=>z (.inr ⟨w.1.symm,w.2.symm⟩)),ag (λw=>z (.inl ⟨w.1.symm,w.2.symm⟩))]
   constructor
   .intro j x hj hy jx;by_cases e:j=i
    .subst e;rw[h2]at hy;cases hy;rcases jx with⟨w1,w2⟩|⟨w1,w2⟩
     .subst w1 w2;rw[ag (λz=>ok.ne z.1),aj ⟨rfl,rfl⟩,Nr ok.ne]
      rfl
     .subst w1 w2;rw[aj ⟨rfl,rfl⟩,NA ok.ne]
      rfl
    .rw[away λw=>e (De g hy h2 jx w)];exact(Yv a' b').1 j x (by lia) hy jx
   .intro z;rw[away (z i r (by lia) h2)];exact(Yv a' b').2 λj x hj hx=>z j x (by lia) hx
 .rintro σ H2 ⟨s2,⟨η,hk,⟨hkl,hks⟩,Yv⟩,v1,v2,v3,v4,rfl⟩;rw[ah,hlen]at Yv;walk_at "";refine k d H2 hd s2 ⟨⟨η,hk,λa b=>?_⟩,⟨η,hk,by rw[ah,hlen]at hkl;exact hkl,hks⟩⟩;by_cases z:∃(i:Nat)(x:Road),rs[i]?=some x/\sF x a b
  .obtain⟨i,x,hi,j⟩:=z;rw[(Yv a b).1 i x (aq.mp hi).1 hi j,xk g hi j]
  .rw[(Yv a b).2 λi x _ hi j=>z ⟨i,x,hi,j⟩,MZ]
   .rfl
   .rintro⟨x,hx,j⟩;obtain⟨i,hi⟩:=cL hx;exact z ⟨i,x,hi,j⟩
def lL(T:Txt K mg):Sp:=λvs H Q E=>E6 λ(p t:Addr)(m:Int)(ps:List Addr)(rs:List Road)(n:Int)=>vs=[.ref p,.int n]/\ν T.Web H p m t ps rs/\(0<=n->n<m->Q .ο H)/\(¬(0<=n/\n<m)->E (.ref T.NoPlace) none H)
abbrev iE:Stmt:=top 20
theorem CG:ζ ["web","number"] ["web","number"] (aJ iE):=.of
theorem oE:ϗ (aJ iE) "NoPlace":=.of (by kernel_rfl)
theorem CW(T:Txt K mg)(hq:bU (ψ P w))(mC:Cb P w K mg base "is_place" qa ["many","number"] 1 (uB T)):Ok P w K mg base "check_place" iE ["web","number"] 2 (lL T):=λ_ _ D=>by
 refine D.F.XQ CG (by walk_at "v") λς A outer s H vs Q E hr h=>?_;obtain⟨p,t,m,ps,rs,n,rfl,W,k,e⟩:=h;obtain⟨dx,ob⟩:=W.ob;refine⟨_,(aL (dz (mL (nB (ϖ mC hr dI (aa (dB (γ 0) rfl) (aa (γ 1) ay))))) (aL (oW T.xE rfl qI oE.g T.Dy (aa gR ay) (hdb:=oE.d))) ce)),?_⟩;walk_at "s";walk_at "";refine⟨T.Web,dx,_,ob,T.kQ,T.ϒ,_,j7 m t,m,n,rfl,_,rfl,?_⟩;by_cases c:0<=n/\n<m
 .rw[ag (by simp[c.1,c.2])];exact k c.1 c.2
 .rw[aj (by simpa[cj]using c)];exact⟨by decide,e c⟩
def wG(T:Txt K mg):Sp:=λvs H Q E=>E6 λ(p t:Addr)(m:Int)(ps:List Addr)(rs:List Road)(a:Int)=>vs=[.ref p,.int a]/\ν T.Web H p m t ps rs/\(∀l H',0<=a->a<m->H l=none->δ H H'->H' l=some (.lst ((lO m rs a).map V.int))->Q (.ref l) H')/\(¬(0<=a/\a<m)->E (.ref T.NoPlace) none H)
abbrev pQ:Stmt:=top 19
theorem DT:ζ ["web","a"] ["web","a"] (aJ pQ):=.of
theorem Em(T:Txt K mg)(hq:bU (ψ P w))(eX:Cb P w K mg base "check_place" iE ["web","number"] 2 (lL T))(lR:Cb P w K mg base "other_ends" nF ["roads","place"] 1 (rT T)):Ok P w K mg base "neighbours" pQ ["web","a"] 3 (wG T):=λ_ _ D=>by
 refine D.F.XQ DT (by walk_at "v") λς A outer s H vs Q E hr h=>?_;obtain⟨p,t,m,ps,rs,a,rfl,W,k,e⟩:=h;obtain⟨dx,ob⟩:=W.ob;refine⟨_,(ao (dH (ϖ eX hr dI (aa (γ 0) (aa (γ 1) ay)))) (aL (bG (dO Hx T.sorted (aa (ϖ lR hr dI (aa (dB (γ 0) rfl) (aa (γ 1) ay))) ay))))),?_⟩;walk_at "s";walk_at "";refine⟨p,t,m,ps,rs,a,rfl,W,λa0 a1=>?_,e⟩;have hlen:(rs.length:Int)=m-1:=W.go.len;have Ζ:=W.go.Ζ;refine⟨T.Web,dx,_,ob,T.kQ,T.Yj,_,yO m t,t,ps,rs,a,rfl,Η.of W.tu,W.ro,by lia,λl1 H1 n1 s1 e1=>?_⟩;refine⟨l1,rfl,f6 rs a,μ.of e1,by have:=FB rs a;lia,λl2 zs n2 pz sz=>?_⟩;rw[Ru W.go a0 a1 pz sz];exact k l2 _ a0 a1 (s1.free n2) (s1.trans (δ.new _ n2)) ax
def yp(T:Txt K mg):Sp:=λvs H Q _=>E7 λ(p t:Addr)(m:Int)(ps:List Addr)(rs:List Road)(a:Int)(fv:V)=>vs=[.ref p,.int a,fv]/\ν T.Web H p m t ps rs/\0<=a/\a<m/\(fv=.ο\/∃i,fv=.int i)/\∀l H',H l=none->δ H H'->H' l=some (.lst ((bP m rs fv a).map V.int))->Q (.ref l) H'
abbrev vk:Stmt:=top 34
theorem Rt:ζ ["web","place","front"] ["web","place","front"] (aJ vk):=.of
theorem RK(T:Txt K mg)(hq:bU (ψ P w))(tT:Cb P w K mg base "neighbours" pQ ["web","a"] 3 (wG T)):Ok P w K mg base "kids" vk ["web","place","front"] 4 (yp T):=λ_ _ D=>by
 refine D.F.ϔ Rt (by walk_at "v") λς A outer s H vs Q E hr h=>?_;obtain⟨p,t,m,ps,rs,a,fv,rfl,W,a0,a1,hf,k⟩:=h;have Ζ:=W.go.Ζ;refine⟨_,(aL (bG (kN rfl (ZY ["near","front"] 1 [2]) (hG (Θ tT hr hq (aa (γ 0) (aa (γ 1) ay)))) (λ_ _ _ _=>(fN (i:=0) (show(["near","front"]:List Str).Nodup from by decide +kernel) rfl (Or.inl rfl))) (λ_ _ _ _=>(uQ (ό sG (pv 0) (pv 1)))) (λ_ _ _ _=>(pv 0))))),?_⟩;walk_at "s";walk_at "";have nl:(lO m rs a).length<=24:=by
  have:=cA (λq=>decide (q∈f6 rs a)) (cR m.toNat);rw[da]at this;unfold lO
  lia
 refine⟨p,t,m,ps,rs,a,rfl,W,λl1 H1 _ _ n1 s1 e1=>⟨l1,rfl,⟨_,μ.of e1⟩,λl2 n2=>?_⟩,λz=>absurd ⟨a0,a1⟩ z⟩;have n20:H l2=none:=s1.free n2;refine oZ (c:=true) (K:=K) (a:=l1) (xs:=(lO m rs a).map V.int) (λj ys σ H2=>δ H1 H2/\H2 l2=some (.lst ys)/\ys=(((lO m rs a).take j).filter λv=>decide (V.int v≠fv)).map V.int/\∃v,σ=[v,some fv]) ⟨δ.new _ n2,ax,rfl,_,rfl⟩ (λj ys σ H2 _ z=>μ.of (z.1 _ _ e1)) ?_ ?_
 .rintro j xj ys σ H2 N hN hj ⟨s2,h2,rfl,v,rfl⟩;rw[aF]at hj;obtain⟨b,hb,rfl⟩:=eA.mp hj;have et:(lO m rs a).take (j+1)=(lO m rs a).take j++[b]:=by rw[bL,hb];rfl
  have ll:(((lO m rs a).take j).filter λv=>decide (V.int v≠fv)).length<=24:=by
   have h1:=cA (λv=>decide (V.int v≠fv)) ((lO m rs a).take j);rw[bd]at h1
   lia
  walk_at "";have sc:pP (V.int b) fv=true:=by
   rcases hf with rfl|⟨i,rfl⟩<;>rfl
  refine⟨sc,?_⟩;by_cases c:V.int b=fv
  .rw[ag (λz=>z c)];refine hN _ _ _ ⟨s2,h2,?_,_,rfl⟩;rw[et,c8];simp[c]
  .rw[aj c];refine⟨h2,ff (by rw[ah];lia),hN _ _ _ ⟨s2.put n2 _,ax,?_,_,rfl⟩⟩;rw[et,c8];simp[c]
 .rintro ys σ H2 ⟨s2,h2,rfl,v,rfl⟩;rw[ah,bp]at h2;exact k l2 H2 n20 (s1.trans s2) h2
def vR(T:Txt K mg):Sp:=λvs H Q E=>E6 λ(p t:Addr)(m:Int)(ps:List Addr)(rs:List Road)(r:Int)=>vs=[.ref p,.int r]/\ν T.Web H p m t ps rs/\(0<=r->r<m->∃par dep,ε m rs r par dep/\∀l H',H l=none->δ H H'->H' l=some (.lst (pL m r par))->Q (.ref l) H')/\(¬(0<=r/\r<m)->E (.ref T.NoPlace) none H)
abbrev sP:Stmt:=top 32
theorem Qv:ζ ["web","r","nearer","waiting","place","front","kid"] ["web","r"] (aJ sP):=.of
theorem NZ(T:Txt K mg)(hq:bU (ψ P w))(eX:Cb P w K mg base "check_place" iE ["web","number"] 2 (lL T))(mG:Cb P w K mg base "kids" vk ["web","place","front"] 4 (yp T)):Ok P w K mg base "ahead" sP ["web","r"] 5 (vR T):=λ_ _ D=>by
 refine D.F.XQ Qv (by walk_at "v") λς A outer s H vs Q E hr h=>?_;obtain⟨p,t,m,ps,rs,r,rfl,W,k,e⟩:=h;obtain⟨dx,ob⟩:=W.ob;have g:=W.go;have Ζ:=g.Ζ;refine⟨_,(ao (dH (ϖ eX hr dI (aa (γ 0) (aa (γ 1) ay)))) (ao (ρ 2 (aX pR (eC (aa AU ay)) (dB (γ 0) rfl))) (ao (ρ 3 (eC (aa (γ 1) ay))) (ao (qK PassesOwn.leaving (qm (γ 3) (λ_=>rfl)) (ao (ρ 4 (GO PySem.F.plainAttrs_list PySem.F.slot_list_pop PySem.F.type_list_pop FJ (γ 3))) (ao (ρ 5 (Δ bB (γ 2) (γ 4))) (aL (eZ PassesOwn.leaving rfl (hG (ϖ mG hr dI (aa (γ 0) (aa (γ 4) (aa (γ 5) ay))))) (Φ 6) (ao (jW (γ 4) (mK (γ 2) (γ 6) iW)) (aL (dH (jI PySem.F.plainAttrs_list PySem.F.slot_list_append PySem.F.type_list_append fY (γ 3) (aa (γ 6) ay)))))))))) (aL (bG (γ 2))))))),?_⟩;walk_at "s";walk_at "";refine⟨p,t,m,ps,rs,r,rfl,W,λr0 r1=>?_,e⟩;obtain⟨par,dep,R,k⟩:=k r0 r1;refine⟨by decide,λl1 n1=>?_⟩;have s1:=δ.new (.lst [V.ο]) n1;refine⟨T.Web,dx,_,s1 _ _ ob,T.kQ,T.ϒ,_,rfl,?_⟩;refine⟨l1,m,[V.ο],rfl,rfl,ax,by lia,by lia,bN (by simp;lia),λl2 n2=>?_⟩;have n20:H l2=none:=s1.free n2;rw[GJ,<-S7 (par:=par)];have s2:=s1.trans (δ.new (.lst (nl m par [])) n2);refine⟨bN (by simp),λl3 n3=>?_⟩;have n30:H l3=none:=s2.free n3;have n32:l3≠l2:=λz=>by rw[z,ax]at n3;cases n3
 have s3:=s2.trans (δ.new (.lst [V.int r]) n3);have e2:upd (upd (upd H l1 (.lst [V.ο])) l2 (.lst (nl m par []))) l3 (.lst [V.int r]) l2=some (.lst (nl m par [])):=by rw[aO n32.symm,ax]
 have e3:upd (upd (upd H l1 (.lst [V.ο])) l2 (.lst (nl m par []))) l3 (.lst [V.int r]) l3=some (.lst [V.int r]):=ax;generalize upd (upd (upd H l1 (.lst [V.ο])) l2 (.lst (nl m par []))) l3 (.lst [V.int r])=H3 at s3 e2 e3 ⊢;refine Jq (λn σ H4=>E5 λ(ks ws:List Int)(v4 v5 v6:Option V)=>n=2*(m.toNat-ks.length)+ws.length/\σ=[some (.ref p),some (.int r),some (.ref l2),some (.ref l3),v4,v5,v6]/\δ H H4/\H4 l2=some (.lst (nl m par ks))/\H4 l3=some (.lst (ws.map V.int))/\ώ m rs r par ks ws) (2*m.toNat+1) ⟨[],[r],_,_,_,rfl,rfl,s3,e2,e3,ώ.start⟩ ?_;rintro n σ H4 NW BB Ϩ hN Ys ⟨ks,ws,v4,v5,v6,rfl,rfl,s4,h2,h3,J⟩;refine Ϩ _ _ _ ?_;have kl:=gx (by lia) J.nd J.Μ;walk_at "";refine⟨_,.inl ⟨_,μ.of h3,rfl⟩,?_⟩;rcases jE ws with rfl|⟨ws',q,rfl⟩
 .rw[ag (by simp)];rw[J.done R]at h2;exact k l2 H4 n20 s4 h2
 .rw[jA]at J h3 hN Ys ⊢;rw[aj (by simp)];have hq:q∈ws'++[q]:=aY _ (aB.mpr rfl);have pr:=J.at_ r0 r1 hq;have J2:=J.step g R r0 r1 (p:=q) (ws':=ws') (kb q ws');refine⟨NW,λσ' H' z=>?_,?_⟩
  .obtain⟨m',lt,ZP,aau,a4,a5,a6,e1,e2,e3⟩:=Ys _ _ z
   first|exact⟨m',lt,ZP,aau,a4,a5,a6,e1,e2,e3⟩|exact⟨m',lt,ZP,aau,e1,a4,a5,a6,e2,e3⟩
  rw[aD,aH,d8]at h3;refine⟨oK h3,Nv h3 ?_⟩;have s5:δ H (upd H4 l3 (.lst (ws'.map V.int))):=s4.put n30 _;have h25:upd H4 l3 (.lst (ws'.map V.int)) l2=some (.lst (nl m par ks)):=by rw[aO n32.symm];exact h2
  have h35:upd H4 l3 (.lst (ws'.map V.int)) l3=some (.lst (ws'.map V.int)):=ax;generalize upd H4 l3 (.lst (ws'.map V.int))=H5 at s5 h25 h35 ⊢;refine Ε h25 (cq pr.1 (MR pr.1 pr.2)) ?_;rw[J.front hq];have hfv:Pb.front r par q=.ο\/∃i,Pb.front r par q=.int i:=by
   unfold Pb.front;by_cases c:q=r
   .rw[aj c];exact .inl rfl
   .rw[ag c];exact .inr ⟨_,rfl⟩
  have mk:∀v,v∈bP m rs (Pb.front r par q) q->(0<=v/\v<m)/\v≠r/\par v=q:=λv=>(bO g R pr.1 pr.2).mp;refine⟨p,t,m,ps,rs,q,_,rfl,W.same s5,pr.1,pr.2,hfv,λl6 H6 n6 s6 e6=>⟨l6,rfl,⟨_,μ.of e6⟩,?_⟩⟩;generalize bP m rs (Pb.front r par q) q=kk at mk e6 J2 ⊢;have n6':H l6=none:=s5.free n6;have n62:l6≠l2:=λz=>by rw[z,h25]at n6;cases n6
  have n63:l6≠l3:=λz=>by rw[z,h35]at n6;cases n6
  have kl2:=gx (by lia) J2.nd J2.Μ;rw[aP]at kl2;have wl2:=gx (by lia) J2.wnd λw hw=>J2.at_ r0 r1 hw;rw[aP]at wl2;refine mh (K:=K) (xs:=kk.map V.int) (λi σ H7=>∃v6,σ=[some (.ref p),some (.int r),some (.ref l2),some (.ref l3),some (.int q),some (Pb.front r par q),v6]/\δ H H7/\H7 l6=some (.lst (kk.map V.int))/\H7 l2=some (.lst (nl m par (ks++kk.take i)))/\H7 l3=some (.lst ((ws'++kk.take i).map V.int))) ⟨_,rfl,s5.trans s6,e6,by rw[d6,bX];exact s6 _ _ h25,by rw[d6,bX];exact s6 _ _ h35⟩ (λi σ H7 _ z=>by obtain⟨_,_,_,z,_⟩:=z;exact μ.of z) ?_ ?_
  .rintro i x σ H7 NI BB Ϩ hI hi ⟨v6,rfl,s7,e7,h27,h37⟩;refine Ϩ _ _ ?_;rw[aF]at hi;obtain⟨v,hv,rfl⟩:=eA.mp hi;obtain⟨vr,_,vp⟩:=mk v (aM hv);have et:kk.take (i+1)=kk.take i++[v]:=(by rw[bL,hv];rfl);walk_at "";refine⟨l2,_,v,v.toNat,rfl,rfl,h27,by unfold ZI;rw[aj vr.1,aj (by rw[t9];lia)],?_⟩;rw[<-vp,TZ vr.1 vr.2,vp,cU,<-et];have h38:upd H7 l2 (.lst (nl m par (ks++kk.take (i+1)))) l3=some (.lst ((ws'++kk.take i).map V.int)):=(by rw[aO n32];exact h37);have XT:(ws'++kk.take i).length<=100:=by
    rw[aP,bd]
    lia
   refine⟨oK h38,rP h38 (ff (by rw[ah];lia)) (hI _ _ ⟨_,rfl,(s7.put n20 _).put n30 _,?_,?_,?_⟩)⟩
   .rw[aO n63,aO n62];exact e7
   .rw[aO n32.symm,ax]
   .rw[ax,et,<-cU,aD (l₁:=ws'++kk.take i)];rfl
  .rintro BB σ H7 Ϩ ⟨v6,rfl,s7,e7,h27,h37⟩;refine Ϩ _ _ ?_;rw[ah,bp]at h27 h37;refine hN _ _ _ ?_ ⟨_,_,_,_,_,rfl,rfl,s7,h27,h37,J2⟩;rw[aP,aP,aP];simp only[aE,eD]
   lia
def C8(T:Txt K mg):Sp:=λvs H Q E=>E6 λ(p t:Addr)(m:Int)(ps:List Addr)(rs:List Road)(r:Int)=>vs=[.ref p,.int r]/\ν T.Web H p m t ps rs/\(0<=r->r<m->∃par dep,ε m rs r par dep/\∀l H',H l=none->δ H H'->H' l=some (.lst ((cW m rs r par dep r).map V.int))->(cW m rs r par dep r).Nodup->(∀v,v∈cW m rs r par dep r↔0<=v/\v<m)->Q (.ref l) H')/\(¬(0<=r/\r<m)->E (.ref T.NoPlace) none H)
abbrev vB:Stmt:=top 33
theorem QW:ζ ["web","r","nearer","places","waiting","place","kid"] ["web","r"] (aJ vB):=.of
theorem zZ:ϗ (aJ vB) "reversed":=.of (by kernel_rfl)
theorem QS(T:Txt K mg)(hq:bU (ψ P w))(oj:Cb P w K mg base "ahead" sP ["web","r"] 5 (vR T))(mG:Cb P w K mg base "kids" vk ["web","place","front"] 4 (yp T)):Ok P w K mg base "down" vB ["web","r"] 6 (C8 T):=λ_ _ D=>by
 refine D.F.XQ QW (by walk_at "v") λς A outer s H vs Q E hr h=>?_;obtain⟨p,t,m,ps,rs,r,rfl,W,k,e⟩:=h;have g:=W.go;have Ζ:=g.Ζ;refine⟨_,(ao (ρ 2 (ϖ oj hr dI (aa (γ 0) (aa (γ 1) ay)))) (ao (ρ 3 (eC ay)) (ao (ρ 4 (eC (aa (γ 1) ay))) (ao (qK PassesOwn.leaving (qm (γ 4) (λ_=>rfl)) (ao (ρ 5 (GO PySem.F.plainAttrs_list PySem.F.slot_list_pop PySem.F.type_list_pop FJ (γ 4))) (ao (dH (jI PySem.F.plainAttrs_list PySem.F.slot_list_append PySem.F.type_list_append fY (γ 3) (aa (γ 5) ay))) (aL (eZ PassesOwn.leaving rfl (tG zZ.g T.reversed (ϖ mG hr dI (aa (γ 0) (aa (γ 5) (aa (Δ bB (γ 2) (γ 5)) ay))))) (Φ 6) (aL (dH (jI PySem.F.plainAttrs_list PySem.F.slot_list_append PySem.F.type_list_append fY (γ 4) (aa (γ 6) ay))))))))) (aL (bG (γ 3))))))),?_⟩;walk_at "s";walk_at "";refine⟨p,t,m,ps,rs,r,rfl,W,λr0 r1=>?_,e⟩;obtain⟨par,dep,R,k⟩:=k r0 r1;refine⟨par,dep,R,λl1 H1 n1 s1 e1=>⟨by decide,λl3 n3=>⟨bN (by simp),λl4 n4=>?_⟩⟩⟩;have n30:H l3=none:=s1.free n3;have s3:=s1.trans (δ.new (.lst []) n3);have n40:H l4=none:=s3.free n4;have n13:l1≠l3:=λz=>by rw[<-z,e1]at n3;cases n3
 have n34:l3≠l4:=λz=>by rw[<-z,ax]at n4;cases n4
 have e13:=δ.new (.lst []) n3 _ _ e1;have n14:l1≠l4:=λz=>by rw[<-z,e13]at n4;cases n4
 have s4:=s3.trans (δ.new (.lst [V.int r]) n4);have e14:=δ.new (.lst [V.int r]) n4 _ _ e13;have e34:upd (upd H1 l3 (.lst [])) l4 (.lst [V.int r]) l3=some (.lst []):=by rw[aO n34,ax]
 have e44:upd (upd H1 l3 (.lst [])) l4 (.lst [V.int r]) l4=some (.lst [V.int r]):=ax;generalize upd (upd H1 l3 (.lst [])) l4 (.lst [V.int r])=H4 at s4 e14 e34 e44 ⊢;refine Jq (λn σ H5=>E5 λ(ks ws pl:List Int)(v5 v6:Option V)=>n=2*(m.toNat-ks.length)+ws.length/\σ=[some (.ref p),some (.int r),some (.ref l1),some (.ref l3),some (.ref l4),v5,v6]/\δ H H5/\H5 l1=some (.lst (pL m r par))/\H5 l3=some (.lst (pl.map V.int))/\H5 l4=some (.lst (ws.map V.int))/\ώ m rs r par ks ws/\(pl++ws).Perm (r::ks)/\pl++ws.reverse.flatMap (cW m rs r par dep)=cW m rs r par dep r) (2*m.toNat+1) ⟨[],[r],[],_,_,rfl,rfl,s4,e14,e34,e44,ώ.start,List.Perm.refl _,by simp⟩ ?_;rintro n σ H5 NW BB Ϩ hN Ys ⟨ks,ws,pl,v5,v6,rfl,rfl,s5,h1,h3,h4,J,pe,ep⟩;refine Ϩ _ _ _ ?_;have rk:∀w∈r::ks,0<=w/\w<m:=λw hw=>by
  rcases ar.mp hw with rfl|z
  .exact⟨r0,r1⟩
  .exact J.Μ w z
 have nk:(r::ks).Nodup:=bn.mpr ⟨J.nr,J.nd⟩;have kl:=gx (m:=m) (by lia) nk rk;have kl1:=gx (m:=m) (by lia) J.nd J.Μ;have pl1:=pe.length_eq;rw[aP]at pl1;rw[aE]at kl pl1;walk_at "";refine⟨_,.inl ⟨_,μ.of h4,rfl⟩,?_⟩;rcases jE ws with rfl|⟨ws',q,rfl⟩
 .rw[ag (by simp)];rw[List.reverse_nil,List.flatMap_nil,bX]at ep;rw[bX]at pe;subst ep;refine k l3 H5 n30 s5 h3 (pe.nodup_iff.mpr nk) λv=>⟨λz=>rk v (pe.mem_iff.mp z),λz=>pe.mem_iff.mpr ?_⟩;by_cases c:v=r
  .rw[c];exact aK
  .exact aI _ (J.all R v z.1 z.2 c)
 .rw[jA]at J h4 hN Ys pe ep pl1 ⊢;rw[aj (by simp)];have hq:q∈ws'++[q]:=aY _ (aB.mpr rfl);have pr:=J.at_ r0 r1 hq;have J2:=J.step g R r0 r1 (p:=q) (ws':=ws') (kb q ws');refine⟨NW,λσ' H' z=>?_,?_⟩
  .obtain⟨m',lt,ZP,aau,pl',a5,a6,z1,z2⟩:=Ys _ _ z
   first|exact⟨m',lt,ZP,aau,pl',a5,a6,z1,z2⟩|exact⟨m',lt,ZP,aau,z1,pl',a5,a6,z2⟩
  rw[aD,aH,d8]at h4;refine⟨oK h4,Nv h4 ?_⟩;have s6:δ H (upd H5 l4 (.lst (ws'.map V.int))):=s5.put n40 _;have h36:upd H5 l4 (.lst (ws'.map V.int)) l3=some (.lst (pl.map V.int)):=by rw[aO n34];exact h3
  have h16:upd H5 l4 (.lst (ws'.map V.int)) l1=some (.lst (pL m r par)):=by rw[aO n14];exact h1
  have h46:upd H5 l4 (.lst (ws'.map V.int)) l4=some (.lst (ws'.map V.int)):=ax;generalize upd H5 l4 (.lst (ws'.map V.int))=H6 at s6 h36 h16 h46 ⊢;refine⟨oK h36,rP h36 (ff (by rw[ah];lia)) ?_⟩;have s7:δ H (upd H6 l3 (.lst (pl.map V.int++[V.int q]))):=s6.put n30 _;have h37:upd H6 l3 (.lst (pl.map V.int++[V.int q])) l3=some (.lst ((pl++[q]).map V.int)):=by rw[ax,aD];rfl
  have h17:upd H6 l3 (.lst (pl.map V.int++[V.int q])) l1=some (.lst (pL m r par)):=by rw[aO n13];exact h16
  have h47:upd H6 l3 (.lst (pl.map V.int++[V.int q])) l4=some (.lst (ws'.map V.int)):=by rw[aO n34.symm];exact h46
  generalize upd H6 l3 (.lst (pl.map V.int++[V.int q]))=H7 at s7 h37 h17 h47 ⊢;refine Ε h17 (cq pr.1 (zz pr.1 pr.2)) ?_;have hfv:Pb.front r par q=.ο\/∃i,Pb.front r par q=.int i:=by
   unfold Pb.front;by_cases c:q=r
   .rw[aj c];exact .inl rfl
   .rw[ag c];exact .inr ⟨_,rfl⟩
  have pq:=kY g R pr.1 pr.2;refine⟨p,t,m,ps,rs,q,_,rfl,W.same s7,pr.1,pr.2,hfv,λl8 H8 n8 s8 e8=>⟨l8,rfl,_,μ.of e8,?_⟩⟩;generalize bP m rs (Pb.front r par q) q=kk at e8 J2 pq ⊢;have n81:l1≠l8:=λz=>by rw[<-z,h17]at n8;cases n8
  have n83:l3≠l8:=λz=>by rw[<-z,h37]at n8;cases n8
  have n84:l4≠l8:=λz=>by rw[<-z,h47]at n8;cases n8
  have kl2:=gx (m:=m) (by lia) J2.nd J2.Μ;rw[aP]at kl2;have wl2:=gx (m:=m) (by lia) J2.wnd λw hw=>J2.at_ r0 r1 hw;rw[aP]at wl2;refine qD (K:=K) (xs:=kk.map V.int) (λi σ H9=>∃v6,σ=[some (.ref p),some (.int r),some (.ref l1),some (.ref l3),some (.ref l4),some (.int q),v6]/\δ H H9/\H9 l8=some (.lst (kk.map V.int))/\H9 l1=some (.lst (pL m r par))/\H9 l3=some (.lst ((pl++[q]).map V.int))/\H9 l4=some (.lst ((ws'++kk.reverse.take i).map V.int))) ⟨_,rfl,s7.trans s8,e8,s8 _ _ h17,s8 _ _ h37,by rw[d6,bX];exact s8 _ _ h47⟩ (λi σ H9 _ z=>by obtain⟨_,_,_,z,_⟩:=z;exact μ.of z) ?_ ?_
  .rintro i x σ H9 NI hI hi ⟨v6,rfl,s9,e9,h19,h39,h49⟩;rw[<-eV,aF]at hi;obtain⟨v,hv,rfl⟩:=eA.mp hi;have et:kk.reverse.take (i+1)=kk.reverse.take i++[v]:=(by rw[bL,hv];rfl);have XT:(ws'++kk.reverse.take i).length<=100:=by
    rw[aP,bd,bj]
    lia
   walk_at "";refine⟨oK h49,rP h49 (ff (by rw[ah];lia)) (hI _ _ ⟨_,rfl,s9.put n40 _,?_,?_,?_,?_⟩)⟩
   .rw[aO n84.symm];exact e9
   .rw[aO n14];exact h19
   .rw[aO n34];exact h39
   .rw[ax,et,<-cU,aD (l₁:=ws'++kk.reverse.take i)];rfl
  .rintro σ H9 ⟨v6,rfl,s9,e9,h19,h39,h49⟩;rw[ah,show kk.length=kk.reverse.length by rw[bj],bp]at h49;refine hN _ _ _ ?_ ⟨ks++kk,ws'++kk.reverse,pl++[q],_,_,rfl,rfl,s9,h19,h39,h49,J2.perm (mq _ kk.reverse_perm.symm),?_,?_⟩
   .rw[aP,aP,aP,bj];simp only[aE,eD]
    lia
   .have p1:(pl++[q]++(ws'++kk.reverse)).Perm (pl++(ws'++[q])++kk):=by
     rw[cU,cU];refine mq _ ?_;rw[<-cU];exact List.Perm.append (List.perm_append_comm) kk.reverse_perm
    exact p1.trans (List.Perm.append_right _ pe)
   .rw[<-ep,mH,mH,mm,List.reverse_singleton,List.singleton_append,di,pq,m6];simp
def JE(par:Int->Int)(v:Int):List V:=[.int v,.int (par v)]
abbrev Α(H:Hp)(par:Int->Int):List Addr->List Int->Prop:=Paired λq v=>H q=some (.tup (JE par v))
theorem Α.same{H H':Hp}{par:Int->Int}{qs:List Addr}{vs:List Int}(e:δ H H')(h:Α H par qs vs):Α H' par qs vs:=Paired.imp' (λq v x=>e q _ x) h
theorem Α.get{H:Hp}{par:Int->Int}:∀{ps:List Addr}{rs:List Int}{i:Nat}{x:V},Α H par ps rs->(ps.map V.ref)[i]?=some x->∃p r,x=.ref p/\ps[i]?=some p/\rs[i]?=some r/\H p=some (.tup (JE par r))
 | _,_,i,x,.nil,e=>by simp at e
 | _,_,0,x,.cons (a:=p) (b:=r) h hs,e=>⟨p,r,by simpa using e.symm,by simp,by simp,h⟩
 | a::l1,_,i+1,x,.cons h hs,e=>by
   have e':(List.map V.ref l1)[i]?=some x:=by simpa using e
   obtain⟨p,r,h1,h2,h3,h4⟩:=Α.get hs e';exact⟨p,r,h1,by simpa using h2,by simpa using h3,h4⟩
theorem Α.snoc{H:Hp}{par:Int->Int}{q:Addr}{v:Int}(e:H q=some (.tup (JE par v))):∀{qs:List Addr}{vs:List Int},Α H par qs vs->Α H par (qs++[q]) (vs++[v])
 | _,_,.nil=>.cons e .nil
 | _,_,.cons x xs=>.cons x (Α.snoc e xs)
def rq(T:Txt K mg):Sp:=λvs H Q E=>E6 λ(p t:Addr)(m:Int)(ps:List Addr)(rs:List Road)(r:Int)=>vs=[.ref p,.int r]/\ν T.Web H p m t ps rs/\(0<=r->r<m->∃par dep,ε m rs r par dep/\∀l qs tl H',cW m rs r par dep r=r::tl->H l=none->δ H H'->H' l=some (.lst (qs.map V.ref))->Α H' par qs tl.reverse->Order m r par tl->Q (.ref l) H')/\(¬(0<=r/\r<m)->E (.ref T.NoPlace) none H)
abbrev mw:Stmt:=top 35
theorem Dk:ζ ["web","r","nearer"] ["web","r"] (aJ mw):=.of
theorem zx:ZU (aJ mw) "nearer":=.of (by kernel_rfl)
theorem wT:ϗ (aJ mw) "reversed":=.of (by kernel_rfl)
theorem Lj(T:Txt K mg)(hq:bU (ψ P w))(oj:Cb P w K mg base "ahead" sP ["web","r"] 5 (vR T))(uZ:Cb P w K mg base "down" vB ["web","r"] 6 (C8 T)):Ok P w K mg base "inward" mw ["web","r"] 7 (rq T):=λ_ _ D=>by
 refine D.F.XQ Dk (by walk_at "v") λς A outer s H vs Q E hr h=>?_;obtain⟨p,t,m,ps,rs,r,rfl,W,k,e⟩:=h;have g:=W.go;have Ζ:=g.Ζ;refine⟨_,(ao (xK (i:=2) Dk.nd rfl (Or.inr zx.l) (ϖ oj hr dI (aa (γ 0) (aa (ϲ 1) ay)))) (aL (bG (kN rfl (ZY ["place","nearer","r"] 1 [2,1]) (tG wT.g T.reversed (ϖ uZ hr dI (aa (γ 0) (aa (ϲ 1) ay)))) (λ_ _ _ _=>(fN (i:=0) (show(["place","nearer","r"]:List Str).Nodup from by decide +kernel) rfl (Or.inl rfl))) (λ_ _ _ _=>(uQ (ό sG (pv 0) (pv 2)))) (λ_ _ _ _=>(gS (aa (pv 0) (aa (Δ (mE K rfl) (pv 1) (pv 0)) ay)))))))),?_⟩;walk_at "s";walk_at "";refine⟨p,t,m,ps,rs,r,?_⟩;refine an4 rfl W (λr0 r1=>?_) e;obtain⟨par,dep,R,k⟩:=k r0 r1;refine⟨par,dep,R,λl1 H1 n1 s1 e1=>?_⟩;refine⟨p,t,m,ps,rs,r,?_⟩;refine an4 rfl (W.same s1) (λ_ _=>⟨par,dep,R,λl2 H2 n2 s2 e2 nd al=>?_⟩) (λz=>absurd ⟨r0,r1⟩ z);obtain⟨tl,et,O⟩:=Bm g R r0 r1 nd al;have ll:=FY g R r0 r1;rw[et]at e2 ll;rw[aE]at ll;refine⟨l2,rfl,_,μ.of e2,λpc XC=>?_⟩;have e12:=s2 _ _ e1;have gE:=s1.trans s2;have ajD:=gE.free XC;refine OG (K:=K) (xs:=(r::tl).map V.int) (λi zs σ H3=>δ H2 H3/\H3 pc=some (.lst zs)/\(∃qs:List Addr,zs=qs.map V.ref/\Α H3 par qs (tl.reverse.take i))/\∃v,σ=[v,some (V.ref l1),some (V.int r)]) ⟨δ.new _ XC,ax,⟨[],rfl,.nil⟩,_,rfl⟩ (λi zs σ H3 _ z=>μ.of (z.1 _ _ e2)) ?_ ?_
 .rintro i x zs σ H3 N hN hx ⟨s3,e3,⟨qs,rfl,pa⟩,v,rfl⟩;rw[<-eV,dW,aF]at hx;obtain⟨y,gy,rfl⟩:=eA.mp hx;have il:=(aq.mp gy).1;rw[aP,bj]at il;have ql:qs.length=(tl.reverse.take i).length:=Paired.length pa;rw[bd,bj]at ql;walk_at "";by_cases c:i<tl.length
  .rw[dA (by rw[bj];exact c)]at gy;have ym:y∈tl:=eT.mp (aM gy);have yr:=O.Μ y ym;rw[aj (O.ne ym)];have gp:Ϣ (pL m r par) y=some (V.int (par y)):=by
    have ef:Pb.front r par y=V.int (par y):=(by unfold Pb.front;rw[ag (O.ne ym)]);rw[<-ef];exact cq yr.1 (zz yr.1 yr.2)
   refine Ε (s3 _ _ e12) gp ⟨bN (by simp),λq nq=>?_⟩;have s4:=δ.new (.tup [V.int y,V.int (par y)]) nq;have nqp:q≠pc:=λz=>by rw[z,e3]at nq;cases nq
   refine⟨s4 _ _ e3,ff (by rw[ah];lia),hN _ _ _ ⟨(s3.trans s4).put XC _,ax,⟨qs++[q],by rw[aD];rfl,?_⟩,_,rfl⟩⟩;rw[bL,gy];refine Α.snoc (by rw[aO nqp,ax];rfl) ?_;exact Paired.imp' (λa b h=>by
    rw[aO (hW h e3 (by intro z;cases z)),aO (bQ h nq)];exact h) pa
  .have ei:i=tl.reverse.length:=(by rw[bj];simp at il;lia);rw[ei,dc (aA _),fC]at gy;cases gy;rw[ag (λz=>z rfl)];refine hN _ _ _ ⟨s3,e3,⟨qs,rfl,?_⟩,_,rfl⟩;rw[dh (by lia)]at pa ⊢;exact pa
 .rintro zs σ H3 ⟨s3,e3,⟨qs,rfl,pa⟩,v,rfl⟩;rw[dh (by rw[ah,bj,aE];lia)]at pa;exact k pc qs tl H3 et ajD (gE.trans s3) e3 pa O
def sN(T:Txt K mg):Sp:=λvs H Q E=>E7 λ(p t:Addr)(m:Int)(ps:List Addr)(rs:List Road)(a b:Int)=>vs=[.ref p,.int a,.int b]/\ν T.Web H p m t ps rs/\(∀k,0<=a->a<m->0<=b->b<m->cX rs a b=some k->Q (.int k) H)/\(¬((0<=a/\a<m)/\(0<=b/\b<m))->E (.ref T.NoPlace) none H)/\(0<=a->a<m->0<=b->b<m->cX rs a b=none->E (.ref T.NoRoad) none H)
abbrev qc:Stmt:=top 18
theorem Rj:ζ ["web","a","b","one","other","there","back"] ["web","a","b"] (aJ qc):=.of
theorem uX:ϗ (aJ qc) "NoRoad":=.of (by kernel_rfl)
theorem Rg(T:Txt K mg)(hq:bU (ψ P w))(eX:Cb P w K mg base "check_place" iE ["web","number"] 2 (lL T)):Ok P w K mg base "toll" qc ["web","a","b"] 3 (sN T):=λ_ _ D=>by
 refine D.F.XQ Rj (by walk_at "v") λς A outer s H vs Q E hr h=>?_;obtain⟨p,t,m,ps,rs,a,b,rfl,W,k,e1,e2⟩:=h;obtain⟨dx,ob⟩:=W.ob;refine⟨_,(ao (dH (ϖ eX hr dI (aa (γ 0) (aa (γ 1) ay)))) (ao (dH (ϖ eX hr dI (aa (γ 0) (aa (γ 2) ay)))) (ao (eZ PassesOwn.leaving rfl (xC (dB (γ 0) rfl)) (jo (n:=4) rfl (bW (Φ 3) (bW (Φ 4) (bW (Φ 5) (bW (Φ 6) gK))))) (ao (dz (PW.pt (rj (ό gc (γ 3) (γ 1)) (pp (ό gc (γ 4) (γ 2))))) (aL (bG (γ 5))) ce) (aL (dz (PW.pt (rj (ό gc (γ 3) (γ 2)) (pp (ό gc (γ 4) (γ 1))))) (aL (bG (γ 6))) ce)))) (aL (oW T.Aa rfl qI uX.g T.Fx (aa gR ay) (hdb:=uX.d)))))),?_⟩;walk_at "s";walk_at "";refine⟨p,t,m,ps,rs,a,rfl,W,λa0 a1=>?_,λz=>e1 λw=>z w.1⟩;refine⟨p,t,m,ps,rs,b,rfl,W,λb0 b1=>?_,λz=>e1 λw=>z w.2⟩;refine⟨T.Web,dx,_,ob,T.kQ,T.Yj,_,yO m t,t,rfl,⟨_,Η.of W.tu⟩,?_⟩;have hlen:ps.length=rs.length:=Paired.length W.ro;refine GC (K:=K) (xs:=ps.map V.ref) (λi σ H2=>H2=H/\cX (rs.take i) a b=none/\∃v1 v2 v3 v4,σ=[some (V.ref p),some (V.int a),some (V.int b),v1,v2,v3,v4]) ⟨rfl,rfl,_,_,_,_,rfl⟩ (λi σ H2 _ z=>by rw[z.1];exact Η.of W.tu) ?_ ?_
 .rintro i x σ H2 N hN hx ⟨rfl,hno,v1,v2,v3,v4,rfl⟩;obtain⟨q,r,rfl,h1,h2,h3⟩:=W.ro.get hx;have et:rs.take (i+1)=rs.take i++[r]:=by rw[bL,h2];rfl
  have split:cX rs a b=(cX (rs.take i) a b).or ((jk a b r).or (cX (rs.drop (i+1)) a b)):=by
   have:rs=rs.take i++r::rs.drop (i+1):=by
    have Za:i<rs.length:=(aq.mp h2).1;have e:rs[i]=r:=(by rw[ap Za]at h2;exact bq h2);rw[<-e,lF,b8]
   conv=>lhs;rw[this]
   unfold cX;rw[jp,j3];cases jk a b r<;>rfl
  rw[hno,Option.none_or]at split;walk_at "";refine⟨_,Η.of h3,rfl,_,_,rfl,_,_,rfl,_,_,rfl,_,_,rfl,rfl,?_⟩;walk_at "";have next:jk a b r=none->N [some (V.ref p),some (V.int a),some (V.int b),some (V.int r.a),some (V.int r.b),some (V.int r.t),some (V.int r.u)] H2:=λz=>hN _ _ ⟨rfl,by
   rw[et];unfold cX at hno ⊢;rw[jp,hno,j3,z]
   rfl,_,_,_,_,rfl⟩
  have got:∀v,jk a b r=some v->cX rs a b=some v:=λv z=>by rw[split,z];rfl
  unfold jk at next got;split
  .rename_i c1
   split
   .rename_i c2
    exact k _ a0 a1 b0 b1 (got _ (by rw[aj ⟨c1,c2⟩]))
   .rename_i c2
    split
    .rename_i c3
     split
     .rename_i c4
      exact k _ a0 a1 b0 b1 (got _ (by rw[ag (λz=>c2 z.2),aj ⟨c3,c4⟩]))
     .rename_i c4
      exact next (by rw[ag (λz=>c2 z.2),ag (λz=>c4 z.2)])
    .rename_i c3
     exact next (by rw[ag (λz=>c2 z.2),ag (λz=>c3 z.1)])
  .rename_i c1
   split
   .rename_i c3
    split
    .rename_i c4
     exact k _ a0 a1 b0 b1 (got _ (by rw[ag (λz=>c1 z.1),aj ⟨c3,c4⟩]))
    .rename_i c4
     exact next (by rw[ag (λz=>c1 z.1),ag (λz=>c4 z.2)])
   .rename_i c3
    exact next (by rw[ag (λz=>c1 z.1),ag (λz=>c3 z.1)])
 .rintro σ H2 ⟨rfl,hno,v1,v2,v3,v4,rfl⟩;rw[ah,hlen,bp]at hno;walk_at "";exact⟨by decide,e2 a0 a1 b0 b1 hno⟩
def zL(T:Txt K mg):Sp:=λvs H Q _=>E11 λ(p b t:Addr)(c:Bool)(m:Int)(ps:List Addr)(rs:List Road)(xs:List Int)(v u k:Int)=>vs=[.ref p,.ref b,.int v,.int u]/\ν T.Web H p m t ps rs/\ϧ K c H b (xs.map V.int)/\(0<=v/\v<m/\v<xs.length)/\(0<=u/\u<m)/\cX rs v u=some k/\k<=1000000/\2<=k/\Q (.int (xs.getD v.toNat 0*k)) H
abbrev uR:Stmt:=top 40
theorem Pf:ζ ["web","weights","place","front"] ["web","weights","place","front"] (aJ uR):=.of
theorem Nt(T:Txt K mg)(hq:bU (ψ P w))(kD:Cb P w K mg base "toll" qc ["web","a","b"] 3 (sN T)):Ok P w K mg base "borne" uR ["web","weights","place","front"] 4 (zL T):=λ_ _ D=>by
 refine D.F.XQ Pf (by walk_at "v") λς A outer s H vs Q E hr h=>?_;obtain⟨p,b,t,c,m,ps,rs,xs,v,u,kk,rfl,W,hb,vr,ur,hk,k1,k2,k⟩:=h;refine⟨_,(aL (bG (aX kH (Δ (FH c) (γ 1) (γ 2)) (ϖ kD hr dI (aa (γ 0) (aa (γ 2) (aa (γ 3) ay))))))),?_⟩;walk_at "s";walk_at "";refine ixX hb (lE vr.1 vr.2.2) ?_;refine⟨p,t,m,ps,rs,v,u,rfl,W,λk' _ _ _ _ h=>?_,λz=>absurd ⟨⟨vr.1,vr.2.1⟩,ur⟩ z,λ_ _ _ _ z=>by rw[hk]at z;cases z⟩;rw[hk]at h;cases h;exact⟨_,rfl,_,rfl,.inr ⟨by lia,by lia⟩,k⟩
def uE(T:Txt K mg):Sp:=λvs H Q _=>E10 λ(p b t:Addr)(m:Int)(ps:List Addr)(rs:List Road)(xs:List Int)(v u k:Int)=>vs=[.ref p,.ref b,.int v,.int u]/\ν T.Web H p m t ps rs/\μ K H b (xs.map V.int)/\(xs.length:Int)=m/\(0<=v/\v<m)/\(0<=u/\u<m)/\cX rs v u=some k/\k<=1000000/\2<=k/\Q (.bl (decide (xs.getD v.toNat 0*k=xs.getD u.toNat 0))) H
abbrev pO:Stmt:=top 46
theorem HS:ζ ["web","weights","place","front"] ["web","weights","place","front"] (aJ pO):=.of
theorem Hv(T:Txt K mg)(hq:bU (ψ P w))(sJ:Cb P w K mg base "borne" uR ["web","weights","place","front"] 4 (zL T)):Ok P w K mg base "is_heavy" pO ["web","weights","place","front"] 5 (uE T):=λ_ _ D=>by
 refine D.F.XQ HS (by walk_at "v") λς A outer s H vs Q E hr h=>?_;obtain⟨p,b,t,m,ps,rs,xs,v,u,kk,rfl,W,hb,xl,vr,ur,hk,k1,k2,k⟩:=h;refine⟨_,(aL (bG (qJ gc (ϖ sJ hr dI (aa (γ 0) (aa (γ 1) (aa (γ 2) (aa (γ 3) ay))))) (Δ bB (γ 1) (γ 3)) (oC _)))),?_⟩;walk_at "s";walk_at "";refine⟨p,b,t,true,m,ps,rs,xs,v,u,kk,rfl,W,hb,⟨vr.1,vr.2,by lia⟩,ur,hk,k1,k2,?_⟩;refine ixS hb (lE ur.1 (by lia)) ?_;have e:decide (V.int (xs.getD v.toNat 0*kk)=V.int (xs.getD u.toNat 0))=decide (xs.getD v.toNat 0*kk=xs.getD u.toNat 0):=by simp
 rw[e];exact⟨rfl,k⟩
def ms(T:Txt K mg):Sp:=λvs H Q E=>E6 λ(p t:Addr)(m:Int)(ps:List Addr)(rs:List Road)(r:Int)=>vs=[.ref p,.int r]/\ν T.Web H p m t ps rs/\(0<=r->r<m->∃par dep,ε m rs r par dep/\∀l H',H l=none->δ H H'->H' l=some (.lst ((cM m rs r par dep).map V.int))->Q (.ref l) H')/\(¬(0<=r/\r<m)->∀H',δ H H'->E (.ref T.NoPlace) none H')
abbrev jG:Stmt:=top 43
theorem Am:ζ ["web","r","weights","place","front"] ["web","r"] (aJ jG):=.of
theorem zJ(T:Txt K mg)(hq:bU (ψ P w))(sJ:Cb P w K mg base "borne" uR ["web","weights","place","front"] 4 (zL T))(jL:Cb P w K mg base "inward" mw ["web","r"] 7 (rq T)):Ok P w K mg base "least_weights" jG ["web","r"] 8 (ms T):=λ_ _ D=>by
 refine D.F.XQ Am (by walk_at "v") λς A outer s H vs Q E hr h=>?_;obtain⟨p,t,m,ps,rs,r,rfl,W,k,e⟩:=h;have g:=W.go;have m1:=g.m1;have Ζ:=g.Ζ;obtain⟨dx,ob⟩:=W.ob;refine⟨_,(ao (ρ 2 (aX pR (eC (aa az ay)) (dB (γ 0) rfl))) (ao (eZ PassesOwn.leaving rfl (hG (ϖ jL hr dI (aa (γ 0) (aa (γ 1) ay)))) (jo (n:=2) rfl (bW (Φ 3) (bW (Φ 4) gK))) (aL (jW (dO (nA rfl) T.max (aa (Δ bB (γ 2) (γ 4)) (aa (ϖ sJ hr dI (aa (γ 0) (aa (γ 2) (aa (γ 3) (aa (γ 4) ay))))) ay))) (mK (γ 2) (γ 4) iW)))) (aL (bG (γ 2))))),?_⟩;walk_at "s";walk_at "";refine⟨bN (by simp),λl0 n0=>?_⟩;have s0:=δ.new (.lst [V.int 1]) n0;refine⟨T.Web,dx,_,s0 _ _ ob,T.kQ,T.ϒ,_,j7 m t,?_⟩;refine⟨l0,m,_,rfl,rfl,ax,by lia,by lia,bN (by simp;lia),λl n1=>?_⟩;rw[Av];have s1:=s0.trans (δ.new (.lst (List.replicate m.toNat (V.int 1))) n1);have nl:=s0.free n1;have e1:upd (upd H l0 (.lst [V.int 1])) l (.lst (List.replicate m.toNat (V.int 1))) l=some (.lst ((List.replicate m.toNat (1:Int)).map V.int)):=by rw[ax,gb]
 generalize upd (upd H l0 (.lst [V.int 1])) l (.lst (List.replicate m.toNat (V.int 1)))=H1 at s1 e1 ⊢;refine⟨p,t,m,ps,rs,r,?_⟩;refine an4 rfl (W.same s1) (λr0 r1=>?_) (λz=>e z H1 s1);obtain⟨par,dep,R,k⟩:=k r0 r1;refine⟨par,dep,R,λl2 qs tl H2 _ n2 s2 e2 pa O=>?_⟩;have nll:l2≠l:=λz=>by rw[z,e1]at n2;cases n2
 refine⟨l2,rfl,⟨_,μ.of e2⟩,?_⟩;have ql:qs.length=tl.reverse.length:=Paired.length pa;have st:ϰ mx m rs r par dep (λ_=>1) (bor rs par) [] (List.replicate m.toNat (1:Int)):=ϰ.nil (by rw[bT];lia) λv v0 v1=>by
  rw[List.getD,jB (by lia)];rfl
 refine mh (K:=K) (xs:=qs.map V.ref) (λi σ H3=>δ H H3/\H3 l2=some (.lst (qs.map V.ref))/\Α H3 par qs tl.reverse/\E3 λ(cs:List Int)(v4 v5:Option V)=>H3 l=some (.lst (cs.map V.int))/\ϰ mx m rs r par dep (λ_=>1) (bor rs par) (tl.drop (tl.length-i)) cs/\σ=[some (V.ref p),some (V.int r),some (V.ref l),v4,v5]) ⟨s1.trans s2,e2,pa,_,_,_,s2 _ _ e1,by rw[kK,jd];exact st,rfl⟩ (λi σ H3 _ z=>μ.of z.2.1) ?_ ?_
 .rintro i x σ H3 N BB Ϩ hN hx ⟨s3,e3,ZZ,cs,v4,v5,c3,so,rfl⟩;refine Ϩ _ _ ?_;obtain⟨q,v,rfl,hq,hv,eq⟩:=ZZ.get hx;obtain⟨⟨vr,vn⟩,ev,so'⟩:=O.acf ye g R so hv;have u:=R.up v vr.1 vr.2 vn;obtain⟨kk,hk,k0,k1⟩:=lY g R vr.1 vr.2 vn;have cl:=so.len;walk_at "";refine⟨_,Η.of eq,rfl,_,_,rfl,_,_,rfl,rfl,?_⟩;refine Ε c3 (lE u.1.1 (by lia)) ?_;refine⟨p,l,t,true,m,ps,rs,cs,v,par v,kk,rfl,W.same s3,μ.of c3,⟨vr.1,vr.2,by lia⟩,u.1,hk,k1,k0,?_⟩;refine⟨_,_,⟨rfl,rfl⟩,rX c3 u.1.1 (by rw[ah];lia) (hN _ _ ⟨s3.put nl _,?_,?_,tU mx par (bor rs par) cs v,_,_,?_,so',rfl⟩)⟩
  .rw[aO nll];exact e3
  .exact Paired.imp' (λa b h=>by rw[aO (hW h c3 (by intro z;cases z))];exact h) ZZ
  .rw[ax,<-d9];unfold tU bor mx;rw[hk]
   rfl
 .rintro BB σ H3 Ϩ ⟨s3,e3,ZZ,cs,v4,v5,c3,so,rfl⟩;refine Ϩ _ _ ?_;rw[ah,ql,bj,fC,ir]at so;rw[O.doneF ye g R so]at c3;walk_at "";exact k l H3 nl s3 c3
def Be(T:Txt K mg):Sp:=λvs H Q E=>E6 λ(p t:Addr)(m:Int)(ps:List Addr)(rs:List Road)(r:Int)=>vs=[.ref p,.int r]/\ν T.Web H p m t ps rs/\(0<=r->r<m->∃par dep,ε m rs r par dep/\∀tl l H',cW m rs r par dep r=r::tl->Order m r par tl->H l=none->δ H H'->H' l=some (.lst (ZV m (Yt m rs r par dep tl)))->Q (.ref l) H')/\(¬(0<=r/\r<m)->∀H',δ H H'->E (.ref T.NoPlace) none H')
abbrev qZ:Stmt:=top 45
theorem Jr:ζ ["web","r","weights","chosen","place","front"] ["web","r"] (aJ qZ):=.of
theorem wN:ϗ (aJ qZ) "reversed":=.of (by kernel_rfl)
theorem Kr(T:Txt K mg)(hq:bU (ψ P w))(jL:Cb P w K mg base "inward" mw ["web","r"] 7 (rq T))(og:Cb P w K mg base "is_heavy" pO ["web","weights","place","front"] 5 (uE T))(f9:Cb P w K mg base "least_weights" jG ["web","r"] 8 (ms T)):Ok P w K mg base "bearers" qZ ["web","r"] 9 (Be T):=λ_ _ D=>by
 refine D.F.XQ Jr (by walk_at "v") λς A outer s H vs Q E hr h=>?_;obtain⟨p,t,m,ps,rs,r,rfl,W,k,e⟩:=h;have g:=W.go;have m1:=g.m1;have Ζ:=g.Ζ;obtain⟨dx,ob⟩:=W.ob;refine⟨_,(ao (ρ 2 (ϖ f9 hr dI (aa (γ 0) (aa (γ 1) ay)))) (ao (ρ 3 (aX pR (eC (aa AU ay)) (dB (γ 0) rfl))) (ao (eZ PassesOwn.leaving rfl (tG wN.g T.reversed (ϖ jL hr dI (aa (γ 0) (aa (γ 1) ay)))) (jo (n:=2) rfl (bW (Φ 4) (bW (Φ 5) gK))) (aL (dz (nB (ϖ og hr dI (aa (γ 0) (aa (γ 2) (aa (γ 4) (aa (γ 5) ay)))))) (aL (jW (γ 4) (mK (γ 3) (γ 5) iW))) ce))) (aL (bG (γ 3)))))),?_⟩;walk_at "s";walk_at "";refine⟨p,t,m,ps,rs,r,?_⟩;refine an4 rfl W (λr0 r1=>?_) e;obtain⟨par,dep,R,k⟩:=k r0 r1;refine⟨par,dep,R,λlw H0 nw s0 ew=>⟨bN (by simp),λl0 n0=>?_⟩⟩;have s1:=δ.new (.lst [V.ο]) n0;refine⟨T.Web,dx,_,s1 _ _ (s0 _ _ ob),T.kQ,T.ϒ,_,j7 m t,?_⟩;refine⟨l0,m,_,rfl,rfl,ax,by lia,by lia,bN (by simp;lia),λl n1=>?_⟩;rw[Av];have s2:=s1.trans (δ.new (.lst (List.replicate m.toNat V.ο)) n1);have nl:=(s0.trans s1).free n1;have nwl:lw≠l:=λz=>by rw[<-z,s1 _ _ ew]at n1;cases n1
 have el:ZV m (λ_=>none)=List.replicate m.toNat V.ο:=by
  unfold ZV;rw[List.map_const',da]
  rfl
 have e1:upd (upd H0 l0 (.lst [V.ο])) l (.lst (List.replicate m.toNat V.ο)) l=some (.lst (ZV m (Yt m rs r par dep []))):=by rw[ax,<-el];rfl
 generalize upd (upd H0 l0 (.lst [V.ο])) l (.lst (List.replicate m.toNat V.ο))=H1 at s2 e1 ⊢;have s02:=s0.trans s2;have ew1:=s2 _ _ ew;refine⟨p,t,m,ps,rs,r,?_⟩;refine an4 rfl (W.same s02) (λ_ _=>⟨par,dep,R,λl2 qs tl H2 etl n2 s3 e2 pa O=>?_⟩) (λz=>absurd ⟨r0,r1⟩ z);have nll:l2≠l:=λz=>by rw[z,e1]at n2;cases n2
 refine⟨l2,rfl,_,μ.of e2,?_⟩;have ql:qs.length=tl.reverse.length:=Paired.length pa;have ll:((cM m rs r par dep).length:Int)=m:=by rw[lS];lia
 refine qD (K:=K) (xs:=qs.map V.ref) (λi σ H3=>δ H H3/\H3 lw=some (.lst ((cM m rs r par dep).map V.int))/\H3 l2=some (.lst (qs.map V.ref))/\Α H3 par qs tl.reverse/\∃(v4 v5:Option V),H3 l=some (.lst (ZV m (Yt m rs r par dep (tl.take i))))/\σ=[some (V.ref p),some (V.int r),some (V.ref lw),some (V.ref l),v4,v5]) ⟨s02.trans s3,s3 _ _ ew1,e2,pa,_,_,s3 _ _ e1,rfl⟩ (λi σ H3 _ z=>μ.of z.2.2.1) ?_ ?_
 .rintro i x σ H3 N hN hx ⟨s4,w3,e3,ZZ,v4,v5,c3,rfl⟩;have il:=(aq.mp hx).1;rw[bj,ah]at il;rw[bj]at ql;rw[cB (by rw[ah];exact il),ah]at hx;obtain⟨q,v,rfl,Io,hv,eq⟩:=ZZ.get hx;rw[cB (by lia),show tl.length-1-(qs.length-1-i)=i by lia]at hv;have vm:=aM hv;have vr:=O.Μ v vm;have vn:=O.ne vm;have u:=R.up v vr.1 vr.2 vn;obtain⟨kk,hk,k0,k1⟩:=lY g R vr.1 vr.2 vn;have ek:tup rs par v=kk:=by unfold tup;rw[hk];rfl
  walk_at "";refine⟨_,Η.of eq,rfl,_,_,rfl,_,_,rfl,rfl,?_⟩;refine⟨p,lw,t,m,ps,rs,cM m rs r par dep,v,par v,kk,rfl,W.same s4,μ.of w3,ll,vr,u.1,hk,k1,k0,_,rfl,?_⟩;rw[fL vr.1 vr.2,fL u.1.1 u.1.2];have etk:tl.take (i+1)=tl.take i++[v]:=by rw[bL,hv];rfl
  by_cases hh:υ m rs r par dep v*kk=υ m rs r par dep (par v)
  .rw[aj (bg hh)];refine rX c3 u.1.1 (by unfold ZV;rw[ah,da];lia) ?_;rw[RE u.1.1 u.1.2];exact hN _ _ ⟨s4.put nl _,by rw[aO nwl];exact w3,by rw[aO nll];exact e3,Paired.imp' (λa b h=>by rw[aO (hW h c3 (by intro z;cases z))];exact h) ZZ,_,_,by rw[ax,etk,MG (by rw[ek];exact hh)],rfl⟩
  .rw[ag (by rw[aQ hh];decide)];exact hN _ _ ⟨s4,w3,e3,ZZ,_,_,by rw[etk,L6 (by rw[ek];exact hh)];exact c3,rfl⟩
 .rintro σ H3 ⟨s4,w3,e3,ZZ,v4,v5,c3,rfl⟩;rw[bj]at ql;rw[ah,ql,bp]at c3;walk_at "";exact k tl l H3 etl O nl s4 c3
def qg(T:Txt K mg):Sp:=λvs H Q _=>∃(a:Addr)(xs:List Int),vs=[.ref a]/\μ K H a (xs.map V.int)/\xs.length<=1000/\∀l H',H l=none->δ H H'->H' l=some (.lst ((Ϫ xs).map V.int))->Q (.ref l) H'
abbrev jM:Stmt:=top 48
theorem vF:ζ ["values","found","row"] ["values"] (aJ jM):=.of
theorem xD:Zt (aJ jM) "row":=.of (by kernel_rfl)
theorem xm:ϗ (aJ jM) "zip":=.of (by kernel_rfl)
theorem Cz(T:Txt K mg)(hq:bU (ψ P w)):Ok P w K mg base "differences" jM ["values"] 1 (qg T):=λ_ _ D=>by
 refine D.F.ϔ vF (by walk_at "v") λς A outer s H vs Q E hr h=>?_;obtain⟨a,xs,rfl,ha,xl,k⟩:=h;refine⟨_,(ao (ρ 1 (eC ay)) (ao (ρ 2 (pct nP T.list (aa (γ 0) ay))) (ao (qK PassesOwn.never (qm (γ 2) (λ_=>rfl)) (ao (dH (jI PySem.F.plainAttrs_list PySem.F.slot_list_append PySem.F.type_list_append fY (γ 1) (aa (Δ bB (γ 2) az) ay))) (aL (wc (i:=2) vF.nd rfl xD.l rfl (zX (Nc:=["earlier","later"]) 2 (by decide +kernel) (by decide +kernel) rfl (by decide +kernel) rfl) (UJ true true xm.g T.zip (aa (γ 2) (aa (vW yd (γ 2) (vA az) Cd) ay))) (λ_ _ _ _=>(Jh K rfl (n:=2) rfl (bW (fN (i:=0) (show(["earlier","later"]:List Str).Nodup from by decide +kernel) rfl (Or.inl rfl)) (bW (fN (i:=1) (show(["earlier","later"]:List Str).Nodup from by decide +kernel) rfl (Or.inl rfl)) gK)))) (λ_ _ _ _=>mS) (λ_ _ _ _=>(aX fH (pv 1) (pv 0))))))) (aL (bG (γ 1)))))),?_⟩;walk_at "s";unfold tSl Bf Xq;refine cN λN0 h0=>?_;walk_at "";refine⟨bN (by simp),λl nl=>h0 _ _ (cN λN1 h1=>?_)⟩;have s1:=δ.new (HO.lst []) nl;have e1:upd H l (HO.lst []) l=some (.lst (([]:List Int).map V.int)):=ax;generalize upd H l (HO.lst [])=H1 at s1 e1 ⊢;walk_at "";refine⟨_,.inl (s1.seq ha),λq nq=>h1 _ _ (cN λN2 h2=>?_)⟩;have s2:=δ.new (HO.lst (xs.map V.int)) nq;have e2:upd H1 q (HO.lst (xs.map V.int)) q=some (.lst (xs.map V.int)):=ax;have e12:=s2 _ _ e1;have gE:=s1.trans s2;have nlq:q≠l:=λz=>by rw[z,e1]at nq;cases nq
 generalize upd H1 q (HO.lst (xs.map V.int))=H2 at gE e2 e12 ⊢;refine vg (λn σ H3=>E3 λ(row ϕ:List Int)(q:Addr)=>n=row.length/\ϕ++Ϫ row=Ϫ xs/\ϕ.length+row.length=xs.length/\q≠l/\H3 q=some (.lst (row.map V.int))/\H3 l=some (.lst (ϕ.map V.int))/\δ H H3/\σ=[some (V.ref a),some (V.ref l),some (V.ref q)]) _ ⟨xs,[],q,rfl,rfl,by simp,nlq,e2,e12,gE,rfl⟩ ?_;rintro n σ H3 NW hN Ys ⟨row,dn,q,rfl,hd,hl,nlq,e3,e3l,s3,rfl⟩;refine⟨_,rfl,!(row.map V.int).isEmpty,.inl ⟨_,μ.of e3,rfl⟩,?_⟩;cases row with
 | nil=>
   refine Ud (h2 _ _ ?_);walk_at "";have hd:dn=Ϫ xs:=by
    have:dn++[]=Ϫ xs:=hd;rw[bX]at this;exact this
   exact k l H3 nl s3 (by rw[e3l,hd])
 | cons x r=>
   refine RY ⟨NW,Ys,?_⟩;rw[aE]at hl;refine cN λM1 k1=>?_;walk_at "";refine⟨oK e3l,Ε e3 (v:=V.int x) (cq (bA 0) rfl) (rP e3l (ff (by rw[ah];lia)) (k1 _ _ ?_))⟩;have e4:upd H3 l (HO.lst (dn.map V.int++[V.int x])) l=some (.lst ((dn++[x]).map V.int)):=by rw[ax,aD];rfl
   have e4q:upd H3 l (HO.lst (dn.map V.int++[V.int x])) q=some (.lst ((x::r).map V.int)):=by rw[aO nlq];exact e3
   have s4:δ H (upd H3 l (HO.lst (dn.map V.int++[V.int x]))):=λb o e=>by rw[aO (bQ e nl)];exact s3 _ _ e
   generalize upd H3 l (HO.lst (dn.map V.int++[V.int x]))=H4 at e4 e4q s4 ⊢;walk_at "";refine slI (μ.of e4q) λp np=>?_;have s5:=δ.new (HO.lst ((nL (x::r) (some 1) none).map V.int)) np;have e5:upd H4 p (HO.lst ((nL (x::r) (some 1) none).map V.int)) p=some (.lst (((x::r).drop 1).map V.int)):=by
    rw[ax,<-zH,Gz _ (by decide),gF]
    rfl
   generalize upd H4 p (HO.lst ((nL (x::r) (some 1) none).map V.int))=H5 at s5 e5 ⊢;have aeW:=s5 _ _ e4q;have e45:=s5 _ _ e4;have s45:=s4.trans s5;refine⟨q,p,⟨rfl,rfl⟩,⟨_,μ.of aeW⟩,⟨_,μ.of e5⟩,λpc XC=>?_⟩;refine OD (K:=K) (c:=true) (d:=true) (a:=q) (b:=p) (xs:=(x::r).map V.int) (zs:=((x::r).drop 1).map V.int) (λi bs σ H6=>δ H5 H6/\H6 pc=some (.lst bs)/\bs=((((x::r).zip ((x::r).drop 1)).take i).map λq=>q.2-q.1).map V.int/\∃v w,σ=[v,w]) ⟨δ.new _ XC,ax,rfl,_,_,rfl⟩ (λi bs σ H6 z=>⟨μ.of (z.1 _ _ aeW),μ.of (z.1 _ _ e5)⟩) ?_ ?_
   .rintro i y1 y2 bs σ H6 qt N hN6 h1 h2 ⟨s6,e6,rfl,v,w,rfl⟩ nqt;obtain⟨a1,ha1,rfl⟩:=List.ι h1;obtain⟨a2,ha2,rfl⟩:=List.ι h2;have ez:((x::r).zip ((x::r).drop 1))[i]?=some (a1,a2):=by
     rw[List.getElem?_zip_eq_some];exact⟨ha1,ha2⟩
    have il:=(aq.mp ha1).1;have et:((x::r).zip ((x::r).drop 1)).take (i+1)=((x::r).zip ((x::r).drop 1)).take i++[(a1,a2)]:=(by rw[bL,ez];rfl);rw[aE]at il;walk_at "";have s7:=δ.new (HO.tup [V.int a1,V.int a2]) nqt;refine⟨_,Η.of ax,rfl,_,_,rfl,_,_,rfl,rfl,?_⟩;walk_at "";refine⟨s7 _ _ e6,ff (by rw[ah,ah,bd];lia),hN6 _ _ _ ⟨?_,ax,?_,_,_,rfl⟩⟩
    .exact λb o e=>by rw[aO (bQ e XC)];exact s7 _ _ (s6 _ _ e)
    .rw[et,aD,aD]
     rfl
   .rintro bs σ H6 ⟨s6,e6,rfl,v,w,rfl⟩;have en:((((x::r).zip ((x::r).drop 1)).take (min ((x::r).map V.int).length (((x::r).drop 1).map V.int).length)).map λq=>q.2-q.1)=nxr (x::r):=by
     unfold nxr;rw[dh];rw[lC,ah,ah];exact aA _
    rw[en]at e6;have nl5:H5 l≠none:=(by rw[e45];intro z;cases z);exact hN _ _ _ (by rw[yi];simp) ⟨nxr (x::r),dn++[x],pc,rfl,by rw[cU,<-hd,Gf];rfl,by rw[aP,yi];simp;lia,λz=>nl5 (by rw[<-z];exact XC),e6,s6 _ _ e45,s45.trans s6,rfl⟩
def ko(T:Txt K mg):Sp:=λvs H Q _=>E3 λ(a:Addr)(cs:List Int)(n:Int)=>vs=[.ref a,.int n]/\μ K H a (cs.map V.int)/\cs.length<=100/\-100<=n/\n.natAbs<ϣ/\(∀c∈cs,c.natAbs<ϣ)/\(∀k,k<cs.length->(ZX n k).natAbs<ϣ)/\∀H',δ H H'->Q (.int (Zv cs n 0)) H'
abbrev gX:Stmt:=top 49
theorem yM:ζ ["found","at","value","choices","k","difference"] ["found","at"] (aJ gX):=.of
theorem yF:Zt (aJ gX) "value":=.of (by kernel_rfl)
theorem vD:ϗ (aJ gX) "enumerate":=.of (by kernel_rfl)
theorem G7(T:Txt K mg)(hq:bU (ψ P w)):Ok P w K mg base "value_at" gX ["found","at"] 1 (ko T):=λ_ _ D=>by
 refine D.F.ϔ yM (by walk_at "v") λς A outer s H vs Q E hr h=>?_;obtain⟨a,cs,n,rfl,ha,cl,apP,nb,cb,hb,k⟩:=h;refine⟨_,(ao (ρ 2 az) (ao (ρ 3 az) (ao (eZ PassesOwn.never rfl (xY true vD.g T.enumerate (γ 0)) (jo (n:=2) rfl (bW (Φ 4) (bW (Φ 5) gK))) (ao (tj (i:=2) yM.nd rfl (Or.inl yF.l) (aX mR (γ 5) (γ 3)) xQ) (aL (ρ 3 (aX eG (aX mR (γ 3) (aX fH (γ 1) (γ 4))) (aX dN (γ 4) az)))))) (aL (bG (γ 2)))))),?_⟩;walk_at "s";walk_at "";refine⟨⟨_,ha⟩,?_⟩;refine zK (K:=K) (c:=true) (xs:=cs.map V.int) (λi σ H2=>δ H H2/\∃v4 v5,σ=[some (V.ref a),some (V.int n),some (V.int (Zv (cs.take i) n 0)),some (V.int (ZX n i)),v4,v5]) ⟨δ.refl _,_,_,by rw[OB,d6,yg]⟩ (λi σ H2 z=>z.1.seq ha) ?_ ?_
 .rintro i x σ H2 q N hN hx ⟨s2,v4,v5,rfl⟩ nq;obtain⟨c,hc,rfl⟩:=List.ι hx;have il:=(aq.mp hc).1;have et:cs.take (i+1)=cs.take i++[c]:=by rw[bL,hc];rfl
  have s3:=δ.new (HO.tup [V.int (i:Int),V.int c]) nq;have cc:=cb c (aM hc);have hci:=hb i il;have ni:(n-(i:Int)).natAbs<ϣ:=by
   have:(200:Nat)<ϣ:=gP (k:=8) (by decide) (by decide)
   lia
  walk_at "";refine⟨_,Η.of ax,rfl,_,_,rfl,_,_,rfl,rfl,c,rfl,qB cc hci,(i:Int),rfl,qB hci ni,(i:Int),rfl,⟨by lia,by lia⟩,hN _ _ ⟨s2.trans s3,some (V.int (i:Int)),some (V.int c),?_⟩⟩;rw[<-OE,Int.mul_ediv_cancel _ (show(i:Int)+1≠0 by lia),et,Pn,bd,Nat.min_eq_left (by lia),Nat.zero_add]
 .rintro σ H2 ⟨s2,v4,v5,rfl⟩;rw[ah,bp];walk_at "";exact k H2 s2
def ui(T:Txt K mg):Sp:=λvs H Q _=>E3 λ(a:Addr)(cs:List Int)(n:Nat)=>vs=[.ref a,.int n]/\μ K H a (cs.map V.int)/\cs.length<=100/\n<=100/\(∀c∈cs,c.natAbs<ϣ)/\∀l H',H l=none->δ H H'->H' l=some (.lst (((List.range n).map λi=>ϊ cs i 0).map V.int))->Q (.ref l) H'
abbrev md:Stmt:=top 50
theorem AR:ζ ["found","many"] ["found","many"] (aJ md):=.of
theorem u7:ϗ (aJ md) "range":=.of (by kernel_rfl)
theorem BN(T:Txt K mg)(hq:bU (ψ P w))(dy:Cb P w K mg base "value_at" gX ["found","at"] 1 (ko T)):Ok P w K mg base "first_values" md ["found","many"] 2 (ui T):=λ_ _ D=>by
 refine D.F.ϔ AR (by walk_at "v") λς A outer s H vs Q E hr h=>?_;obtain⟨a,cs,n,rfl,ha,cl,nb,cb,k⟩:=h;refine⟨_,(aL (bG (kN rfl (ZY ["at","found"] 1 [0]) (kZ u7.g T.range (aa (γ 1) ay)) (λ_ _ _ _=>(fN (i:=0) (show(["at","found"]:List Str).Nodup from by decide +kernel) rfl (Or.inl rfl))) (λ_ _ _ _=>mS) (λ_ _ _ _=>(sM dy.G (hr.mono (by decide)) (by rfl) dy.D.m dy.D.F.kp dy.D.b .nil (yf hq) (aa (pv 1) (aa (pv 0) ay))))))),?_⟩;walk_at "s";walk_at "";refine⟨by lia,by lia,λp np=>?_⟩;rw[bD];refine pZ (lo:=0) (n:=n) (λi ys σ H2=>δ H H2/\H2 p=some (.lst ys)/\ys=((List.range i).map λi=>ϊ cs i 0).map V.int/\∃v,σ=[v,some (V.ref a)]) ⟨δ.new _ np,ax,rfl,_,rfl⟩ ?_ ?_
 .rintro i ys σ H2 N hN hi ⟨s2,e2,rfl,v,rfl⟩;walk_at "";refine⟨a,cs,(i:Nat),by rw[dq],s2.seq ha,cl,by lia,?_,cb,λk _=>(show ch i k<ϣ from UD (by lia)),λH3 s3=>⟨s3 _ _ e2,ff (by rw[ah,ah,bC];lia),hN _ _ _ ⟨?_,ax,?_,_,rfl⟩⟩⟩
  .exact(show i<ϣ from gP (k:=7) (by lia) (by decide))
  .exact λb o e=>by rw[aO (bQ e np)];exact s3 _ _ (s2 _ _ e)
  .rw[cZ,aD,aD]
   rfl
 .rintro ys σ H2 ⟨s2,e2,rfl,v,rfl⟩;exact k p H2 np s2 e2
def sE(T:Txt K mg):Sp:=λvs H Q _=>E16 λ(t dx w tw lw lb:Addr)(fs:List (Str×V))(m:Int)(ps:List Addr)(rs:List Road)(xs:List Int)(cv:List V)(p k c:Int)(ob:Option Int)=>vs=[.ref t,.int p,.int k]/\H t=some (.ins T.Tally dx fs)/\fs.lookup ("web":Str)=some (.ref w)/\fs.lookup ("weights":Str)=some (.ref lw)/\fs.lookup ("bearers":Str)=some (.ref lb)/\ν T.Web H w m tw ps rs/\H lw=some (.lst (xs.map V.int))/\(xs.length:Int)=m/\H lb=some (.lst cv)/\(0<=p/\p<m)/\(0<=k/\k<m)/\cv[p.toNat]?=some (ZN ob)/\cX rs k p=some c/\2<=c/\c<=1000000/\Q (.bl (decide (xs.getD k.toNat 0*c=xs.getD p.toNat 0)&&decide (ob≠some k))) H
abbrev pf:Stmt:=top 62
theorem JZ:ζ ["tally","place","kid"] ["tally","place","kid"] (aJ pf):=.of
theorem KB(T:Txt K mg)(hq:bU (ψ P w))(og:Cb P w K mg base "is_heavy" pO ["web","weights","place","front"] 5 (uE T)):Ok P w K mg base "is_free" pf ["tally","place","kid"] 6 (sE T):=λ_ _ D=>by
 refine D.F.ϔ JZ (by walk_at "v") λς A outer s H vs Q E hr h=>?_;obtain⟨t,dx,w,tw,lw,lb,fs,m,ps,rs,xs,cv,p,k,c,ob,rfl,ht,fw,fg,fb,W,ew,wl,eb,hp,hk,hc,ec,c2,c1,q⟩:=h;refine⟨_,(aL (bG (FW (Θ og hr hq (aa (dB (γ 0) rfl) (aa (dB (γ 0) rfl) (aa (γ 2) (aa (γ 1) ay))))) (GB (qJ sG (γ 2) (Δ bB (dB (γ 0) rfl) (γ 1)) (oC _)))))),?_⟩;walk_at "s";walk_at "";refine⟨T.Tally,dx,fs,ht,T.cQ,T.As,_,fw,T.Tally,dx,fs,ht,T.cQ,T.X4,_,fg,w,lw,tw,m,ps,rs,xs,k,p,c,rfl,W,μ.of ew,wl,hk,hp,ec,c1,c2,⟨_,rfl,?_⟩⟩;by_cases hv:xs.getD k.toNat 0*c=xs.getD p.toNat 0
 .rw[aj (bg hv)];refine⟨T.Tally,dx,fs,ht,T.cQ,T.ul,_,fb,Ε eb (cq hp.1 hc) ⟨?_,?_⟩⟩
  .cases ob<;>rfl
  .have e:(!decide (V.int k=ZN ob))=(decide (xs.getD k.toNat 0*c=xs.getD p.toNat 0)&&decide (ob≠some k)):=by
    rw[bg hv,iT];cases ob with
    | none=>simp[ZN]
    | some j=>
      by_cases z:j=k
      .subst z;simp[ZN]
      .simp[ZN,z,Ne.symm z]
   rw[e];exact q
 .rw[ag (by rw[bK];exact hv)];rw[aQ hv,iV]at q;exact q
def xO(T:Txt K mg):Sp:=λvs H Q _=>E5 λ(a b:Addr)(xs ys:List Int)(n:Nat)=>vs=[.ref a,.ref b,.int n]/\μ K H a (xs.map V.int)/\μ K H b (ys.map V.int)/\n<xs.length/\n<ys.length/\n<=100/\(∀c∈xs,c.natAbs<ϣ)/\(∀c∈ys,c.natAbs<ϣ)/\∀H',δ H H'->Q (.int (Ye (λi=>xs.getD i 0) (λi=>ys.getD i 0) n)) H'
abbrev oF:Stmt:=top 52
theorem Gw:ζ ["one","other","at"] ["one","other","at"] (aJ oF):=.of
theorem xR:ϗ (aJ oF) "range":=.of (by kernel_rfl)
theorem FU(T:Txt K mg)(hq:bU (ψ P w)):Ok P w K mg base "parted_at" oF ["one","other","at"] 1 (xO T):=λ_ _ D=>by
 refine D.F.ϔ Gw (by walk_at "v") λς A outer s H vs Q E hr h=>?_;obtain⟨a,b,xs,ys,n,rfl,ha,hb,nx,ny,n1,cx,cy,k⟩:=h;refine⟨_,(aL (bG (dO (ES rfl) T.sum (aa (kN rfl (ZY ["k","one","other","at"] 1 [0,1,2]) (kZ xR.g T.range (aa (aX dN (ϲ 2) az) ay)) (λ_ _ _ _=>(fN (i:=0) (show(["k","one","other","at"]:List Str).Nodup from by decide +kernel) rfl (Or.inl rfl))) (λ_ _ _ _=>mS) (λ_ _ _ _=>(aX mR (Δ (mE K rfl) (pv 1) (pv 0)) (Δ (mE K rfl) (pv 2) (aX fH (pv 3) (pv 0)))))) ay)))),?_⟩;walk_at "s";walk_at "";refine⟨by lia,by lia,λp np=>?_⟩;rw[show((n:Int)+1).toNat=n+1 by lia];refine pZ (lo:=0) (n:=n+1) (λi zs σ H2=>δ H H2/\H2 p=some (.lst zs)/\zs=((List.range i).map λk=>xs.getD k 0*ys.getD (n-k) 0).map V.int/\∃v,σ=[v,some (V.ref a),some (V.ref b),some (V.int n)]) ⟨δ.new _ np,ax,rfl,_,rfl⟩ ?_ ?_
 .rintro i zs σ H2 N hN hi ⟨s2,e2,rfl,v,rfl⟩;walk_at "";have ix:i<xs.length:=by lia
  have iy:n-i<ys.length:=by lia
  have ex:xs.getD i 0=xs[i]:=by rw[cf,ap ix];rfl
  have ey:ys.getD (n-i) 0=ys[n-i]:=by rw[cf,ap iy];rfl
  refine⟨a,_,_,_,rfl,rfl,s2.seq ha,cq (v:=V.int (xs.getD i 0)) (by lia) (by rw[show((0:Int)+(i:Int)).toNat=i by lia,aF,ap ix,ex];rfl),b,_,_,_,rfl,rfl,s2.seq hb,cq (v:=V.int (ys.getD (n-i) 0)) (by lia) (by rw[show((n:Int)-(0+(i:Int))).toNat=n-i by lia,aF,ap iy,ey];rfl),xs.getD i 0,rfl,ys.getD (n-i) 0,rfl,qB (by rw[ex];exact cx _ (ee ix)) (by rw[ey];exact cy _ (ee iy)),e2,ff (by rw[ah,ah,bC];lia),hN _ _ _ ⟨?_,ax,?_,_,rfl⟩⟩
  .exact λb o e=>by rw[aO (bQ e np)];exact s2 _ _ e
  .rw[cZ,aD,aD]
   rfl
 .rintro zs σ H2 ⟨s2,e2,rfl,v,rfl⟩;refine⟨p,rfl,_,.inl (μ.of e2),?_⟩;rw[IX];exact k H2 s2
def DH(T:Txt K mg):Sp:=λvs H Q _=>E4 λ(a b:Addr)(xs ys:List Int)=>vs=[.ref a,.ref b]/\μ K H a (xs.map V.int)/\μ K H b (ys.map V.int)/\xs.length<=ys.length/\xs.length<=100/\(∀c∈xs,c.natAbs<ϣ)/\(∀c∈ys,c.natAbs<ϣ)/\∀l H',H l=none->δ H H'->H' l=some (.lst (((List.range xs.length).map λn=>Ye (λi=>xs.getD i 0) (λi=>ys.getD i 0) n).map V.int))->Q (.ref l) H'
abbrev tE:Stmt:=top 51
theorem MF:ζ ["one","other"] ["one","other"] (aJ tE):=.of
theorem Br:ϗ (aJ tE) "range":=.of (by kernel_rfl)
theorem ML(T:Txt K mg)(hq:bU (ψ P w))(mQ:Cb P w K mg base "parted_at" oF ["one","other","at"] 1 (xO T)):Ok P w K mg base "parted" tE ["one","other"] 2 (DH T):=λ_ _ D=>by
 refine D.F.ϔ MF (by walk_at "v") λς A outer s H vs Q E hr h=>?_;obtain⟨a,b,xs,ys,rfl,ha,hb,xy,x1,cx,cy,k⟩:=h;refine⟨_,(aL (bG (kN rfl (ZY ["at","one","other"] 1 [0,1]) (kZ Br.g T.range (aa (dO gO T.len (aa (ϲ 0) ay)) ay)) (λ_ _ _ _=>(fN (i:=0) (show(["at","one","other"]:List Str).Nodup from by decide +kernel) rfl (Or.inl rfl))) (λ_ _ _ _=>mS) (λ_ _ _ _=>(sM mQ.G (hr.mono (by decide)) (by rfl) mQ.D.m mQ.D.F.kp mQ.D.b .nil (yf hq) (aa (pv 1) (aa (pv 2) (aa (pv 0) ay)))))))),?_⟩;walk_at "s";walk_at "";refine⟨_,.inl ha,?_⟩;rw[ah];refine⟨by lia,by lia,λp np=>?_⟩;rw[bD];refine pZ (lo:=0) (n:=xs.length) (λi zs σ H2=>δ H H2/\H2 p=some (.lst zs)/\zs=((List.range i).map λn=>Ye (λi=>xs.getD i 0) (λi=>ys.getD i 0) n).map V.int/\∃v,σ=[v,some (V.ref a),some (V.ref b)]) ⟨δ.new _ np,ax,rfl,_,rfl⟩ ?_ ?_
 .rintro i zs σ H2 N hN hi ⟨s2,e2,rfl,v,rfl⟩;walk_at "";refine⟨a,b,xs,ys,i,by rw[dq],s2.seq ha,s2.seq hb,hi,by lia,by lia,cx,cy,λH3 s3=>⟨s3 _ _ e2,ff (by rw[ah,ah,bC];lia),hN _ _ _ ⟨?_,ax,?_,_,rfl⟩⟩⟩
  .exact λb o e=>by rw[aO (bQ e np)];exact s3 _ _ (s2 _ _ e)
  .rw[cZ,aD,aD]
   rfl
 .rintro zs σ H2 ⟨s2,e2,rfl,v,rfl⟩;exact k p H2 np s2 e2
def qR(T:Txt K mg):Sp:=λvs H Q _=>E12 λ(t dx w tw:Addr)(fs:List (Str×V))(m:Int)(ps:List Addr)(rs:List Road)(p k c:Int)(n:Nat)=>vs=[.ref t,.int p,.int k,.int n]/\H t=some (.ins T.Tally dx fs)/\fs.lookup ("web":Str)=some (.ref w)/\ν T.Web H w m tw ps rs/\(0<=p/\p<m)/\(0<=k/\k<m)/\cX rs k p=some c/\2<=c/\c<=1000000/\Q (.int (((n:Int)+1)*c-1)) H
abbrev pB:Stmt:=top 65
theorem HE:ζ ["tally","place","kid","given"] ["tally","place","kid","given"] (aJ pB):=.of
theorem HY(T:Txt K mg)(hq:bU (ψ P w))(kD:Cb P w K mg base "toll" qc ["web","a","b"] 3 (sN T)):Ok P w K mg base "held_for" pB ["tally","place","kid","given"] 4 (qR T):=λ_ _ D=>by
 refine D.F.ϔ HE (by walk_at "v") λς A outer s H vs Q E hr h=>?_;obtain⟨t,dx,w,tw,fs,m,ps,rs,p,k,c,n,rfl,ht,fw,W,hp,hk,hc,c2,c1,q⟩:=h;refine⟨_,(aL (bG (aX fH (aX kH (aX dN (γ 3) az) (Θ kD hr hq (aa (dB (γ 0) rfl) (aa (γ 2) (aa (γ 1) ay))))) az))),?_⟩;walk_at "s";walk_at "";refine⟨T.Tally,dx,fs,ht,T.cQ,T.As,_,fw,w,tw,m,ps,rs,k,p,rfl,W,λc' _ _ _ _ ZE=>?_,λno=>absurd ⟨hk,hp⟩ no,λ_ _ _ _ ZE=>absurd (hc.symm.trans ZE) (by intro z;cases z)⟩;have:c'=c:=bq (ZE.symm.trans hc);subst this;exact⟨c',rfl,.inr ⟨by lia,by lia⟩,q⟩
def sx(T:Txt K mg):Sp:=λvs H Q _=>E11 λ(t dx lr lp ld:Addr)(fs:List (Str×V))(rv pv:List V)(p:Int)(cs:List Int)(n:Nat)=>vs=[.ref t,.int p,.int n]/\H t=some (.ins T.Tally dx fs)/\fs.lookup ("rests":Str)=some (.ref lr)/\H lr=some (.lst rv)/\0<=p/\rv[p.toNat]?=some (.ref lp)/\H lp=some (.lst (.ref ld::pv))/\H ld=some (.lst (cs.map V.int))/\cs.length<=100/\n<ϣ/\(∀c∈cs,c.natAbs<ϣ)/\(∀k,k<cs.length->ch n k<ϣ)/\∀H',δ H H'->Q (.int (ϊ cs n 0)) H'
abbrev pj:Stmt:=top 63
theorem JB:ζ ["tally","place","held"] ["tally","place","held"] (aJ pj):=.of
theorem KF(T:Txt K mg)(hq:bU (ψ P w))(dy:Cb P w K mg base "value_at" gX ["found","at"] 1 (ko T)):Ok P w K mg base "ways_of" pj ["tally","place","held"] 2 (sx T):=λ_ _ D=>by
 refine D.F.ϔ JB (by walk_at "v") λς A outer s H vs Q E hr h=>?_;obtain⟨t,dx,lr,lp,ld,fs,rv,pv,p,cs,n,rfl,ht,fr,er,p0,hp,ep,ed,cl,nb,cb,hb,k⟩:=h;refine⟨_,(aL (bG (Θ dy hr hq (aa (Δ bB (iL bB (dB (γ 0) rfl) (γ 1) (λ_ _=>rfl)) az) (aa (γ 2) ay))))),?_⟩;walk_at "s";walk_at "";refine⟨T.Tally,dx,fs,ht,T.cQ,T.ϫ,_,fr,Ε er (cq p0 hp) (Ε ep (cq (bA 0) rfl) ?_)⟩;exact⟨ld,cs,n,rfl,μ.of ed,cl,by lia,nb,cb,hb,k⟩
def rM(T:Txt K mg):Sp:=λvs H Q _=>E18 λ(t dx w tw lr lp ld:Addr)(fs:List (Str×V))(m:Int)(ps:List Addr)(rs:List Road)(rv pv:List V)(p k:Int)(c n:Nat)(cs:List Int)=>vs=[.ref t,.int p,.int k,.int n]/\H t=some (.ins T.Tally dx fs)/\fs.lookup ("web":Str)=some (.ref w)/\fs.lookup ("rests":Str)=some (.ref lr)/\ν T.Web H w m tw ps rs/\(0<=p/\p<m)/\(0<=k/\k<m)/\cX rs k p=some (c:Int)/\2<=c/\c<=1000000/\H lr=some (.lst rv)/\rv[k.toNat]?=some (.ref lp)/\H lp=some (.lst (.ref ld::pv))/\H ld=some (.lst (cs.map V.int))/\cs.length<=24/\n<=24/\(∀c∈cs,c.natAbs<ϣ)/\∀H',δ H H'->Q (.int (ϊ cs (Β c n) 0)) H'
abbrev nC:Stmt:=top 64
theorem DY:ζ ["tally","place","kid","given"] ["tally","place","kid","given"] (aJ nC):=.of
theorem El(T:Txt K mg)(hq:bU (ψ P w))(nZ:Cb P w K mg base "held_for" pB ["tally","place","kid","given"] 4 (qR T))(kW:Cb P w K mg base "ways_of" pj ["tally","place","held"] 2 (sx T)):Ok P w K mg base "ways_given" nC ["tally","place","kid","given"] 5 (rM T):=λ_ _ D=>by
 refine D.F.ϔ DY (by walk_at "v") λς A outer s H vs Q E hr h=>?_;obtain⟨t,dx,w,tw,lr,lp,ld,fs,m,ps,rs,rv,pv,p,k,c,n,cs,rfl,ht,fw,fr,W,hp,hk,hc,c2,c1,er,hkr,ep,ed,cl,n24,cb,q⟩:=h;refine⟨_,(aL (bG (Θ kW hr hq (aa (γ 0) (aa (γ 2) (aa (Θ nZ hr hq (aa (γ 0) (aa (γ 1) (aa (γ 2) (aa (γ 3) ay))))) ay)))))),?_⟩;walk_at "s";walk_at "";have e:((n:Int)+1)*(c:Int)-1=((Β c n:Nat):Int):=by
  unfold Β;have:1<=(n+1)*c:=bZ (show 1<=n+1 by lia) (show 1<=c by lia);rw[lZ this,jK]
  rfl
 have hb:Β c n+1<=2^25:=by
  unfold Β;have h1:(n+1)*c<=25*1000000:=bZ (by lia) c1;have h2:(2:Nat)^25=33554432:=rfl
  lia
 refine⟨t,dx,w,tw,fs,m,ps,rs,p,k,c,n,rfl,ht,fw,W,hp,hk,hc,by lia,by lia,?_⟩;rw[e];exact⟨t,dx,lr,lp,ld,fs,rv,pv,k,cs,Β c n,rfl,ht,fr,er,hk.1,hkr,ep,ed,by lia,gP (k:=25) (by lia) (by decide),cb,λj hj=>Ci hb (by lia),q⟩
def tW(H:Hp)(b:List Int->Nat)(f:List Int->Nat->Int)(ϩ:List Addr)(kss:List (List Int)):Prop:=Paired (λld ks=>∃cs:List Int,H ld=some (.lst (cs.map V.int))/\ϑ (b ks) cs (f ks)) ϩ kss
structure adg(H:Hp)(rs:List Road)(m p:Int)(rv:List V)(W:Int->Nat->Int)(c d:Int->Nat)(k:Int):Prop where
 k0:0<=k
 k1:k<m
 tl:cX rs k p=some (c k:Int)
 c2:2<=c k
 c1:c k<=1000000
 wk:uv (d k) (W k)
 at_:E4 λ(lp ld:Addr)(pv:List V)(cs:List Int)=>rv[k.toNat]?=some (.ref lp)/\H lp=some (.lst (.ref ld::pv))/\H ld=some (.lst (cs.map V.int))/\ϑ 15000 cs (W k)
def frK(xs:List Int)(ob:Option Int)(c:Int->Nat)(p k:Int):Bool:=decide (xs.getD k.toNat 0*(c k:Int)=xs.getD p.toNat 0)&&decide (ob≠some k)
def beK(ob:Option Int)(k:Int):Bool:=decide (ob=some k)
def zb(T:Txt K mg):Sp:=λvs H Q _=>E23 λ(t dx w tw lw lb lk lr ϵ:Addr)(fs:List (Str×V))(m:Int)(ps:List Addr)(rs:List Road)(xs:List Int)(cv kv rv:List V)(p:Int)(ks:List Int)(ob:Option Int)(W:Int->Nat->Int)(c d:Int->Nat)=>vs=[.ref t,.int p]/\H t=some (.ins T.Tally dx fs)/\fs.lookup ("web":Str)=some (.ref w)/\fs.lookup ("weights":Str)=some (.ref lw)/\fs.lookup ("bearers":Str)=some (.ref lb)/\fs.lookup ("kids":Str)=some (.ref lk)/\fs.lookup ("rests":Str)=some (.ref lr)/\ν T.Web H w m tw ps rs/\H lw=some (.lst (xs.map V.int))/\(xs.length:Int)=m/\H lb=some (.lst cv)/\H lk=some (.lst kv)/\H lr=some (.lst rv)/\(0<=p/\p<m)/\cv[p.toNat]?=some (ZN ob)/\kv[p.toNat]?=some (.ref ϵ)/\H ϵ=some (.lst (ks.map V.int))/\(∀k∈ks,adg H rs m p rv W c d k)/\((ks.map λk=>d k+1).sum:Int)<m/\∀l ϩ H',H l=none->δ H H'->H' l=some (.lst (ϩ.map V.ref))->tW H' (Yg d) (ϐ (frK xs ob c p) (beK ob) (λk g=>W k (Β (c k) g))) ϩ (ZO ks)->Q (.ref l) H'
abbrev jc:Stmt:=top 61
theorem qW:ζ ["tally","place","many","rests","kid","ways"] ["tally","place"] (aJ jc):=.of
theorem yz:ZU (aJ jc) "rests":=.of (by kernel_rfl)
theorem AD:ZU (aJ jc) "kid":=.of (by kernel_rfl)
theorem Aj:ZU (aJ jc) "ways":=.of (by kernel_rfl)
theorem pY:ϗ (aJ jc) "reversed":=.of (by kernel_rfl)
theorem yx:ϗ (aJ jc) "range":=.of (by kernel_rfl)
theorem zF:ϗ (aJ jc) "list":=.of (by kernel_rfl)
theorem Hm(T:Txt K mg)(hq:bU (ψ P w))(jP:Cb P w K mg base "differences" jM ["values"] 1 (qg T))(qA:Cb P w K mg base "first_values" md ["found","many"] 2 (ui T))(kU:Cb P w K mg base "is_free" pf ["tally","place","kid"] 6 (sE T))(zj:Cb P w K mg base "parted" tE ["one","other"] 2 (DH T))(ic:Cb P w K mg base "ways_given" nC ["tally","place","kid","given"] 5 (rM T)):Ok P w K mg base "rests_of" jc ["tally","place"] 7 (zb T):=λ_ _ D=>by
 refine D.F.ϔ qW (by walk_at "v") λς A outer s H vs Q E hr h=>?_;obtain⟨t,dx,w,tw,lw,lb,lk,lr,ϵ,fs,m,ps,rs,xs,cv,kv,rv,p,ks,ob,W,c,d,rfl,ht,fw,fg,fb,fk,fr,WA,eg,xl,eb,ek,er0,hp,hcv,Yv,ekp,hks,dm,q⟩:=h;refine⟨_,(ao (ρ 2 (dB (dB (ϲ 0) rfl) rfl)) (ao (xK (i:=3) qW.nd rfl (Or.inr yz.l) (eC (aa (eC (aa az ay)) ay))) (ao (eZ PassesOwn.never rfl (tG pY.g T.reversed (Δ bB (dB (ϲ 0) rfl) (ϲ 1))) (fN (i:=4) qW.nd rfl (Or.inr AD.l)) (ao (xK (i:=5) qW.nd rfl (Or.inr Aj.l) (kN rfl (ZY ["given","tally","place","kid"] 1 [0,1,4]) (kZ yx.g T.range (aa (γ 2) ay)) (λ_ _ _ _=>(fN (i:=0) (show(["given","tally","place","kid"]:List Str).Nodup from by decide +kernel) rfl (Or.inl rfl))) (λ_ _ _ _=>mS) (λ_ _ _ _=>(sM ic.G (hr.mono (by decide)) (by rfl) ic.D.m ic.D.F.kp ic.D.b .nil (yf hq) (aa (pv 1) (aa (pv 2) (aa (pv 3) (aa (pv 0) ay)))))))) (aL (dz (nB (Θ kU hr hq (aa (ϲ 0) (aa (ϲ 1) (aa (ϲ 4) ay))))) (aL (dH (jI PySem.F.plainAttrs_list PySem.F.slot_list_append PySem.F.type_list_append fY (ϲ 3) (aa (Θ jP hr hq (aa (Θ zj hr hq (aa (ϲ 5) (aa (Θ qA hr hq (aa (Δ bB (ϲ 3) (qM oB az)) (aa (γ 2) ay))) ay))) ay)) ay)))) (aL (dz (ό gc (ϲ 4) (Δ bB (dB (ϲ 0) rfl) (ϲ 1))) (aL (dH (jI PySem.F.plainAttrs_list PySem.F.slot_list_append PySem.F.type_list_append fY (ϲ 3) (aa (Θ jP hr hq (aa (kN rfl (ZY ["count","rests"] 1 [3]) (hG (ϲ 5)) (λ_ _ _ _=>(fN (i:=0) (show(["count","rests"]:List Str).Nodup from by decide +kernel) rfl (Or.inl rfl))) (λ_ _ _ _=>mS) (λ_ _ _ _=>(aX mR (pv 0) (Δ (mE K rfl) (iL (mE K rfl) (pv 1) (qM oB az) (λ_ _=>rfl)) az)))) ay)) ay)))) (aL (dH (jI PySem.F.plainAttrs_list PySem.F.slot_list_append PySem.F.type_list_append fY (ϲ 3) (aa (kN rfl (ZY ["difference","ways"] 1 [5]) (hG (Δ bB (ϲ 3) (qM oB az))) (λ_ _ _ _=>(fN (i:=0) (show(["difference","ways"]:List Str).Nodup from by decide +kernel) rfl (Or.inl rfl))) (λ_ _ _ _=>mS) (λ_ _ _ _=>(aX mR (Δ (mE K rfl) (pv 1) az) (pv 0)))) ay)))))))))) (aL (bG (RG rfl pY.g T.reversed zF.g T.list (ϲ 3))))))),?_⟩;walk_at "s";obtain⟨dw,wb⟩:=WA.ob;refine cN λN0 h0=>?_;walk_at "";refine⟨T.Tally,dx,fs,ht,T.cQ,T.As,_,fw,w,rfl,T.Web,dw,_,wb,T.kQ,T.ϒ,_,j7 _ _,h0 _ _ (cN λN1 h1=>?_)⟩;walk_at "";refine⟨bN (by simp),λq1 nq1=>⟨bN (by simp),λl nl=>h1 _ _ (cN λN2 h2=>?_)⟩⟩;have s1:=δ.new (HO.lst [V.int 1]) nq1;have s2:=δ.new (HO.lst [V.ref q1]) nl;have nl0:H l=none:=s1.free nl;have e1:=s2 _ _ (ax (H:=H) (a:=q1) (o:=HO.lst [V.int 1]));have el:upd (upd H q1 (HO.lst [V.int 1])) l (HO.lst [V.ref q1]) l=some (.lst ([q1].map V.ref)):=ax;have gE:=s1.trans s2;generalize upd (upd H q1 (HO.lst [V.int 1])) l (HO.lst [V.ref q1])=H2 at e1 el gE ⊢;clear s1 s2 nl nq1 h0 h1;walk_at "";have g:=WA.go;have m1:=g.m1;have Ζ:=g.Ζ;refine⟨T.Tally,dx,fs,gE _ _ ht,T.cQ,T.rC,_,fk,Ε (gE _ _ ek) (cq hp.1 Yv) ⟨ϵ,rfl,_,μ.of (gE _ _ ekp),?_⟩⟩;generalize hF:ϐ (frK xs ob c p) (beK ob) (λk g=>W k (Β (c k) g))=F at q;have hwo:∀k∈ks,uv (d k) (W k):=λk hk=>(hks k hk).wk;have hco:∀k∈ks,1<=c k/\c k<=1000000:=λk hk=>⟨aU (by decide) (hks k hk).c2,(hks k hk).c1⟩;refine qD (K:=K) (xs:=ks.map V.int) (λi σ H3=>δ H H3/\(∃(ϩ:List Addr)(ld:Addr),H3 l=some (.lst ((ϩ++[ld]).map V.ref))/\tW H3 (Yg d) F (ϩ++[ld]) ((List.range (i+1)).map λj=>ks.drop (ks.length-j)))/\∃v4 v5,σ=[some (V.ref t),some (V.int p),some (V.int m),some (V.ref l),v4,v5]) ?_ (λi σ H3 _ z=>μ.of (z.1 _ _ ekp)) ?_ ?_
 .refine⟨gE,⟨[],q1,el,.cons ⟨[1],e1,?_⟩ .nil⟩,_,_,rfl⟩;have e:ks.drop (ks.length-0)=[]:=by rw[kK,jd]
  show ϑ (Yg d (ks.drop (ks.length-0))) [1] (F (ks.drop (ks.length-0)));rw[e,<-hF];exact ϑ.one
 .rintro i x σ H3 N hN hx ⟨s3,⟨ϩ,ld,e3,ra⟩,v4,v5,rfl⟩;rw[<-eV]at hx;obtain⟨k,hk,rfl⟩:=List.ι hx;have il:i<ks.length:=by
   have:=(aq.mp hk).1;rw[bj]at this;exact this
  have hk':ks[ks.length-1-i]?=some k:=by
   rw[cB il]at hk;exact hk
  have eS:ks.drop (ks.length-(i+1))=k::ks.drop (ks.length-i):=by
   rw[show ks.length-(i+1)=ks.length-1-i by lia,eO (by lia),(aq.mp hk').2,show ks.length-1-i+1=ks.length-i by lia]
  have km:=aM hk';have tk:=hks k km;obtain⟨kp,kd,pv,cs,k1',k2,k3,kc⟩:=tk.at_;have sub:∀x∈k::ks.drop (ks.length-i),x∈ks:=λx hx=>by
   rw[<-eS]at hx;exact cI hx
  have dS:((k::ks.drop (ks.length-i)).map λk=>d k+1).sum<m.toNat:=by
   rw[<-eS];have:=vY (λk=>d k+1) ks (ks.length-(i+1))
   lia
  have er:(List.range (i+1+1)).map (λj=>ks.drop (ks.length-j))=((List.range (i+1)).map λj=>ks.drop (ks.length-j))++[k::ks.drop (ks.length-i)]:=by rw[cZ,aD,<-eS];rfl
  obtain⟨cS,eld,hcS⟩:∃cS:List Int,H3 ld=some (.lst (cS.map V.int))/\ϑ (Yg d (ks.drop (ks.length-i))) cS (F (ks.drop (ks.length-i))):=by
   have:=ra;unfold tW at this;rw[cZ,aD]at this;obtain⟨l0,a0,h2,_,h4⟩:=AM this;have h5:=(iR (List.append_inj' h2 rfl).2).1;rw[h5];exact h4
  generalize ks.drop (ks.length-i)=S at sub dS er hcS eS;have lnd:∀{y:Addr}{zs:List Int},zs≠[]->H3 y=some (.lst (zs.map V.int))->y≠l:=λ{y zs} zn hy z=>by
   rw[z,e3]at hy;injection hy with hy
   injection hy with hy
   cases zs with
   | nil=>exact zn rfl
   | cons z0 zs=>
     cases ϩ with
     | nil=>cases(iR hy).1
     | cons _ _=>cases(iR hy).1
  have more:∀(y:Addr)(cs':List Int)(H5:Hp),δ H3 H5->H5 y=some (.lst (cs'.map V.int))->ϑ (Yg d (k::S)) cs' (F (k::S))->(ϩ++[ld]).length<sizeLine->∀v5,tyV K "list" (V.ref l) H5/\X7 (V.ref l) [V.ref y] H5 λ_ H6=>N [some (V.ref t),some (V.int p),some (V.int m),some (V.ref l),some (V.int k),v5] H6:=by
   intro y cs' H5 s5 ey afb sz v5;have e5:=s5 _ _ e3;refine⟨oK e5,rP e5 (by rw[ah];exact sz) (hN _ _ ⟨λb o e=>?_,⟨ϩ++[ld],y,by rw[ax,aD (l₂:=[y])];rfl,?_⟩,_,_,rfl⟩)⟩
   .rw[aO (bQ e nl0)];exact s5 _ _ (s3 _ _ e)
   .rw[er];have yl:y≠l:=λz=>by
     rw[z,e5]at ey;injection ey with ey
     injection ey with ey
     cases cs' with
     | nil=>exact afb.ne rfl
     | cons z0 zs=>
       cases ϩ with
       | nil=>cases(iR ey).1
       | cons _ _=>cases(iR ey).1
    refine vK ⟨cs',by rw[aO yl];exact ey,afb⟩ (Paired.imp' (λb kk ⟨cb,h1,h2⟩=>⟨cb,?_,h2⟩) ra);rw[aO (lnd h2.ne h1)];exact s5 _ _ h1
  have lsz:(ϩ++[ld]).length<sizeLine:=by
   have:=Paired.length ra;rw[ah,bC]at this;exact ff (by have:=vY (λk=>d k+1) ks 0;have:ks.length<=(ks.map λk=>d k+1).sum:=Mj ks;lia)
  refine cN λM1 k1=>?_;walk_at "";refine⟨by lia,by lia,λpw npw=>?_⟩;have big:∀{b:Nat}{z:Int},b<=15000->z.natAbs<=2^b->z.natAbs<ϣ:=λ{b z} hb hz=>gP hz (by lia);refine pZ (lo:=0) (n:=m.toNat) (λj ys σ H4=>δ H3 H4/\H4 pw=some (.lst ys)/\ys=((List.range j).map λg=>W k (Β (c k) g)).map V.int/\∃v,σ=[v,some (V.ref t),some (V.int p),some (V.int k)]) ⟨δ.new _ npw,ax,rfl,_,rfl⟩ ?_ ?_
  .rintro j ys σ H4 N4 hN4 hj ⟨s4,e4,rfl,v,rfl⟩;walk_at "";have Z0:=s3.trans s4;refine⟨t,dx,w,tw,lr,kp,kd,fs,m,ps,rs,rv,pv,p,k,c k,j,cs,by rw[dq],Z0 _ _ ht,fw,fr,WA.same Z0,hp,⟨tk.k0,tk.k1⟩,tk.tl,tk.c2,tk.c1,Z0 _ _ er0,k1',Z0 _ _ k2,Z0 _ _ k3,kc.len,by lia,λx hx=>big (aA _) (kc.bt x hx),λH5 s5=>⟨s5 _ _ e4,ff (by rw[ah,ah,bC];lia),hN4 _ _ _ ⟨?_,ax,?_,_,rfl⟩⟩⟩
   .exact λb o e=>by rw[aO (bQ e npw)];exact s5 _ _ (s4 _ _ e)
   .rw[cZ,aD,aD,kc.val]
    rfl
  .rintro ys σ H4 ⟨s4,e4,rfl,v,rfl⟩;refine k1 _ _ ?_;have Z0:=s3.trans s4;have wsm:∀j,j<m.toNat->(W k (Β (c k) j)).natAbs<=2^(d k*(25+20*d k)):=λj hj=>rp (Ft tk.wk (aU (by decide) tk.c2) tk.c1 (by lia));have afc:d k*(25+20*d k)<=15000:=by
    have:=tR (d:=d) (ks:=k::S) (by lia);rw[vT]at this
    lia
   have afd:∀x∈(List.range m.toNat).map λg=>W k (Β (c k) g),x.natAbs<ϣ:=λx hx=>by
    obtain⟨j,hj,rfl⟩:=bu.mp hx;exact big afc (wsm j (b6.mp hj))
   have bS:Yg d S<=15000:=tR (by rw[aH,aZ]at dS;lia);have aaw:∀{H5:Hp},δ H4 H5->Ϣ ((ϩ++[ld]).map V.ref) (-1)=some (V.ref ld):=λ_=>by rw[aD];exact Jk _ _
   have hwS:∀x∈k::S,uv (d x) (W x):=λx hx=>hwo x (sub x hx);have adi:∀x∈k::S,1<=c x/\c x<=1000000:=λx hx=>hco x (sub x hx);walk_at "";refine⟨t,dx,w,tw,lw,lb,fs,m,ps,rs,xs,cv,p,k,c k,ob,rfl,Z0 _ _ ht,fw,fg,fb,WA.same Z0,Z0 _ _ eg,xl,Z0 _ _ eb,hp,⟨tk.k0,tk.k1⟩,hcv,tk.tl,by have:=tk.c2;lia,by have:=tk.c1;lia,⟨_,rfl,?_⟩⟩;subst hF;change if frK xs ob c p k=true then _ else _;have eN:((m.toNat:Nat):Int)=m:=bH (by lia);have N1':m.toNat<=24:=(by lia);have e3':=s4 _ _ e3;have abC:=s4 _ _ eld;have XT:((List.range m.toNat).map λg=>W k (Β (c k) g)).length=m.toNat:=(by rw[ah,bC]);by_cases hf:frK xs ob c p k=true
   .rw[aj hf];refine⟨oK e3',Ε e3' (aaw (δ.refl _)) ⟨ld,cS,m.toNat,by rw[eN],μ.of abC,by have:=hcS.len;lia,by lia,λx hx=>big bS (hcS.bt x hx),λl5 H5 n5 s5 e5=>?_⟩⟩;refine⟨pw,l5,_,_,rfl,μ.of (s5 _ _ e4),μ.of e5,by rw[XT,ah,bC];exact aA _,by rw[XT];lia,afd,λx hx=>?_,λl6 H6 n6 s6 e6=>?_⟩
    .obtain⟨j,hj,rfl⟩:=bu.mp hx;rw[hcS.val];exact big (aU (Cc d S) bS) (rp (Dj N1' (λx hx=>hwS x (.tail _ hx)) (λx hx=>adi x (.tail _ hx)) j (b6.mp hj)))
    .refine⟨l6,_,rfl,μ.of e6,by rw[ah,bC,XT];lia,λl7 H7 n7 s7 e7=>(more l7 _ H7 (s4.trans (s5.trans (s6.trans s7))) e7 ?_ lsz _).2⟩;refine MJ N1' hwS adi dS ?_;rw[XT];refine dM λn hn=>?_;have hn:=b6.mp hn;rw[zA hf];exact MQ (λi hi=>Ff (by lia)) λi hi=>by rw[Ff (by lia),hcS.val]
   .rw[ag hf];refine⟨T.Tally,dx,fs,Z0 _ _ ht,T.cQ,T.ul,_,fb,Ε (Z0 _ _ eb) (cq hp.1 hcv) ⟨by cases ob<;>rfl,?_⟩⟩;obtain⟨rS,eh⟩:=hcS.head;by_cases hb:ob=some k
    .rw[aj (by rw[hb];rfl)];have hb':beK ob k=true:=bg hb;refine⟨oK e3',⟨_,μ.of e4⟩,λpc XC=>?_⟩;refine oZ (K:=K) (c:=true) (a:=pw) (xs:=((List.range m.toNat).map λg=>W k (Β (c k) g)).map V.int) (λj ys σ H5=>δ H4 H5/\H5 pc=some (.lst ys)/\ys=((((List.range m.toNat).map λg=>W k (Β (c k) g)).take j).map λx=>x*ϐ (frK xs ob c p) (beK ob) (λk g=>W k (Β (c k) g)) S 0).map V.int/\∃v,σ=[v,some (V.ref l)]) ⟨δ.new _ XC,ax,rfl,_,rfl⟩ (λj ys σ H5 _ ⟨z,_⟩=>μ.of (z _ _ e4)) ?_ ?_
     .rintro j x ys σ H5 N5 hN5 hj ⟨s5,e5,rfl,v,rfl⟩;obtain⟨z,hz,rfl⟩:=List.ι hj;have et:((List.range m.toNat).map λg=>W k (Β (c k) g)).take (j+1)=((List.range m.toNat).map λg=>W k (Β (c k) g)).take j++[z]:=(by rw[bL,hz];rfl);walk_at "";refine Ε (s5 _ _ e3') (aaw (δ.refl _)) (Ε (v:=V.int (ϐ (frK xs ob c p) (beK ob) (λk g=>W k (Β (c k) g)) S 0)) (s5 _ _ abC) (cq (bA 0) (by rw[eh];rfl)) ⟨_,rfl,qB (afd z (aM hz)) (big bS (hcS.bt _ (by rw[eh];exact .head _))),e5,ff (by rw[ah,ah,bd,XT];lia),hN5 _ _ _ ⟨?_,ax,?_,_,rfl⟩⟩)
      .exact λb o e=>by rw[aO (bQ e XC)];exact s5 _ _ e
      .rw[et,aD,aD]
       rfl
     .rintro ys σ H5 ⟨s5,e5,rfl,v,rfl⟩;rw[ah,XT,dh (by rw[XT];exact aA _)]at e5;refine⟨pc,_,rfl,μ.of e5,by rw[ah,XT];lia,λl7 H7 n7 s7 e7=>(more l7 _ H7 (s4.trans (s5.trans s7)) e7 ?_ lsz _).2⟩;refine MJ N1' hwS adi dS ?_;rw[List.map_map];refine dM λn hn=>?_;rw[Al hf hb']
      rfl
    .rw[ag (λz=>hb (by cases ob with
      | none=>cases z
      | some j=>injection z with z;rw[z]))]
     have hb':¬beK ob k=true:=(by unfold beK;rw[bK];exact hb);have hm0:m.toNat=(m.toNat-1)+1:=(by lia);have w0:∀{H5:Hp},δ H4 H5->H5 pw=some (.lst (((List.range m.toNat).map λg=>W k (Β (c k) g)).map V.int)):=λs=>s _ _ e4;have a0:Ϣ (((List.range m.toNat).map λg=>W k (Β (c k) g)).map V.int) 0=some (V.int (W k (Β (c k) 0))):=cq (bA 0) (by
      show(((List.range m.toNat).map λg=>W k (Β (c k) g)).map V.int)[0]?=_;rw[aF,aF,fS (by lia)]
      rfl)
     refine⟨oK e3',Ε e3' (aaw (δ.refl _)) ⟨ld,rfl,⟨_,μ.of abC⟩,λpc XC=>?_⟩⟩;refine oZ (K:=K) (c:=true) (a:=ld) (xs:=cS.map V.int) (λj ys σ H5=>δ H4 H5/\H5 pc=some (.lst ys)/\ys=((cS.take j).map λx=>W k (Β (c k) 0)*x).map V.int/\∃v,σ=[v,some (V.ref pw)]) ⟨δ.new _ XC,ax,rfl,_,rfl⟩ (λj ys σ H5 _ ⟨z,_⟩=>μ.of (z _ _ abC)) ?_ ?_
     .rintro j x ys σ H5 N5 hN5 hj ⟨s5,e5,rfl,v,rfl⟩;obtain⟨z,hz,rfl⟩:=List.ι hj;have et:cS.take (j+1)=cS.take j++[z]:=(by rw[bL,hz];rfl);have cl:=hcS.len;walk_at "";refine Ε (w0 s5) a0 ⟨_,rfl,qB (big afc (wsm 0 (by lia))) (big bS (hcS.bt z (aM hz))),e5,ff (by rw[ah,ah,bd];lia),hN5 _ _ _ ⟨?_,ax,?_,_,rfl⟩⟩
      .exact λb o e=>by rw[aO (bQ e XC)];exact s5 _ _ e
      .rw[et,aD,aD]
       rfl
     .rintro ys σ H5 ⟨s5,e5,rfl,v,rfl⟩;rw[ah,bp]at e5;exact(more pc _ H5 (s4.trans s5) e5 (Rr tk.wk (aU (by decide) tk.c2) tk.c1 hf hb' hcS) lsz _).2
 .rintro σ H3 ⟨s3,⟨ϩ,ld,e3,ra⟩,v4,v5,rfl⟩;refine h2 _ _ ?_;unfold QG;walk_at "";rw[ah]at ra;refine⟨_,μ.of e3,λl2 nl2=>?_⟩;have s4:=δ.new (HO.lst ((ϩ++[ld]).map V.ref).reverse) nl2;refine q l2 (ϩ++[ld]).reverse _ (s3.free nl2) (s3.trans s4) (by rw[ax,eV]) ?_;have e:ZO ks=((List.range (ks.length+1)).map λj=>ks.drop (ks.length-j)).reverse:=by rw[<-Jb,mm]
  rw[e];exact II (Paired.imp' (λb kk ⟨cb,h1,h2⟩=>⟨cb,s4 _ _ h1,h2⟩) ra)
def kI(p ld lw lb lk lr:Addr):List (Str×V):=bx "rests" (.ref lr) (bx "kids" (.ref lk) (bx "bearers" (.ref lb) (bx "weights" (.ref lw) (bx "down" (.ref ld) (bx "web" (.ref p) [])))))
theorem oA(p ld lw lb lk lr:Addr):(kI p ld lw lb lk lr).lookup ("rests":Str)=some (.ref lr):=by
 unfold kI;rw[cJ,aj rfl]
theorem p7(p ld lw lb lk lr:Addr):(kI p ld lw lb lk lr).lookup ("kids":Str)=some (.ref lk):=by
 unfold kI;rw[cJ,ag (by decide +kernel),cJ,aj rfl]
theorem wH(p ld lw lb lk lr:Addr):(kI p ld lw lb lk lr).lookup ("bearers":Str)=some (.ref lb):=by
 unfold kI;rw[cJ,ag (by decide +kernel),cJ,ag (by decide +kernel),cJ,aj rfl]
theorem wz(p ld lw lb lk lr:Addr):(kI p ld lw lb lk lr).lookup ("weights":Str)=some (.ref lw):=by
 unfold kI;rw[cJ,ag (by decide +kernel),cJ,ag (by decide +kernel),cJ,ag (by decide +kernel),cJ,aj rfl]
theorem pW(p ld lw lb lk lr:Addr):(kI p ld lw lb lk lr).lookup ("down":Str)=some (.ref ld):=by
 unfold kI;rw[cJ,ag (by decide +kernel),cJ,ag (by decide +kernel),cJ,ag (by decide +kernel),cJ,ag (by decide +kernel),cJ,aj rfl]
theorem o9(p ld lw lb lk lr:Addr):(kI p ld lw lb lk lr).lookup ("web":Str)=some (.ref p):=by
 unfold kI;rw[cJ,ag (by decide +kernel),cJ,ag (by decide +kernel),cJ,ag (by decide +kernel),cJ,ag (by decide +kernel),cJ,ag (by decide +kernel),cJ,aj rfl]
def Bv(m:Int)(rs:List Road)(r:Int)(par:Int->Int)(dep:Int->Nat)(tl:List Int)(k:Int):Bool:=decide (υ m rs r par dep k*tup rs par k=υ m rs r par dep (par k))&&decide (Yt m rs r par dep tl (par k)≠some k)
def XD(m:Int)(rs:List Road)(r:Int)(par:Int->Int)(dep:Int->Nat)(tl:List Int)(k:Int):Bool:=decide (Yt m rs r par dep tl (par k)=some k)
def cK(rs:List Road)(par:Int->Int)(k:Int):Nat:=(tup rs par k).toNat
def XE(m:Int)(rs:List Road)(r:Int)(par:Int->Int)(dep:Int->Nat)(tl:List Int)(v:Int):Nat->Int:=wy m rs r par dep (Bv m rs r par dep tl) (XD m rs r par dep tl) (cK rs par) v
structure ϓ(C O:Addr)(H:Hp)(o p t:Addr)(m:Int)(ps:List Addr)(rs:List Road)(r:Int)(par:Int->Int)(dep:Int->Nat)(tl:List Int)(ld lw lb lk lr:Addr)(kl:List Addr)(rv:List V)(S:Int->Prop):Prop where
 ob:∃dx,H o=some (.ins O dx (kI p ld lw lb lk lr))
 web:ν C H p m t ps rs
 rt:ε m rs r par dep
 et:cW m rs r par dep r=r::tl
 or:Order m r par tl
 hd:H ld=some (.lst ((cW m rs r par dep r).map V.int))
 hw:H lw=some (.lst ((cM m rs r par dep).map V.int))
 hb:H lb=some (.lst (ZV m (Yt m rs r par dep tl)))
 hk:H lk=some (.lst (kl.map V.ref))
 kp:Paired (λa v=>H a=some (.lst ((kd m rs r par v).map V.int))) kl (cR m.toNat)
 hr:H lr=some (.lst rv)
 rl:rv.length=m.toNat
 rn:∀x∈rv,x=.ο\/∃a,x=.ref a
 ϕ:∀v,S v->0<=v/\∃(lp:Addr)(ϩ:List Addr),rv[v.toNat]?=some (.ref lp)/\lp≠lr/\H lp=some (.lst (ϩ.map V.ref))/\tW H (Yg (oR m rs r par dep)) (ϐ (Bv m rs r par dep tl) (XD m rs r par dep tl) (λk g=>XE m rs r par dep tl k (Β (cK rs par k) g))) ϩ (ZO (kd m rs r par v))
theorem ϓ.same{C O:Addr}{H H':Hp}{o p t:Addr}{m:Int}{ps:List Addr}{rs:List Road}{r:Int}{par:Int->Int}{dep:Int->Nat}{tl:List Int}{ld lw lb lk lr:Addr}{kl:List Addr}{rv:List V}{S:Int->Prop}(e:δ H H')(h:ϓ C O H o p t m ps rs r par dep tl ld lw lb lk lr kl rv S):ϓ C O H' o p t m ps rs r par dep tl ld lw lb lk lr kl rv S where
 ob:=let ⟨dx,q⟩:=h.ob;⟨dx,e _ _ q⟩
 web:=h.web.same e
 rt:=h.rt
 et:=h.et
 or:=h.or
 hd:=e _ _ h.hd
 hw:=e _ _ h.hw
 hb:=e _ _ h.hb
 hk:=e _ _ h.hk
 kp:=Paired.imp' (λ_ _ z=>e _ _ z) h.kp
 hr:=e _ _ h.hr
 rl:=h.rl
 rn:=h.rn
 ϕ:=λv hv=>let ⟨v0,lp,ϩ,h1,h2,h3,h4⟩:=h.ϕ v hv;⟨v0,lp,ϩ,h1,h2,e _ _ h3,Paired.imp' (λ_ _ ⟨cs,a,b⟩=>⟨cs,e _ _ a,b⟩) h4⟩
theorem ν.ZR{C O:Addr}{H H':Hp}{o p:Addr}{m:Int}{t dx:Addr}{ps:List Addr}{rs:List Road}(e:ZW o H H')(ho:H o=some (.ins O dx []))(h:ν C H p m t ps rs):ν C H' p m t ps rs:=⟨let ⟨dx,q⟩:=h.ob;⟨dx,e _ _ q (hW q ho (by intro z;cases z))⟩,e _ _ h.tu (hW h.tu ho (by intro z;cases z)),Paired.imp' (λq x z=>e _ _ z (hW z ho (by intro z;cases z))) h.ro,h.go⟩
theorem ϓ.put{C O:Addr}{H:Hp}{o p t:Addr}{m:Int}{ps:List Addr}{rs:List Road}{r:Int}{par:Int->Int}{dep:Int->Nat}{tl:List Int}{ld lw lb lk lr:Addr}{kl:List Addr}{rv:List V}{S:Int->Prop}(h:ϓ C O H o p t m ps rs r par dep tl ld lw lb lk lr kl rv S)(Β:ld≠lr)(hlw:lw≠lr)(hlb:lb≠lr)(hlk:lk≠lr)(hkl:∀q∈kl,q≠lr){v:Int}(v0:0<=v)(v1:v<m)(hS:∀c,S c->c≠v){l:Addr}{ϩ:List Addr}(nl:l≠lr)(hl:H l=some (.lst (ϩ.map V.ref)))(ra:tW H (Yg (oR m rs r par dep)) (ϐ (Bv m rs r par dep tl) (XD m rs r par dep tl) (λk g=>XE m rs r par dep tl k (Pb.Β (cK rs par k) g))) ϩ (ZO (kd m rs r par v))):ϓ C O (upd H lr (.lst (rv.set v.toNat (.ref l)))) o p t m ps rs r par dep tl ld lw lb lk lr kl (rv.set v.toNat (.ref l)) (λc=>c=v\/S c):=by
 have vm:v.toNat<rv.length:=by rw[h.rl];lia
 have ne:∀{y:Addr}{cs:List Int},cs≠[]->H y=some (.lst (cs.map V.int))->y≠lr:=λ{y cs} cn hy z=>by
  rw[z,h.hr]at hy;injection hy with hy
  injection hy with hy
  cases cs with
  | nil=>exact cn rfl
  | cons c0 cs=>
    rcases h.rn (.int c0) (by rw[hy];exact .head _)with e|⟨_,e⟩<;>cases e
 have up:∀{b:Addr}{x:HO},H b=some x->b≠lr->upd H lr (.lst (rv.set v.toNat (.ref l))) b=some x:=λe n=>by rw[aO n];exact e
 have rup:∀{ϩ:List Addr}{kss:List (List Int)}{b:List Int->Nat}{f:List Int->Nat->Int},tW H b f ϩ kss->tW (upd H lr (.lst (rv.set v.toNat (.ref l)))) b f ϩ kss:=λhra=>Paired.imp' (λy kk ⟨cs,h1,h2⟩=>⟨cs,up h1 (ne h2.ne h1),h2⟩) hra;obtain⟨dx,ob⟩:=h.ob;have W:=h.web;obtain⟨dw,wb⟩:=W.ob;refine⟨⟨dx,up ob (hW ob h.hr (by intro z;cases z))⟩,⟨⟨dw,up wb (hW wb h.hr (by intro z;cases z))⟩,up W.tu (hW W.tu h.hr (by intro z;cases z)),Paired.imp' (λq x e=>up e (hW e h.hr (by intro z;cases z))) W.ro,W.go⟩,h.rt,h.et,h.or,up h.hd Β,up h.hw hlw,up h.hb hlb,up h.hk hlk,CH (λq x hq e=>up e (hkl q hq)) h.kp,ax,by rw[cP];exact h.rl,λx hx=>?_,λu hu=>?_⟩
 .rcases fQ hx with hx|rfl
  .exact h.rn x hx
  .exact .inr ⟨l,rfl⟩
 .rcases hu with rfl|hu
  .exact⟨v0,l,ϩ,dP vm,nl,up hl nl,rup ra⟩
  .obtain⟨u0,lp,ajR,h1,h2,h3,h4⟩:=h.ϕ u hu;refine⟨u0,lp,ajR,?_,h2,up h3 h2,rup h4⟩;rw[cY (by have:=hS u hu;lia)];exact h1
def lG(T:Txt K mg):Sp:=λvs H Q _=>E8 λ(o dx p t:Addr)(m:Int)(ps:List Addr)(rs:List Road)(r:Int)=>vs=[.ref o,.ref p,.int r]/\H o=some (.ins T.Tally dx [])/\ν T.Web H p m t ps rs/\(0<=r/\r<m)/\∃par dep,ε m rs r par dep/\∀tl ld lw lb lk lr kl rv H',ϓ T.Web T.Tally H' o p t m ps rs r par dep tl ld lw lb lk lr kl rv (λv=>0<=v/\v<m)->(∀b x,H b=some x->b≠o->H' b=some x)->Q .ο H'
abbrev eI:Stmt:=Jp (top 60) 0
theorem yt:ζ ["self","web","r","place"] ["self","web","r"] (aJ eI):=.of
theorem qY:ϗ (aJ eI) "enumerate":=.of (by kernel_rfl)
theorem rJ:ϗ (aJ eI) "reversed":=.of (by kernel_rfl)
theorem yD(T:Txt K mg)(hq:bU (ψ P w)){f:Addr}{fd:FuncData}(F:Y8 K "__init__" "Tally.__init__" eI f fd)(oj:Cb P w K mg base "ahead" sP ["web","r"] 5 (vR T))(xt:Cb P w K mg base "bearers" qZ ["web","r"] 9 (Be T))(uZ:Cb P w K mg base "down" vB ["web","r"] 6 (C8 T))(mG:Cb P w K mg base "kids" vk ["web","place","front"] 4 (yp T))(f9:Cb P w K mg base "least_weights" jG ["web","r"] 8 (ms T))(wj:Cb P w K mg base "rests_of" jc ["tally","place"] 7 (zb T)):Ω P w K mg base (ψ P w) 10 f fd ["self","web","r"] (lG T):=by
 refine F.ϔ yt (by walk_at "v") λς A outer s H vs Q E hr h=>?_;obtain⟨o,dx,p,t,m,ps,rs,r,rfl,ho,W,rr,par,dep,R,k⟩:=h;have g:=W.go;have Ζ:=g.Ζ;refine⟨_,(ao (rg (γ 0) (ϲ 1) rfl) (ao (rg (γ 0) (Θ uZ hr hq (aa (ϲ 1) (aa (γ 2) ay))) rfl) (ao (rg (γ 0) (Θ f9 hr hq (aa (ϲ 1) (aa (γ 2) ay))) rfl) (ao (rg (γ 0) (Θ xt hr hq (aa (ϲ 1) (aa (γ 2) ay))) rfl) (ao (rg (γ 0) (kN rfl (ZY ["place","front","web"] 2 [1]) (xY true qY.g T.enumerate (Θ oj hr hq (aa (ϲ 1) (aa (γ 2) ay)))) (λ_ _ _ _=>(Jh K rfl (n:=2) rfl (bW (fN (i:=0) (show(["place","front","web"]:List Str).Nodup from by decide +kernel) rfl (Or.inl rfl)) (bW (fN (i:=1) (show(["place","front","web"]:List Str).Nodup from by decide +kernel) rfl (Or.inl rfl)) gK)))) (λ_ _ _ _=>mS) (λ_ _ _ _=>(sM mG.G (hr.mono (by decide)) (by rfl) mG.D.m mG.D.F.kp mG.D.b .nil (yf hq) (aa (pv 2) (aa (pv 0) (aa (pv 1) ay)))))) rfl) (ao (rg (γ 0) (aX pR (eC (aa AU ay)) (dB (ϲ 1) rfl)) rfl) (aL (eZ PassesOwn.never rfl (tG rJ.g T.reversed (dB (γ 0) rfl)) (Φ 3) (aL (jW (Θ wj hr hq (aa (γ 0) (aa (γ 3) ay))) (mK (dB (γ 0) rfl) (γ 3) iW))))))))))),?_⟩;walk_at "s";walk_at "";refine⟨T.Tally,dx,[],ho,T.cQ,T.As,by decide,?_⟩;have k1:ZW o H (upd H o (.ins T.Tally dx (bx "web" (.ref p) []))):=ZW.refl.put _;have o1:upd H o (.ins T.Tally dx (bx "web" (.ref p) [])) o=some (.ins T.Tally dx (bx "web" (.ref p) [])):=ax;generalize upd H o (.ins T.Tally dx (bx "web" (.ref p) []))=H1 at k1 o1 ⊢;refine⟨p,t,m,ps,rs,r,rfl,W.ZR k1 ho,λ_ _=>⟨par,dep,R,λld H2 n2 s2 e2 nd2 al2=>?_⟩,λz=>absurd rr z⟩;dsimp only;have no2:∀{a:Addr}{G:Hp}{x:HO},G o=some x->G a=none->a≠o:=λh1 h2 z=>by rw[z,h1]at h2;cases h2
 refine⟨T.Tally,dx,_,s2 _ _ o1,T.cQ,T.vo,by show 1<1000;decide,?_⟩;have ldo:ld≠o:=no2 o1 n2;have k3:=(k1.then s2).put (.ins T.Tally dx (bx "down" (.ref ld) (bx "web" (.ref p) [])));have o3:upd H2 o (.ins T.Tally dx (bx "down" (.ref ld) (bx "web" (.ref p) []))) o=some (.ins T.Tally dx (bx "down" (.ref ld) (bx "web" (.ref p) []))):=ax;have e3:upd H2 o (.ins T.Tally dx (bx "down" (.ref ld) (bx "web" (.ref p) []))) ld=_:=(aO ldo).trans e2;generalize upd H2 o (.ins T.Tally dx (bx "down" (.ref ld) (bx "web" (.ref p) [])))=H3 at k3 o3 e3 ⊢;refine⟨p,t,m,ps,rs,r,rfl,W.ZR k3 ho,λ_ _=>⟨par,dep,R,λlw H4 n4 s4 e4=>?_⟩,λz=>absurd rr z⟩;refine⟨T.Tally,dx,_,s4 _ _ o3,T.cQ,T.X4,by show 2<1000;decide,?_⟩;have lwo:lw≠o:=no2 o3 n4;have k5:=(k3.then s4).put (.ins T.Tally dx (bx "weights" (.ref lw) (bx "down" (.ref ld) (bx "web" (.ref p) []))));have o5:upd H4 o (.ins T.Tally dx (bx "weights" (.ref lw) (bx "down" (.ref ld) (bx "web" (.ref p) [])))) o=some (.ins T.Tally dx (bx "weights" (.ref lw) (bx "down" (.ref ld) (bx "web" (.ref p) [])))):=ax;have e5d:upd H4 o (.ins T.Tally dx (bx "weights" (.ref lw) (bx "down" (.ref ld) (bx "web" (.ref p) [])))) ld=_:=(aO ldo).trans (s4 _ _ e3);have e5w:upd H4 o (.ins T.Tally dx (bx "weights" (.ref lw) (bx "down" (.ref ld) (bx "web" (.ref p) [])))) lw=_:=(aO lwo).trans e4;generalize upd H4 o (.ins T.Tally dx (bx "weights" (.ref lw) (bx "down" (.ref ld) (bx "web" (.ref p) []))))=H5 at k5 o5 e5d e5w ⊢;refine⟨p,t,m,ps,rs,r,rfl,W.ZR k5 ho,λ_ _=>⟨par,dep,R,λtl lb H6 et Or n6 s6 e6=>?_⟩,λz=>absurd rr z⟩;refine⟨T.Tally,dx,_,s6 _ _ o5,T.cQ,T.ul,by show 3<1000;decide,?_⟩;have lbo:lb≠o:=no2 o5 n6;have k7:=(k5.then s6).put (.ins T.Tally dx (bx "bearers" (.ref lb) (bx "weights" (.ref lw) (bx "down" (.ref ld) (bx "web" (.ref p) [])))));have o7:upd H6 o (.ins T.Tally dx (bx "bearers" (.ref lb) (bx "weights" (.ref lw) (bx "down" (.ref ld) (bx "web" (.ref p) []))))) o=some (.ins T.Tally dx (bx "bearers" (.ref lb) (bx "weights" (.ref lw) (bx "down" (.ref ld) (bx "web" (.ref p) []))))):=ax;have e7d:upd H6 o (.ins T.Tally dx (bx "bearers" (.ref lb) (bx "weights" (.ref lw) (bx "down" (.ref ld) (bx "web" (.ref p) []))))) ld=_:=(aO ldo).trans (s6 _ _ e5d);have e7w:upd H6 o (.ins T.Tally dx (bx "bearers" (.ref lb) (bx "weights" (.ref lw) (bx "down" (.ref ld) (bx "web" (.ref p) []))))) lw=_:=(aO lwo).trans (s6 _ _ e5w);have e7b:upd H6 o (.ins T.Tally dx (bx "bearers" (.ref lb) (bx "weights" (.ref lw) (bx "down" (.ref ld) (bx "web" (.ref p) []))))) lb=_:=(aO lbo).trans e6;generalize upd H6 o (.ins T.Tally dx (bx "bearers" (.ref lb) (bx "weights" (.ref lw) (bx "down" (.ref ld) (bx "web" (.ref p) [])))))=H7 at k7 o7 e7d e7w e7b ⊢;have W3:=W.ZR k7 ho;clear k1 k3 k5 o1 o3 o5 e2 e3 e4 e5d e5w e6 s2 s4 s6 n2 n4 n6;refine⟨p,t,m,ps,rs,r,rfl,W3,λ_ _=>⟨par,dep,R,λla H4 n4 s4 e4=>⟨la,rfl,⟨_,μ.of e4⟩,λka nka=>?_⟩⟩,λz=>absurd rr z⟩;have apY:=s4.free nka;refine Mx (K:=K) (c:=true) (xs:=pL m r par) (λi ys σ H5=>δ H4 H5/\H5 ka=some (.lst ys)/\(∃kl:List Addr,ys=kl.map V.ref/\Paired (λa v=>H5 a=some (.lst ((kd m rs r par v).map V.int))) kl ((cR m.toNat).take i)/\∀q∈kl,q≠ka)/\∃v w,σ=[v,w,some (V.ref p)]) ⟨δ.new _ nka,ax,⟨[],rfl,.nil,by simp⟩,_,_,rfl⟩ (λi ys σ H5 z=>μ.of (z.1 _ _ e4)) ?_ ?_
 .rintro i x ys σ H5 q N hN hx ⟨s5,e5,⟨kl,rfl,pk,hkq⟩,v,w,rfl⟩ nq;have il:i<m.toNat:=by
   have:=(aq.mp hx).1;unfold pL at this
   rwa [ah,da]at this
  have ex:x=Pb.front r par (i:Int):=by
   have:=zz (m:=m) (r:=r) (par:=par) (v:=(i:Int)) (by lia) (by lia);rw[show((i:Int)).toNat=i from rfl,hx]at this;exact bq this
  have qe:=s5 _ _ e4;have s6:=δ.new (.tup [V.int i,x]) nq;have s46:=s5.trans s6;have et:(cR m.toNat).take (i+1)=(cR m.toNat).take i++[(i:Int)]:=by rw[bL,fZ il];rfl
  have kll:kl.length<=24:=by
   have:=Paired.length pk;rw[bd]at this
   lia
  walk_at "";refine⟨_,Η.of ax,rfl,_,_,rfl,_,_,rfl,rfl,?_⟩;refine⟨p,t,m,ps,rs,i,x,rfl,W3.same (s4.trans s46),by lia,by lia,?_,λl6 H6 n6 s7 e7=>?_⟩
  .rw[ex];unfold Pb.front;split
   .exact .inl rfl
   .exact .inr ⟨_,rfl⟩
  have s57:=s6.trans s7;refine⟨s57 _ _ e5,ff (by rw[ah];lia),hN _ _ _ ⟨(s5.trans s57).put nka _,ax,⟨kl++[l6],by rw[aD];rfl,?_,λq hq=>?_⟩,_,_,rfl⟩⟩;have nk:l6≠ka:=λz=>by rw[z,s6 _ _ e5]at n6;cases n6
  rotate_left
  .rcases bc.mp hq with h|h
   .exact hkq q h
   .rw[aB.mp h];exact λz=>by rw[z,s6 _ _ e5]at n6;cases n6
  rw[et];refine vK (by rw[aO nk,e7,ex]) (CH (λq v hq h=>?_) pk);have e:q≠ka:=λz=>hkq q hq z;rw[aO e];exact s57 _ _ h
 .rintro ys σ H5 ⟨s5,e5,⟨kl,rfl,pk,hkq⟩,v,w,rfl⟩;rw[show(pL m r par).length=m.toNat by unfold pL;rw[ah,da],dh (by rw[da];exact aA _)]at pk;have o5:=s5 _ _ (s4 _ _ o7);have k5:=(k7.then s4).then s5;have s45:=s4.trans s5;refine⟨T.Tally,dx,_,o5,T.cQ,T.rC,by show 4<1000;decide,by decide,λl1 n1=>?_⟩;have kao:ka≠o:=λz=>by rw[z,o5]at e5;cases e5
  have k6:=k5.put (.ins T.Tally dx (bx "kids" (.ref ka) (bx "bearers" (.ref lb) (bx "weights" (.ref lw) (bx "down" (.ref ld) (bx "web" (.ref p) []))))));have o6:upd H5 o (.ins T.Tally dx (bx "kids" (.ref ka) (bx "bearers" (.ref lb) (bx "weights" (.ref lw) (bx "down" (.ref ld) (bx "web" (.ref p) [])))))) o=some (.ins T.Tally dx (bx "kids" (.ref ka) (bx "bearers" (.ref lb) (bx "weights" (.ref lw) (bx "down" (.ref ld) (bx "web" (.ref p) [])))))):=ax;have e6:upd H5 o (.ins T.Tally dx (bx "kids" (.ref ka) (bx "bearers" (.ref lb) (bx "weights" (.ref lw) (bx "down" (.ref ld) (bx "web" (.ref p) [])))))) ka=_:=(aO kao).trans e5;have e6d:upd H5 o (.ins T.Tally dx (bx "kids" (.ref ka) (bx "bearers" (.ref lb) (bx "weights" (.ref lw) (bx "down" (.ref ld) (bx "web" (.ref p) [])))))) ld=_:=(aO ldo).trans (s45 _ _ e7d);have e6w:upd H5 o (.ins T.Tally dx (bx "kids" (.ref ka) (bx "bearers" (.ref lb) (bx "weights" (.ref lw) (bx "down" (.ref ld) (bx "web" (.ref p) [])))))) lw=_:=(aO lwo).trans (s45 _ _ e7w);have e6b:upd H5 o (.ins T.Tally dx (bx "kids" (.ref ka) (bx "bearers" (.ref lb) (bx "weights" (.ref lw) (bx "down" (.ref ld) (bx "web" (.ref p) [])))))) lb=_:=(aO lbo).trans (s45 _ _ e7b);have pk6:Paired (λa v=>upd H5 o (.ins T.Tally dx (bx "kids" (.ref ka) (bx "bearers" (.ref lb) (bx "weights" (.ref lw) (bx "down" (.ref ld) (bx "web" (.ref p) [])))))) a=some (.lst ((kd m rs r par v).map V.int))) kl (cR m.toNat):=Paired.imp' (λq v h=>by rw[aO (hW h o5 (by intro z;cases z))];exact h) pk;generalize upd H5 o (.ins T.Tally dx (bx "kids" (.ref ka) (bx "bearers" (.ref lb) (bx "weights" (.ref lw) (bx "down" (.ref ld) (bx "web" (.ref p) []))))))=H6 at k6 o6 e6 e6d e6w e6b pk6 n1 ⊢;have s7:=δ.new (.lst [V.ο]) n1;obtain⟨dw',wb'⟩:=(W.ZR k6 ho).ob;refine⟨T.Web,dw',_,s7 _ _ wb',T.kQ,T.ϒ,_,j7 _ _,?_⟩;refine⟨l1,m,[V.ο],rfl,rfl,ax,by lia,by lia,bN (by simp;lia),λlr nlr=>?_⟩;rw[GJ];have s8:=s7.trans (δ.new (.lst (List.replicate m.toNat V.ο)) nlr);have i8:upd (upd H6 l1 (.lst [V.ο])) lr (.lst (List.replicate m.toNat V.ο)) lr=some (.lst (List.replicate m.toNat V.ο)):=ax;have lT:=s7.free nlr;generalize upd (upd H6 l1 (.lst [V.ο])) lr (.lst (List.replicate m.toNat V.ο))=H8 at s8 i8 ⊢;have o8:=s8 _ _ o6;refine⟨T.Tally,dx,_,o8,T.cQ,T.ϫ,by show 5<1000;decide,?_⟩;have k8:=(k6.then s8).put (.ins T.Tally dx (kI p ld lw lb ka lr));have lro:lr≠o:=λz=>by rw[z,o6]at lT;cases lT
  have T9:ϓ T.Web T.Tally (upd H8 o (.ins T.Tally dx (kI p ld lw lb ka lr))) o p t m ps rs r par dep tl ld lw lb ka lr kl (List.replicate m.toNat V.ο) (λ_=>False):=⟨⟨dx,ax⟩,W.ZR k8 ho,R,et,Or,(aO ldo).trans (s8 _ _ e6d),(aO lwo).trans (s8 _ _ e6w),(aO lbo).trans (s8 _ _ e6b),(aO kao).trans (s8 _ _ e6),Paired.imp' (λq v h=>by rw[aO (hW h o6 (by intro z;cases z))];exact s8 _ _ h) pk6,(aO lro).trans i8,by rw[bT],λx hx=>.inl (ik hx),λv z=>z.elim⟩
  have Β:ld≠lr:=λz=>by rw[<-z,e6d]at lT;cases lT
  have hlw:lw≠lr:=λz=>by rw[<-z,e6w]at lT;cases lT
  have hlb:lb≠lr:=λz=>by rw[<-z,e6b]at lT;cases lT
  have hlk:ka≠lr:=λz=>by rw[<-z,e6]at lT;cases lT
  have hkl:∀q∈kl,q≠lr:=λq hq z=>by
   obtain⟨v,hv⟩:=Jm pk6 hq;rw[z,lT]at hv;cases hv
  have ajY:H lr=none:=by
   cases e:H lr with
   | none=>rfl
   | some x=>rw[k6 _ _ e lro]at lT;cases lT
  have k9:=k8;change ∃x x_1 x_2,upd H8 o (.ins T.Tally dx (kI p ld lw lb ka lr)) o=some (HO.ins x x_1 x_2)/\_;obtain⟨H9,eH9⟩:∃H9,H9=upd H8 o (.ins T.Tally dx (kI p ld lw lb ka lr)):=⟨_,rfl⟩;refine⟨T.Tally,dx,_,ax,T.cQ,T.vo,_,pW p ld lw lb ka lr,ld,rfl,_,μ.of T9.hd,?_⟩;rw[<-eH9]at T9 k9;change si _ _ _ _ _ (upd H8 o (.ins T.Tally dx (kI p ld lw lb ka lr)));rw[<-eH9];clear eH9 k8 i8 s8 s7 n1 pk6 e6 e6d e6w e6b o6 k6 k5 o5 o8 wb';refine qD (K:=K) (xs:=(cW m rs r par dep r).map V.int) (λi σ H10=>ZW o H H10/\∃(rv:List V)(v3:Option V),ϓ T.Web T.Tally H10 o p t m ps rs r par dep tl ld lw lb ka lr kl rv (λv=>v∈(cW m rs r par dep r).reverse.take i)/\σ=[some (V.ref o),some (V.ref p),some (V.int r),v3]) ⟨k9,List.replicate m.toNat V.ο,none,?_,rfl⟩ (λi σ H10 _ ⟨_,rv,v3,z,_⟩=>μ.of z.hd) ?_ ?_
  .exact⟨T9.ob,T9.web,T9.rt,T9.et,T9.or,T9.hd,T9.hw,T9.hb,T9.hk,T9.kp,T9.hr,T9.rl,T9.rn,λv hv=>by cases hv⟩
  .rintro i x σ H10 N hN hx ⟨k10,rv,v3,Le,rfl⟩;rw[<-eV]at hx;obtain⟨v,hv,rfl⟩:=List.ι hx;have vm:=(al2 v).mp (eT.mp (aM hv));have aka:∀k∈kd m rs r par v,k∈(cW m rs r par dep r).reverse.take i:=by
    rw[et]at hv ⊢;exact RV g R Or hv vm.1 vm.2
   have evr:(cR m.toNat)[v.toNat]?=some v:=by
    rw[fZ (by lia),bH vm.1]
   obtain⟨ϵ,Yk,Rw⟩:=tL Le.kp evr;obtain⟨dx',ob'⟩:=Le.ob;have frx:∀k∈kd m rs r par v,frK (cM m rs r par dep) (Yt m rs r par dep tl v) (cK rs par) v k=Bv m rs r par dep tl k/\beK (Yt m rs r par dep tl v) k=XD m rs r par dep tl k:=λk hk=>by
    have w:=(bO g R vm.1 vm.2).mp hk;have ec:((cK rs par k:Nat):Int)=tup rs par k:=bH (by have:=(jX g R w.1.1 w.1.2 w.2.1).1;lia);unfold frK Bv beK XD;rw[ec,w.2.2,show(cM m rs r par dep).getD k.toNat 0=υ m rs r par dep k from fL w.1.1 w.1.2,show(cM m rs r par dep).getD v.toNat 0=υ m rs r par dep v from fL vm.1 vm.2];exact⟨rfl,rfl⟩
   walk_at "";refine⟨o,dx',p,t,lw,lb,ka,lr,ϵ,_,m,ps,rs,cM m rs r par dep,_,_,rv,v,kd m rs r par v,Yt m rs r par dep tl v,XE m rs r par dep tl,cK rs par,oR m rs r par dep,rfl,ob',o9 _ _ _ _ _ _,wz _ _ _ _ _ _,wH _ _ _ _ _ _,p7 _ _ _ _ _ _,oA _ _ _ _ _ _,Le.web,Le.hw,?_,Le.hb,Le.hk,Le.hr,vm,?_,?_,Rw,?_,?_,?_⟩
   .have:(cM m rs r par dep).length=m.toNat:=lS
    lia
   .exact(Lx vm.1).symm.trans (Jf vm.1 vm.2)
   .rw[aF,Yk]
    rfl
   .intro k hk;have w:=(bO g R vm.1 vm.2).mp hk;obtain⟨k',tk,t2,t6⟩:=lY g R w.1.1 w.1.2 w.2.1;have et':tup rs par k=k':=by
     unfold tup;rw[tk]
     rfl
    have ek:((cK rs par k:Nat):Int)=k':=by
     unfold cK;rw[et'];exact bH (by lia)
    obtain⟨_,lp,ϩ,h1,h2,h3,h4⟩:=Le.ϕ k (aka k hk);have wst:=qy (fr:=Bv m rs r par dep tl) (be:=XD m rs r par dep tl) (c:=cK rs par) g R w.1.1 w.1.2;refine⟨w.1.1,w.1.2,by rw[ek,<-w.2.2];exact tk,by lia,by lia,KZ g R (λu u0 u1 ur=>?_) (m.toNat-dep k) w.1.1 w.1.2 (aA _),?_⟩
    .have:=jX g R u0 u1 ur;unfold cK
     lia
    .obtain⟨sr,es⟩:=wa (kd m rs r par k);rw[es]at h4;cases h4 with
     | cons e he=>
       obtain⟨cs,c1,c2⟩:=e;refine⟨lp,_,_,cs,h1,h3,c1,?_⟩;have:=c2.le (b':=15000) (tR (by have:=jQ g R w.1.1 w.1.2;have:=pK g R w.1.1 w.1.2;lia));refine⟨this.ne,this.len,this.bt,λn=>(this.val n).trans ?_⟩;show _=wy m rs r par dep (Bv m rs r par dep tl) (XD m rs r par dep tl) (cK rs par) k n;rw[wst]
       rfl
   .rw[jQ g R vm.1 vm.2];exact pK g R vm.1 vm.2
   .intro l ϩ H11 nl s11 e11 ra;have T11:=Le.same s11;obtain⟨dx2,ϻ⟩:=T11.ob;have nll:l≠lr:=λz=>by rw[z,Le.hr]at nl;cases nl
    have ra':tW H11 (Yg (oR m rs r par dep)) (ϐ (Bv m rs r par dep tl) (XD m rs r par dep tl) (λk g=>XE m rs r par dep tl k (Pb.Β (cK rs par k) g))) ϩ (ZO (kd m rs r par v)):=Fy (λa ZP hk' ⟨cs,c1,c2⟩=>⟨cs,c1,by
     have e:=wW (fr:=frK (cM m rs r par dep) (Yt m rs r par dep tl v) (cK rs par) v) (be:=beK (Yt m rs r par dep tl v)) (ws:=λk g=>XE m rs r par dep tl k (Pb.Β (cK rs par k) g)) (fr':=Bv m rs r par dep tl) (be':=XD m rs r par dep tl) (ws':=λk g=>XE m rs r par dep tl k (Pb.Β (cK rs par k) g)) (ks:=ZP) λk hk=>⟨(frx k (Ch hk' k hk)).1,(frx k (Ch hk' k hk)).2,rfl⟩;rw[<-e];exact c2⟩) ra
    refine⟨T.Tally,dx2,_,ϻ,T.cQ,T.ϫ,_,oA _ _ _ _ _ _,rX T11.hr vm.1 (by rw[T11.rl];lia) (hN _ _ ⟨?_,rv.set v.toNat (.ref l),some (V.int v),?_,rfl⟩)⟩
    .exact λb y hb nb=>by rw[aO (bQ hb ajY)];exact s11 _ _ (k10 b y hb nb)
    .have nv:∀u,u∈(cW m rs r par dep r).reverse.take i->u≠v:=λu hu z=>by
      have nd:(cW m rs r par dep r).reverse.Nodup:=((List.reverse_perm _).nodup_iff).mpr nd2;have il:=(aq.mp hv).1;rw[z]at hu;obtain⟨j,hj⟩:=cL hu;have jl:=(aq.mp hj).1;rw[bd]at jl;rw[hZ (by lia)]at hj;have:=(fF (by lia) nd).mp (hj.trans hv.symm)
      lia
     have Zx:=T11.put Β hlw hlb hlk hkl vm.1 vm.2 nv nll e11 ra';refine⟨Zx.ob,Zx.web,Zx.rt,Zx.et,Zx.or,Zx.hd,Zx.hw,Zx.hb,Zx.hk,Zx.kp,Zx.hr,Zx.rl,Zx.rn,λu hu=>Zx.ϕ u ?_⟩;rw[bL,hv]at hu;rcases bc.mp hu with hu|hu
     .exact .inr hu
     .exact .inl (by simpa using hu)
  .rintro σ H10 ⟨k10,rv,v3,Le,rfl⟩;refine k tl ld lw lb ka lr kl rv H10 ⟨Le.ob,Le.web,Le.rt,Le.et,Le.or,Le.hd,Le.hw,Le.hb,Le.hk,Le.kp,Le.hr,Le.rl,Le.rn,λv hv=>Le.ϕ v ?_⟩ k10;rw[ah,<-bj,bp,eT];exact(al2 v).mpr hv
def sR(T:Txt K mg):Sp:=λvs H Q _=>E12 λ(dt lo b:Addr)(qs:List Addr)(rs:List Road)(t xs:List Int)(m r w:Int)(par:Int->Int)(dep:Int->Nat)=>vs=[.ref dt,.ref lo,.ref b,.int w]/\ϋ H dt rs/\Good m rs/\ε m rs r par dep/\H lo=some (.lst (qs.map V.ref))/\ω H r par qs (r::t)/\Order m r par t/\(0<=r/\r<m)/\H b=some (.lst (xs.map V.int))/\(xs.length:Int)=m/\(∀x∈xs,x.natAbs<2^4000)/\(w-1).natAbs<2^4000/\∀H',δ H H'->Q (.int (ϱ m rs r par xs w)) H'
abbrev oJ:Stmt:=top 84
theorem FA:ζ ["tolls","order","weights","wanted","bound","place","near"] ["tolls","order","weights","wanted"] (aJ oJ):=.of
theorem EH(T:Txt K mg)(hq:bU (ψ P w)):Ok P w K mg base "_law_bound" oJ ["tolls","order","weights","wanted"] 1 (sR T):=λ_ _ D=>by
 refine D.F.ϔ FA (by walk_at "v") λς A outer s H vs Q E hr h=>?_;obtain⟨dt,lo,b,qs,rs,t,xs,m,r,w,par,dep,rfl,ta,g,R,ho,pa,O,rr,hb,xl,xb,wb,k⟩:=h;have Ζ:=g.Ζ;have hu:=oS hr;refine⟨_,(ao (ρ 4 (aX mR (Δ bB (γ 2) (iL g9 (iL bB (γ 1) az (λ_ _=>rfl)) az (λ_ _=>rfl))) (aX fH (γ 3) az))) (ao (eZ PassesOwn.never rfl (hG (vW yd (γ 1) (vA az) Cd)) (jo (n:=2) rfl (bW (Φ 5) (bW (Φ 6) gK))) (aL (ρ 4 (aX dN (γ 4) (aX kH (Δ bB (γ 2) (γ 5)) (aX fH (vw hu (γ 0) (gS (aa (γ 5) (aa (γ 6) ay))) (λ_ _=>rfl)) az)))))) (aL (bG (γ 4))))),?_⟩;walk_at "s";unfold tSl Bf Xq;walk_at "";have ql:qs.length=(r::t).length:=Paired.length pa;obtain⟨q0,Xr,rfl⟩:∃q0 Xr,qs=q0::Xr:=by
  cases qs with
  | nil=>cases ql
  | cons a l=>exact⟨a,l,rfl⟩
 have e0:H q0=some (.tup (vPr r par r)):=by cases pa with|cons h _=>exact h
 have pt:ω H r par Xr t:=by cases pa with|cons _ h=>exact h
 have hm:=Jd (cs:=xs) (i:=r.toNat) (by lia);refine Ε ho (cq (bA _) rfl) (XI e0 rfl (Ε hb (lE rr.1 (by lia)) ⟨_,rfl,MT (xb _ hm) wb,?_⟩));refine⟨lo,_,rfl,μ.of ho,λp np=>?_⟩;rw[Gz _ (by decide),aH,show(1:Int).toNat=1 from rfl,j2,ir];have s1:=δ.new (.lst (Xr.map V.ref)) np;have e1:upd H p (.lst (Xr.map V.ref)) p=some (.lst (Xr.map V.ref)):=ax;generalize upd H p (.lst (Xr.map V.ref))=H1 at s1 e1 ⊢;refine⟨p,rfl,⟨_,μ.of e1⟩,?_⟩;have ql':Xr.length=t.length:=Paired.length pt;refine uh (K:=K) (xs:=Xr.map V.ref) (λi σ H3=>δ H1 H3/\∃(v5 v6:Option V),σ=[some (V.ref dt),some (V.ref lo),some (V.ref b),some (V.int w),some (V.int (xs.getD r.toNat 0*(w-1)+((t.take i).map (Zu rs par xs)).sum)),v5,v6]) ⟨δ.refl _,_,_,by rw[d6,d8,List.sum_nil,nM]⟩ (λi σ H3 _ z=>μ.of (z.1 _ _ e1)) ?_ ?_
 .rintro i x σ H3 N hN hx ⟨s3,v5,v6,rfl⟩;obtain⟨q,v,rfl,Io,hv,eq⟩:=pt.get hx;have vm:=aM hv;have vr:=O.Μ v vm;have Yl:=s1.trans s3;obtain⟨kk,hk,k0,k1⟩:=lY g R vr.1 vr.2 (O.ne vm);have fv:Pb.front r par v=V.int (par v):=by unfold Pb.front;rw[ag (O.ne vm)]
  walk_at "";refine⟨_,Η.of (Yl _ _ eq),rfl,_,_,rfl,_,_,rfl,rfl,?_⟩;rw[fv];refine Ε (Yl _ _ hb) (lE vr.1 (by lia)) ⟨bN (by simp),λq' Zf=>?_⟩;have s6:=δ.new (.tup [V.int v,V.int (par v)]) Zf;have get:ϙ (upd H3 q' (.tup [V.int v,V.int (par v)])) dt (V.ref q') (some (V.int kk)):=by
   obtain⟨η,Yv,hv2⟩:=(ta.same Yl).ex;have hg:=ϙ.t (k:=[.inl v,.inl (par v)]) (s6 _ _ Yv) ax;rw[hv2,hk]at hg;exact hg
  refine⟨_,get,_,rfl,_,rfl,.inr ⟨by lia,by lia⟩,hN _ _ ⟨s3.trans s6,some (V.int v),some (V.int (par v)),?_⟩⟩;rw[Ak hv];unfold Zu;rw[hk,Int.add_assoc]
  rfl
 .rintro σ H3 ⟨s3,v5,v6,rfl⟩;rw[ah,ql',bp,O.sums];walk_at "";exact k _ (s1.trans s3)
def uC(T:Txt K mg):Sp:=λvs H Q _=>E3 λ(a:Addr)(ns:List Int)(k:Int)=>vs=[.ref a,.int k]/\μ K H a (ns.map V.int)/\0<=k/\∀v,Q (.int v) H
abbrev pC:Stmt:=top 75
theorem Ha:ζ ["script","k"] ["script","k"] (aJ pC):=.of
theorem GW(T:Txt K mg)(hq:bU (ψ P w)):Ok P w K mg base "_law_cell" pC ["script","k"] 1 (uC T):=λ_ _ D=>by
 refine D.F.ϔ Ha (by walk_at "v") λς A outer s H vs Q E hr h=>?_;obtain⟨a,ns,i,rfl,ha,h0,k⟩:=h;refine⟨_,(ao (dz (ό pJ (γ 1) (dO gO T.len (aa (γ 0) ay))) (aL (bG (Δ bB (γ 0) (γ 1)))) ce) (aL (bG az))),?_⟩;walk_at "s";walk_at "";refine⟨_,.inl ha,?_⟩;rw[ah];by_cases c:i<(ns.length:Int)
 .rw[aj c];have hi:i.toNat<ns.length:=by lia
  exact ixS ha (cq h0 (v:=.int ns[i.toNat]) (by rw[aF,ap hi];rfl)) (k _)
 .rw[ag c];exact k 0
def yN(T:Txt K mg):Sp:=λvs H Q _=>E4 λ(d:Addr)(rs:List Road)(m r:Int)=>vs=[.int m,.ref d,.int r]/\ϋ H d rs/\Good m rs/\(0<=r/\r<m)/\∃par dep,ε m rs r par dep/\∀lo qs t H',H lo=none->δ H H'->H' lo=some (.lst (qs.map V.ref))->ω H' r par qs (r::t)->Order m r par t->Q (.ref lo) H'
abbrev my:Stmt:=top 82
theorem uy:ζ ["many","tolls","r","order","at","place","near"] ["many","tolls","r"] (aJ my):=.of
theorem yC:ZU (aJ my) "place":=.of (by kernel_rfl)
theorem zp:ZU (aJ my) "near":=.of (by kernel_rfl)
theorem yL:ϗ (aJ my) "range":=.of (by kernel_rfl)
theorem Hg(T:Txt K mg)(hq:bU (ψ P w)):Ok P w K mg base "_law_down" my ["many","tolls","r"] 1 (yN T):=λ_ _ D=>by
 refine D.F.ϔ uy (by walk_at "v") λς A outer s H vs Q E hr h=>?_;obtain⟨d,rs,m,r,rfl,ta,g,rr,par,dep,R,k⟩:=h;have hu:=oS hr;have Ζ:=g.Ζ;refine⟨_,(ao (ρ 3 (eC (aa (gS (aa (γ 2) (aa AU ay))) ay))) (ao (ρ 4 az) (ao (qK PassesOwn.never (ό pJ (γ 4) (dO gO T.len (aa (γ 3) ay))) (ao (jW (Δ bB (γ 3) (γ 4)) (jo (n:=2) rfl (bW (fN (i:=5) uy.nd rfl (Or.inr yC.l)) (bW (fN (i:=6) uy.nd rfl (Or.inr zp.l)) gK)))) (ao (dH (jI PySem.F.plainAttrs_list PySem.F.slot_list_extend PySem.F.type_list_extend LB (γ 3) (aa (kN rfl (ZY ["other","place","near","tolls"] 1 [5,6,1]) (kZ yL.g T.range (aa (γ 0) ay)) (λ_ _ _ _=>(fN (i:=0) (show(["other","place","near","tolls"]:List Str).Nodup from by decide +kernel) rfl (Or.inl rfl))) (λ_ _ _ _=>(uQ (PW.pt (rj (ό sG (pv 0) (pv 2)) (pp (Gd (Vy hu (gS (aa (pv 1) (aa (pv 0) ay))) (pv 3)))))))) (λ_ _ _ _=>(gS (aa (pv 0) (aa (pv 1) ay))))) ay))) (aL (ρ 4 (aX dN (γ 4) az)))))) (aL (bG (γ 3)))))),?_⟩;walk_at "s";walk_at "";refine⟨bN (by simp),λq0 n0=>⟨bN (by simp),λlo nlo=>?_⟩⟩;have s1:=δ.new (.tup [V.int r,V.ο]) n0;have nl0:=s1.free nlo;have s2:=s1.trans (δ.new (.lst [V.ref q0]) nlo);have nql:q0≠lo:=λz=>by rw[<-z,ax]at nlo;cases nlo
 have e2:upd (upd H q0 (.tup [V.int r,V.ο])) lo (.lst [V.ref q0]) lo=some (.lst [V.ref q0]):=ax;have f2:upd (upd H q0 (.tup [V.int r,V.ο])) lo (.lst [V.ref q0]) q0=some (.tup (vPr r par r)):=by
  rw[aO nql,ax];unfold vPr Pb.front;rw[aj rfl]
 generalize upd (upd H q0 (.tup [V.int r,V.ο])) lo (.lst [V.ref q0])=H2 at s2 e2 f2 ⊢;have lim:∀{t:List Int}{ws:List Int},ώ m rs r par t ws->(r::t).length<=m.toNat:=λ{t ws} J=>by
  have:=gx (m:=m) (by lia) (bn.mpr ⟨J.nr,J.nd⟩) λv hv=>by
   rcases ar.mp hv with e|e
   .rw[e];exact rr
   .exact J.Μ v e
  lia
 refine vg (λn σ H4=>E5 λ(t:List Int)(qs:List Addr)(k:Nat)(v5 v6:Option V)=>n=m.toNat-k/\k<=(r::t).length/\σ=[some (.int m),some (.ref d),some (.int r),some (.ref lo),some (.int (k:Nat)),v5,v6]/\δ H H4/\H4 lo=some (.lst (qs.map V.ref))/\ω H4 r par qs (r::t)/\Bfs m rs r par t k) m.toNat ⟨[],[q0],0,_,_,rfl,bz _,rfl,s2,e2,.cons f2 .nil,Bfs.start⟩ ?_;rintro n σ H4 NW hN Ys ⟨t,qs,kk,v5,v6,rfl,kle,rfl,s4,ho,pa,S⟩;have tl:=lim S.J;have ql:qs.length=(r::t).length:=Paired.length pa;walk_at "";refine⟨_,.inl (μ.of ho),?_⟩;rw[ah,ql];by_cases c:kk=(r::t).length
 .rw[ag (by lia)];exact k lo qs t H4 nl0 s4 ho pa (S.done R (by lia))
 .rw[aj (by lia)];have klt:kk<(r::t).length:=by lia
  obtain⟨p,hp⟩:∃p,(r::t)[kk]?=some p:=⟨_,ap klt⟩;have S':=S.step g R rr.1 rr.2 hp;have tl':=lim S'.J;have pr:0<=p/\p<m:=by
   rcases ar.mp (aM hp)with e|e
   .rw[e];exact rr
   .exact S.J.Μ p e
  refine⟨NW,λσ' H' z=>?_,?_⟩
  .obtain⟨m',lt,t',Xr,k',a5,a6,e1,e2,e3⟩:=Ys _ _ z
   first|exact⟨m',lt,t',Xr,k',a5,a6,e1,e2,e3⟩|exact⟨m',lt,t',Xr,k',e1,e2,a5,a6,e3⟩
  obtain⟨qx,hqx⟩:∃qx,qs[kk]?=some qx:=⟨_,ap (by lia)⟩;obtain⟨qp,pv,e1,e2,e3,e4⟩:=pa.get (i:=kk) (x:=.ref qx) (by rw[aF,hqx];rfl);injection e1 with e1
  subst e1;rw[hp]at e3;cases e3;refine Ε ho (IY (by rw[aF,hqx];rfl)) ⟨qx,rfl,_,Η.of e4,rfl,_,_,rfl,_,_,rfl,rfl,?_⟩;refine⟨oK ho,by lia,by lia,λpc XC=>?_⟩;have mk:∀v,v∈bP m rs (Pb.front r par p) p->(0<=v/\v<m)/\v≠r/\par v=p:=λv=>(bO g R pr.1 pr.2).mp;have inK:∀i:Nat,i<m.toNat->(cX rs p (i:Int)).isSome=true->V.int (i:Int)≠Pb.front r par p->(i:Int)∈bP m rs (Pb.front r par p) p:=λi hi h1 h2=>by
   rw[<-AF];unfold kT;exact b5.mpr ⟨b5.mpr ⟨gq.mpr ⟨by lia,by lia⟩,h1⟩,bg h2⟩
  have ktl:∀i:Nat,i<=m.toNat->(kT rs (Pb.front r par p) p i).length<=24:=λi hi=>by
   unfold kT;refine aU (cA _ _) (aU (cA _ _) ?_);rw[da]
   lia
  have fvs:∀i:Int,pP (.int i) (Pb.front r par p)=true:=λi=>by
   unfold Pb.front;by_cases z:p=r
   .rw[aj z];rfl
   .rw[ag z];rfl
  rw[<-AF]at S' tl';have nlp:lo≠pc:=λz=>by rw[<-z,ho]at XC;cases XC
  refine pZ (λi zs σ H5=>δ H4 H5/\H5 pc=some (.lst zs)/\(∃Xr:List Addr,zs=Xr.map V.ref/\ω H5 r par Xr (kT rs (Pb.front r par p) p i))/\∃v,σ=[v,some (.int p),some (Pb.front r par p),some (.ref d)]) ⟨δ.new _ XC,ax,⟨[],rfl,.nil⟩,_,rfl⟩ ?_ ?_
  .rintro i zs σ H5 N hN hi ⟨s5,hc,⟨Xr,rfl,pa'⟩,v7,rfl⟩;rw[dq];have kl:=ktl i (by lia);have ql':Xr.length=(kT rs (Pb.front r par p) p i).length:=Paired.length pa';walk_at "";refine⟨fvs _,?_⟩;by_cases c1:V.int (i:Int)=Pb.front r par p
   .rw[ag (λz=>z c1)];exact hN _ _ _ ⟨s5,hc,⟨Xr,rfl,by rw[BR (λ_ z=>z c1)];exact pa'⟩,_,rfl⟩
   .rw[aj c1];refine⟨bN (by simp),λq nq=>?_⟩;have s6:=δ.new (.tup [V.int p,V.int (i:Int)]) nq;obtain⟨η,Yv,hv⟩:=(ta.same (s4.trans s5)).ex;have hg:=ϙ.t (k:=[.inl p,.inl (i:Int)]) (s6 _ _ Yv) ax;rw[hv]at hg;refine⟨_,hg,?_⟩;by_cases c2:(cX rs p (i:Int)).isSome=true
    .rw[aj (by rw[gC];exact c2)];obtain⟨_,kr,kp⟩:=mk _ (inK i hi c2 c1);refine⟨bN (by simp),λq' Zf=>?_⟩;have s7:=s6.trans (δ.new (.tup [V.int (i:Int),V.int p]) Zf);have hc7:=s7 _ _ hc;have nqo:q'≠pc:=λz=>by rw[z,s6 _ _ hc]at Zf;cases Zf
     refine⟨hc7,ff (by rw[ah];lia),hN _ _ _ ⟨(s5.trans s7).put XC _,ax,⟨Xr++[q'],by rw[aD];rfl,?_⟩,_,rfl⟩⟩;rw[KU c2 c1];refine ω.snoc ?_ (Paired.imp' (λa b h=>by rw[aO (hW (s7 _ _ h) hc7 (by intro z;cases z))];exact s7 _ _ h) pa');rw[aO nqo,ax];unfold vPr Pb.front;rw[ag kr,kp]
    .rw[ag (by rw[gC];exact c2)];exact hN _ _ _ ⟨s5.trans s6,s6 _ _ hc,⟨Xr,rfl,by rw[BR (λz=>absurd z c2)];exact ω.same s6 pa'⟩,_,rfl⟩
  .rintro zs σ H5 ⟨s5,hc,⟨Xr,rfl,pa'⟩,v7,rfl⟩;have ql':Xr.length=(kT rs (Pb.front r par p) p m.toNat).length:=Paired.length pa';have kl:=ktl m.toNat (aA _);have ho5:=s5 _ _ ho;rw[aE]at tl klt;refine⟨lo,pc,_,_,rfl,rfl,ho5,hc,bN (by rw[ah,ah,ql,aE];lia),?_⟩;refine hN (m.toNat-(kk+1)) _ _ (by lia) ⟨_,qs++Xr,kk+1,_,_,rfl,by rw[aE,aP];lia,rfl,(s4.trans s5).put nl0 _,by rw[ax,aD],?_,S'⟩;have kp:∀a b,H5 a=some (.tup (vPr r par b))->upd H5 lo (.lst (qs.map V.ref++Xr.map V.ref)) a=some (.tup (vPr r par b)):=λa b h=>by rw[aO (hW h ho5 (by intro z;cases z))];exact h
   exact IH (Paired.imp' kp pa') (Paired.imp' kp (ω.same s5 pa))
def AQ(T:Txt K mg):Sp:=λvs H Q _=>E12 λ(q b:Addr)(m:Int)(xs:List Int)(pick r w num need count:Int)(good fl:Bool)=>vs=[.int pick,.int m,.ref q,.int need,.int count,.bl good]/\H q=some (.tup [.int r,.int w,.ref b,.int num])/\H b=some (.lst (xs.map V.int))/\1<=m/\fl=(decide ((xs.length:Int)=m)&&xs.all λx=>decide (0<=x))/\∀H',δ H H'->Q (.str (du7 pick m r w fl num need count good)) H'
abbrev rB:Stmt:=top 87
theorem Jz:ζ ["pick","many","case","need","count","good","r","wanted","laying","number"] ["pick","many","case","need","count","good"] (aJ rB):=.of
theorem qH:ϗ (aJ rB) "min":=.of (by kernel_rfl)
theorem K8(T:Txt K mg)(hq:bU (ψ P w)):Ok P w K mg base "_law_due" rB ["pick","many","case","need","count","good"] 1 (AQ T):=λ_ _ D=>by
 refine D.F.ϔ Jz (by walk_at "v") λς A outer s H vs Q E hr h=>?_;obtain⟨q,b,m,xs,pick,r,w,num,need,count,good,fl,rfl,hq,hb,m1,ef,k⟩:=h;have hu:=oS hr;refine⟨_,(ao (jW (γ 2) (jo (n:=4) rfl (bW (Φ 6) (bW (Φ 7) (bW (Φ 8) (bW (Φ 9) gK)))))) (ao (dz (PW.pt (Bd (ό pJ (γ 6) az) (xa (ό KD (γ 6) (γ 1))))) (aL (bG gR)) ce) (ao (dz (ό pJ (γ 7) az) (aL (bG gR)) ce) (ao (dz (PW.pt (rj (ό ED (γ 0) az) (pp (ό ED (γ 3) (aX rh az az))))) (aL (bG gR)) ce) (ao (dz (PW.pt (rj (sK Dz (γ 0) (gS (aa az (aa az ay))) (by with_unfolding_all rfl)) (pp (PW.pt (Bd (ό sG (dO gO T.len (aa (γ 8) ay)) (γ 1)) (xa (ό pJ (Q2 rfl qH.g T.min Uw (aa (γ 8) ay) (Rb az TR) (hn:=qH.n) (hdb:=qH.d)) az))))))) (aL (bG gR)) ce) (ao (dz (PW.pt (Bd (PW.pt (rj (ό gc (γ 0) az) (pp (PW.pt (Bd (ό pJ (γ 9) az) (xa (ό KD (γ 9) (γ 4)))))))) (xa (PW.pt (rj (ό gc (γ 0) az) (pp (mL (qm (γ 5) (λ_=>rfl))))))))) (aL (bG gR)) ce) (aL (bG gR)))))))),?_⟩;walk_at "s";refine cN λN1 h1=>?_;walk_at "";refine⟨_,Η.of hq,rfl,_,_,rfl,_,_,rfl,_,_,rfl,_,_,rfl,rfl,h1 _ _ (cN λN2 h2=>?_)⟩;unfold du7 at k;walk_at "";by_cases a1:r<0
 .rw[aj a1];rw[aj (.inl a1)]at k;exact k H (δ.refl _)
 rw[ag a1];by_cases a2:m<=r
 .rw[aj a2];rw[aj (.inr a2)]at k;exact k H (δ.refl _)
 rw[ag a2];rw[ag (by lia)]at k;refine h2 _ _ (cN λN3 h3=>?_);walk_at "";by_cases a3:w<1
 .rw[aj a3];rw[aj a3]at k;exact k H (δ.refl _)
 rw[ag a3];rw[ag a3]at k;refine h3 _ _ (cN λN4 h4=>?_);walk_at "";have nx:¬(1<pick/\1000000000000<need)->N4 [some (V.int pick),some (V.int m),some (V.ref q),some (V.int need),some (V.int count),some (V.bl good),some (V.int r),some (V.int w),some (V.ref b),some (V.int num)] H:=λa4=>by
  rw[ag a4]at k;refine h4 _ _ (cN λN5 h5=>?_);walk_at "";refine⟨bN (by simp),λp np=>?_⟩;have s1:=δ.new (HO.tup [V.int 0,V.int 3]) np;have e1:upd H p (HO.tup [V.int 0,V.int 3]) p=some (.tup [V.int 0,V.int 3]):=ax;generalize upd H p (HO.tup [V.int 0,V.int 3])=H1 at s1 e1 ⊢;have fin:¬((pick=0\/pick=3)/\fl=false)->N5 [some (V.int pick),some (V.int m),some (V.ref q),some (V.int need),some (V.int count),some (V.bl good),some (V.int r),some (V.int w),some (V.ref b),some (V.int num)] H1:=λa5=>by
   rw[ag a5]at k;refine h5 _ _ ?_;walk_at "";by_cases d2:pick=2
   .rw[aj d2];by_cases d3:num<0
    .rw[aj d3];rw[aj (.inl ⟨d2,.inl d3⟩)]at k;exact k _ s1
    rw[ag d3];by_cases d4:count<=num
    .rw[aj d4];rw[aj (.inl ⟨d2,.inr d4⟩)]at k;exact k _ s1
    rw[ag d4,ag (by lia)];rw[ag (by lia)]at k;exact k _ s1
   .rw[ag d2];by_cases d3:pick=3
    .rw[aj d3];refine⟨good,by simp[Ol],?_⟩;cases good with
     | false=>
       rw[aj rfl];rw[aj (.inr ⟨d3,rfl⟩)]at k;exact k _ s1
     | true=>
       rw[ag (by decide)];rw[ag (by intro z;rcases z with z|z;lia;cases z.2)]at k;exact k _ s1
    .rw[ag d3];rw[ag (by lia)]at k;exact k _ s1
  refine⟨p,_,rfl,.inr (Η.of e1),rfl,ut [0,3],_,rfl,?_⟩;rw[show inV (V.int pick) [V.int 0,V.int 3]=decide (pick=0\/pick=3)from(sY pick [0,3]).trans (by simp)];by_cases a6:pick=0\/pick=3
  .rw[bg a6,aj (by decide)];refine⟨_,.inl (μ.of (s1 _ _ hb)),?_⟩;rw[ah];by_cases a7:(xs.length:Int)=m
   .rw[ag (λz=>z a7)];refine⟨xs,μ.of (s1 _ _ hb),λz=>by rw[z]at a7;simp at a7;lia,λy hy hm=>?_⟩;rw[bg a7,iT]at ef;by_cases a8:y<0
    .rw[aj a8];rw[aj ⟨a6,by rw[ef,List.all_eq_false];exact⟨y,hy,by simp;lia⟩⟩]at k;exact k _ s1
    .rw[ag a8];refine fin λz=>?_;rw[ef,List.all_eq_false]at z;obtain⟨x,hx,hn⟩:=z.2;have:=hm x hx;simp at hn
     lia
   .rw[aj a7];rw[aj ⟨a6,by rw[ef,aQ a7];rfl⟩]at k;exact k _ s1
  .rw[aQ a6,ag (by decide)];exact fin λz=>a6 z.1
 by_cases b1:1<pick
 .rw[aj b1];refine⟨⟨by decide,by decide,by decide⟩,?_⟩;rw[show(10:Int)^Int.toNat 12=1000000000000 by decide];by_cases b2:1000000000000<need
  .rw[aj b2];rw[aj ⟨b1,b2⟩]at k;exact k _ (δ.refl _)
  .rw[ag b2];exact nx λz=>b2 z.2
 .rw[ag b1];exact nx λz=>b1 z.1
def pD(T:Txt K mg):Sp:=λvs H Q _=>E9 λ(dt lo:Addr)(qs:List Addr)(rs:List Road)(t:List Int)(m r:Int)(par:Int->Int)(dep:Int->Nat)=>vs=[.ref dt,.ref lo]/\ϋ H dt rs/\Good m rs/\ε m rs r par dep/\H lo=some (.lst (qs.map V.ref))/\ω H r par qs (r::t)/\Order m r par t/\t.length+1=m.toNat/\∀l H',H l=none->δ H H'->H' l=some (.lst ((cM m rs r par dep).map V.int))->Q (.ref l) H'
abbrev lm:Stmt:=top 83
theorem F9:ζ ["tolls","order","weights","place","near"] ["tolls","order"] (aJ lm):=.of
theorem uY:ϗ (aJ lm) "reversed":=.of (by kernel_rfl)
theorem Fp(T:Txt K mg)(hq:bU (ψ P w)):Ok P w K mg base "_law_least" lm ["tolls","order"] 1 (pD T):=λ_ _ D=>by
 refine D.F.ϔ F9 (by walk_at "v") λς A outer s H vs Q E hr h=>?_;obtain⟨dt,lo,qs,rs,t,m,r,par,dep,rfl,ta,g,R,ho,pa,O,tl,k⟩:=h;have m1:=g.m1;have Ζ:=g.Ζ;have hu:=oS hr;have ql:qs.length=(r::t).length:=Paired.length pa;rw[aE]at ql;refine⟨_,(ao (ρ 2 (aX pR (eC (aa az ay)) (dO gO T.len (aa (γ 1) ay)))) (ao (eZ PassesOwn.never rfl (tG uY.g T.reversed (γ 1)) (jo (n:=2) rfl (bW (Φ 3) (bW (Φ 4) gK))) (aL (dz (Gd (Rv (γ 4))) (aL (jW (dO (nA rfl) T.max (aa (Δ bB (γ 2) (γ 4)) (aa (aX kH (Δ bB (γ 2) (γ 3)) (vw hu (γ 0) (gS (aa (γ 3) (aa (γ 4) ay))) (λ_ _=>rfl))) ay))) (mK (γ 2) (γ 4) iW))) ce))) (aL (bG (γ 2))))),?_⟩;walk_at "s";walk_at "";refine⟨bN (by simp),λl0 n0=>?_⟩;have s0:=δ.new (.lst [V.int 1]) n0;refine⟨_,.inl (μ.of (s0 _ _ ho)),?_⟩;rw[ah];refine⟨l0,_,_,rfl,rfl,ax,by lia,by lia,bN (by simp;lia),λl n1=>?_⟩;rw[Av];rw[show((qs.length:Int)).toNat=m.toNat by lia];have s1:=s0.trans (δ.new (.lst (List.replicate m.toNat (V.int 1))) n1);have nl:=s0.free n1;have e1:upd (upd H l0 (.lst [V.int 1])) l (.lst (List.replicate m.toNat (V.int 1))) l=some (.lst ((List.replicate m.toNat (1:Int)).map V.int)):=by rw[ax,gb]
 have nlo:lo≠l:=λz=>by rw[<-z,s0 _ _ ho]at n1;cases n1
 generalize upd (upd H l0 (.lst [V.int 1])) l (.lst (List.replicate m.toNat (V.int 1)))=H1 at s1 e1 ⊢;refine⟨_,μ.of (s1 _ _ ho),?_⟩;have st:ϰ mx m rs r par dep (λ_=>1) (bor rs par) [] (List.replicate m.toNat (1:Int)):=ϰ.nil (by rw[bT];lia) λv v0 v1=>by
  rw[List.getD,jB (by lia)];rfl
 refine qD (K:=K) (xs:=qs.map V.ref) (λi σ H5=>δ H H5/\E3 λ(cs:List Int)(v6 v7:Option V)=>H5 l=some (.lst (cs.map V.int))/\ϰ mx m rs r par dep (λ_=>1) (bor rs par) (t.drop (t.length-i)) cs/\σ=[some (V.ref dt),some (V.ref lo),some (V.ref l),v6,v7]) ⟨s1,_,_,_,e1,by rw[kK,jd];exact st,rfl⟩ (λi σ H5 _ z=>μ.of (z.1 _ _ ho)) ?_ ?_
 .rintro i x σ H5 N hN hx ⟨s5,cs,v6,v7,c5,so,rfl⟩;have il:=(aq.mp hx).1;rw[bj,ah,ql]at il;rw[cB (by rw[ah,ql];lia),ah,ql]at hx;obtain⟨q,v,rfl,hq,hv,e5⟩:=pa.get hx;have Zm:(r::t).reverse[i]?=some v:=by rw[cB (by rw[aE];lia),aE];exact hv
  rw[dW]at Zm;have cl:=so.len;walk_at "";refine⟨_,Η.of (s5 _ _ e5),rfl,_,_,rfl,_,_,rfl,rfl,?_⟩;walk_at "";by_cases ci:i<t.length
  .rw[dA (by rw[bj];exact ci)]at Zm;obtain⟨⟨vr,vn⟩,ev,so'⟩:=O.acf ye g R so Zm;have u:=R.up v vr.1 vr.2 vn;obtain⟨kd,hd,d0,d1⟩:=lY g R vr.1 vr.2 vn;have fv:Pb.front r par v=V.int (par v):=(by unfold Pb.front;rw[ag vn]);rw[fv];have nn:¬V.int (par v)=V.ο:=(by intro z;cases z);rw[aj nn];refine Ε c5 (lE u.1.1 (by lia)) (Ε c5 (lE vr.1 (by lia)) ⟨bN (by simp),λq' Zf=>?_⟩);have s6:=δ.new (.tup [V.int v,V.int (par v)]) Zf;have get:ϙ (upd H5 q' (.tup [V.int v,V.int (par v)])) dt (V.ref q') (some (V.int kd)):=by
    obtain⟨η,Yv,hv2⟩:=(ta.same s5).ex;have hg:=ϙ.t (k:=[.inl v,.inl (par v)]) (s6 _ _ Yv) ax;rw[hv2,hd]at hg;exact hg
   have c6:=s6 _ _ c5;refine⟨_,get,_,rfl,_,rfl,.inr ⟨by lia,by lia⟩,_,_,⟨rfl,rfl⟩,rX c6 u.1.1 (by rw[ah];lia) (hN _ _ ⟨(s5.trans s6).put nl _,tU mx par (bor rs par) cs v,_,_,?_,so',rfl⟩)⟩;rw[ax,<-d9];unfold tU bor mx;rw[hd]
   rfl
  .have ei:i=t.reverse.length:=(by rw[bj];lia);rw[ei,dc (aA _),fC]at Zm;cases Zm;have fv:Pb.front r par r=V.ο:=(by unfold Pb.front;rw[aj rfl]);rw[fv,ag (λz=>z rfl)];refine hN _ _ ⟨s5,cs,_,_,c5,?_,rfl⟩;rw[bj]at ei;rw[show t.length-(i+1)=t.length-i by lia];exact so
 .rintro σ H5 ⟨s5,cs,v6,v7,c5,so,rfl⟩;rw[ah,ql,show t.length-(t.length+1)=0 by lia,ir]at so;rw[O.doneF ye g R so]at c5;walk_at "";exact k l H5 nl s5 c5
theorem OW(c k:Int)(k0:0<=k)(k1:k<=1000):∃a b d:Int,(c%998244353+7919*k+11)*48271%2147483647=a/\a*a%2147483629=b/\(b+104729*k+7)*b%1000000007=d/\XM 7919 k/\XM (c%998244353+7919*k+11) 48271/\XM a a/\XM 104729 k/\XM (b+104729*k+7) b/\XM d 16807/\0<=d*16807%2147483647/8/\d*16807%2147483647/8<=2147483647:=by
 have em:∀(x n:Int),0<n->0<=x%n/\x%n<n:=λx n h=>⟨cg x (jv h),b7 x h⟩;refine⟨_,_,_,rfl,rfl,rfl,?_⟩;have h1:=em ((c%998244353+7919*k+11)*48271) 2147483647 (by decide);generalize (c%998244353+7919*k+11)*48271%2147483647=a at h1 ⊢;have h2:=em (a*a) 2147483629 (by decide);generalize a*a%2147483629=b at h2 ⊢;have h3:=em ((b+104729*k+7)*b) 1000000007 (by decide);generalize (b+104729*k+7)*b%1000000007=d at h3 ⊢;have h4:=em (d*16807) 2147483647 (by decide);exact⟨.inl ⟨by decide,by decide⟩,.inr ⟨by decide,by decide⟩,.inl ⟨by lia,by lia⟩,.inl ⟨by decide,by decide⟩,.inr ⟨by lia,by lia⟩,.inr ⟨by decide,by decide⟩,by lia,by lia⟩
def wV(T:Txt K mg):Sp:=λvs H Q _=>∃(c k:Int),vs=[.int c,.int k]/\0<=k/\k<=1000/\∀v,0<=v->v<=2147483647->Q (.int v) H
abbrev qV:Stmt:=top 76
theorem EO:ζ ["cell","k","m"] ["cell","k"] (aJ qV):=.of
theorem FP(T:Txt K mg)(hq:bU (ψ P w)):Ok P w K mg base "_law_mixed" qV ["cell","k"] 1 (wV T):=λ_ _ D=>by
 refine D.F.ϔ EO (by walk_at "v") λς A outer s H vs Q E hr h=>?_;obtain⟨c,i,rfl,i0,i1,k⟩:=h;obtain⟨a,b,d,e1,e2,e3,h1,h2,h3,h4,h5,h6,h7,h8⟩:=OW c i i0 i1;refine⟨_,(ao (ρ 2 (aX dR (aX kH (aX dN (aX dN (aX dR (γ 0) az) (aX kH az (γ 1))) az) az) az)) (ao (ρ 2 (aX dR (aX kH (γ 2) (γ 2)) az)) (ao (ρ 2 (aX dR (aX kH (aX dN (aX dN (γ 2) (aX kH az (γ 1))) az) (γ 2)) az)) (aL (bG (aX eG (aX dR (aX kH (γ 2) az) az) az)))))),?_⟩;walk_at "s";walk_at "";rw[e1,e2,e3];exact⟨by decide,h1,h2,by decide,h3,by decide,h4,h5,by decide,h6,by decide,⟨by decide,by decide⟩,k _ h7 h8⟩
def vf(T:Txt K mg):Sp:=λvs H Q _=>E3 λ(a:Addr)(ns:List Int)(m:Int)=>vs=[.ref a,.int m]/\μ K H a (ns.map V.int)/\0<=m/\m<=800/\∀(l:Addr)(xs:List Int)(H':Hp),H l=none->δ H H'->H' l=some (.lst (xs.map V.int))->(xs.length:Int)=m->Q (.ref l) H'
abbrev mP:Stmt:=top 77
theorem C0:ζ ["script","many","rest","numbers","k"] ["script","many"] (aJ mP):=.of
theorem vH:ϗ (aJ mP) "range":=.of (by kernel_rfl)
theorem CM(T:Txt K mg)(hq:bU (ψ P w))(mz:Cb P w K mg base "_law_cell" pC ["script","k"] 1 (uC T))(qX:Cb P w K mg base "_law_mixed" qV ["cell","k"] 1 (wV T)):Ok P w K mg base "_law_numbers" mP ["script","many"] 2 (vf T):=λ_ _ D=>by
 refine D.F.ϔ C0 (by walk_at "v") λς A outer s H vs Q E hr h=>?_;obtain⟨a,ns,m,rfl,ha,m0,m1,k⟩:=h;refine⟨_,(ao (ρ 2 (Θ mz hr hq (aa (γ 0) (aa az ay)))) (ao (ρ 3 (eC ay)) (ao (eZ PassesOwn.never rfl (kZ vH.g T.range (aa (γ 1) ay)) (Φ 4) (aL (dz (ό gc (aX dR (Θ mz hr hq (aa (γ 0) (aa az ay))) az) az) (ao (dH (jI PySem.F.plainAttrs_list PySem.F.slot_list_append PySem.F.type_list_append fY (γ 3) (aa (aX dR (γ 2) (aX rh az az)) ay))) (aL (ρ 2 (aX vL (γ 2) (aX rh az az))))) (aL (dH (jI PySem.F.plainAttrs_list PySem.F.slot_list_append PySem.F.type_list_append fY (γ 3) (aa (aX dN (aX kH (Θ qX hr hq (aa (γ 2) (aa (γ 4) ay))) az) (Θ qX hr hq (aa (γ 2) (aa (aX dN (γ 4) az) ay)))) ay))))))) (aL (bG (γ 3)))))),?_⟩;walk_at "s";walk_at "";refine⟨a,ns,1,rfl,ha,by decide,λrest=>⟨by decide,λl nl=>⟨by lia,by lia,?_⟩⟩⟩;refine sA (λi σ H2=>δ H H2/\E3 λ(rest:Int)(xs:List Int)(v4:Option V)=>H2 l=some (.lst (xs.map V.int))/\xs.length=i/\σ=[some (.ref a),some (.int m),some (.int rest),some (.ref l),v4]) ⟨δ.new _ nl,rest,[],_,ax,rfl,rfl⟩ ?_ ?_
 .rintro i σ H2 N hN hi ⟨s2,rest,xs,v4,e2,xl,rfl⟩;rw[dq];have sa:=δ.seq s2 ha;have afh:∀(z rest:Int),N [some (V.ref a),some (V.int m),some (V.int rest),some (V.ref l),some (V.int (i:Int))] (upd H2 l (.lst (xs.map V.int++[V.int z]))):=λz rest=>
   hN _ _ ⟨s2.put nl _,rest,xs++[z],_,by rw[ax,aD];rfl,by rw[aP,xl];rfl,rfl⟩
  walk_at "";refine⟨a,ns,0,rfl,sa,by decide,λc=>⟨c,rfl,by decide,?_⟩⟩;have p20:NQ 10 20:=⟨by decide,by decide,by decide⟩;by_cases z:c%2=0
  .rw[aj z];exact⟨oK e2,p20,by decide +kernel,rP e2 (ff (by rw[ah];lia)) ⟨p20,⟨by decide +kernel,by decide +kernel⟩,afh _ _⟩⟩
  .rw[ag z];exact⟨oK e2,rest,(i:Int),rfl,by lia,by lia,λx x0 x1=>⟨x,rfl,.inr ⟨by decide,by decide⟩,rest,(i:Int)+100,rfl,by lia,by lia,λy _ _=>⟨y,rfl,rP e2 (ff (by rw[ah];lia)) (afh _ _)⟩⟩⟩
 .rintro σ H2 ⟨s2,rest,xs,v4,e2,xl,rfl⟩;walk_at "";exact k l xs H2 nl s2 e2 (by lia)
def pV(T:Txt K mg):Sp:=λvs H Q E=>E7 λ(p t:Addr)(m:Int)(ps:List Addr)(rs:List Road)(r x:Int)=>vs=[.ref p,.int r,.int x]/\ν T.Web H p m t ps rs/\(0<=r->r<m->1<=x->Q .ο H)/\(¬(0<=r/\r<m)->E (.ref T.NoPlace) none H)/\(0<=r->r<m->x<1->E (.ref T.BadWish) none H)
abbrev ku:Stmt:=top 42
theorem BM:ζ ["web","r","wanted"] ["web","r","wanted"] (aJ ku):=.of
theorem ou:ϗ (aJ ku) "BadWish":=.of (by kernel_rfl)
theorem BF(T:Txt K mg)(hq:bU (ψ P w))(eX:Cb P w K mg base "check_place" iE ["web","number"] 2 (lL T)):Ok P w K mg base "check_wanted" ku ["web","r","wanted"] 3 (pV T):=λ_ _ D=>by
 refine D.F.XQ BM (by walk_at "v") λς A outer s H vs Q E hr h=>?_;obtain⟨p,t,m,ps,rs,r,x,rfl,W,k,e,e'⟩:=h;refine⟨_,(ao (dH (ϖ eX hr dI (aa (γ 0) (aa (γ 1) ay)))) (aL (dz (ό pJ (γ 2) az) (aL (oW T.wQ rfl qI ou.g T.DN (aa gR ay) (hdb:=ou.d))) ce))),?_⟩;walk_at "s";walk_at "";refine⟨p,t,m,ps,rs,r,rfl,W,λr0 r1=>?_,e⟩;show if x<1 then _ else _;by_cases z:x<1
 .rw[aj z];exact⟨by decide,e' r0 r1 z⟩
 .rw[ag z];exact k r0 r1 (by lia)
def yX(T:Txt K mg):Sp:=λvs H Q E=>E10 λ(p b t:Addr)(c:Bool)(m:Int)(ps:List Addr)(rs:List Road)(xs:List Int)(r w:Int)=>vs=[.ref p,.int r,.int w,.ref b]/\ν T.Web H p m t ps rs/\ϧ K c H b (xs.map V.int)/\(xs.length:Int)=m/\(∀x∈xs,x.natAbs<2^4000)/\(w-1).natAbs<2^4000/\(0<=r->r<m->1<=w->∃par dep,ε m rs r par dep/\∀H',δ H H'->Q (.int (ϱ m rs r par xs w)) H')/\(¬(0<=r/\r<m)->E (.ref T.NoPlace) none H)/\(0<=r->r<m->w<1->E (.ref T.BadWish) none H)
abbrev pF:Stmt:=top 41
theorem yQ:ζ ["web","r","wanted","weights","bound","place","front"] ["web","r","wanted","weights"] (aJ pF):=.of
theorem yJ:Zt (aJ pF) "bound":=.of (by kernel_rfl)
theorem GZ(T:Txt K mg)(hq:bU (ψ P w))(kt:Cb P w K mg base "check_wanted" ku ["web","r","wanted"] 3 (pV T))(jL:Cb P w K mg base "inward" mw ["web","r"] 7 (rq T))(kD:Cb P w K mg base "toll" qc ["web","a","b"] 3 (sN T)):Ok P w K mg base "bound_by" pF ["web","r","wanted","weights"] 8 (yX T):=λ_ _ D=>by
 refine D.F.XQ yQ (by walk_at "v") λς A outer s H vs Q E hr h=>?_;obtain⟨p,b,t,c,m,ps,rs,xs,r,w,rfl,W,hb,xl,xb,wb,k,e,e'⟩:=h;have g:=W.go;refine⟨_,(ao (dH (ϖ kt hr dI (aa (γ 0) (aa (γ 1) (aa (γ 2) ay))))) (ao (ρ 4 (aX mR (Δ (FH c) (γ 3) (γ 1)) (aX fH (γ 2) az))) (ao (eZ PassesOwn.leaving rfl (hG (ϖ jL hr dI (aa (γ 0) (aa (γ 1) ay)))) (jo (n:=2) rfl (bW (Φ 5) (bW (Φ 6) gK))) (aL (tj (i:=4) yQ.nd rfl (Or.inl yJ.l) (aX kH (Δ (FH c) (γ 3) (γ 5)) (aX fH (ϖ kD hr dI (aa (γ 0) (aa (γ 5) (aa (γ 6) ay)))) az)) xQ))) (aL (bG (γ 4)))))),?_⟩;walk_at "s";walk_at "";refine⟨p,t,m,ps,rs,r,w,rfl,W,λr0 r1 w1=>?_,e,e'⟩;obtain⟨par,dep,R,k⟩:=k r0 r1 w1;have gr:=lE (xs:=xs) r0 (by lia);have hm:=Jd (cs:=xs) (i:=r.toNat) (by lia);refine ixX hb gr ⟨_,rfl,MT (xb _ hm) wb,?_⟩;refine⟨p,t,m,ps,rs,r,?_⟩;refine an4 rfl W (λ_ _=>⟨par,dep,R,λl2 qs tl H2 _ n2 s2 e2 pa O=>?_⟩) (λz=>absurd ⟨r0,r1⟩ z);refine⟨l2,rfl,⟨_,μ.of e2⟩,?_⟩;have ql:qs.length=tl.reverse.length:=Paired.length pa;refine mh (K:=K) (xs:=qs.map V.ref) (λi σ H3=>H3=H2/\∃(v5 v6:Option V),σ=[some (V.ref p),some (V.int r),some (V.int w),some (V.ref b),some (V.int (xs.getD r.toNat 0*(w-1)+((tl.reverse.take i).map (Zu rs par xs)).sum)),v5,v6]) ⟨rfl,_,_,by rw[d6,d8,List.sum_nil,nM]⟩ (λi σ H3 _ z=>by rw[z.1];exact μ.of e2) ?_ ?_
 .rintro i x σ H3 N BB Ϩ hN hx ⟨rfl,v5,v6,rfl⟩;refine Ϩ _ _ ?_;obtain⟨q,v,rfl,hq,hv,eq⟩:=pa.get hx;have vm:=eT.mp (aM hv);have vr:=O.Μ v vm;have u:=R.up v vr.1 vr.2 (O.ne vm);obtain⟨kk,hk,k0,k1⟩:=lY g R vr.1 vr.2 (O.ne vm);walk_at "";refine⟨_,Η.of eq,rfl,_,_,rfl,_,_,rfl,rfl,?_⟩;refine ixX (δ.X1 s2 hb) (lE vr.1 (by lia)) ?_;refine⟨p,t,m,ps,rs,v,par v,rfl,W.same s2,λk' _ _ _ _ h=>?_,λz=>absurd ⟨vr,u.1⟩ z,λ_ _ _ _ z=>by rw[hk]at z;cases z⟩;rw[hk]at h;cases h;refine⟨_,rfl,_,rfl,.inr ⟨by lia,by lia⟩,hN _ _ ⟨rfl,some (V.int v),some (V.int (par v)),?_⟩⟩;rw[Ak hv];unfold Zu;rw[hk,Int.add_assoc]
  rfl
 .rintro BB σ H3 Ϩ ⟨rfl,v5,v6,rfl⟩;refine Ϩ _ _ ?_;rw[ah,ql,bp,eV,List.sum_reverse,O.sums];walk_at "";exact k _ s2
def xf(T:Txt K mg):Sp:=λvs H Q E=>E7 λ(p t:Addr)(m:Int)(ps:List Addr)(rs:List Road)(r w:Int)=>vs=[.ref p,.int r,.int w]/\ν T.Web H p m t ps rs/\w<=10^60/\-(10^60)<=w/\(0<=r->r<m->1<=w->∃par dep,ε m rs r par dep/\∀H',δ H H'->Q (.int (ϱ m rs r par (cM m rs r par dep) w+1)) H')/\(¬(0<=r/\r<m)->∀H',δ H H'->E (.ref T.NoPlace) none H')/\(0<=r->r<m->w<1->∀H',δ H H'->E (.ref T.BadWish) none H')
abbrev sU:Stmt:=top 44
theorem Lo:ζ ["web","r","wanted"] ["web","r","wanted"] (aJ sU):=.of
theorem Ly(T:Txt K mg)(hq:bU (ψ P w))(wu:Cb P w K mg base "bound_by" pF ["web","r","wanted","weights"] 8 (yX T))(f9:Cb P w K mg base "least_weights" jG ["web","r"] 8 (ms T)):Ok P w K mg base "enough" sU ["web","r","wanted"] 9 (xf T):=λ_ _ D=>by
 refine D.F.XQ Lo (by walk_at "v") λς A outer s H vs Q E hr h=>?_;obtain⟨p,t,m,ps,rs,r,w,rfl,W,w2,w0,k,e,e'⟩:=h;have g:=W.go;have m1:=g.m1;refine⟨_,(aL (bG (aX dN (ϖ wu hr dI (aa (γ 0) (aa (γ 1) (aa (γ 2) (aa (ϖ f9 hr dI (aa (γ 0) (aa (γ 1) ay))) ay))))) az))),?_⟩;walk_at "s";walk_at "";refine⟨p,t,m,ps,rs,r,rfl,W,λr0 r1=>?_,e⟩;have wb:(w-1).natAbs<2^4000:=KP w0 w2;by_cases w1:1<=w
 .obtain⟨par,dep,R,k⟩:=k r0 r1 w1;refine⟨par,dep,R,λl H1 nl s1 el=>?_⟩;have ll:((cM m rs r par dep).length:Int)=m:=by rw[lS];lia
  exact⟨p,l,t,true,m,ps,rs,cM m rs r par dep,r,w,rfl,W.same s1,μ.of el,ll,um g R,wb,λ_ _ _=>⟨par,dep,R,λH2 s2=>⟨_,rfl,k H2 (s1.trans s2)⟩⟩,λz=>absurd ⟨r0,r1⟩ z,λ_ _ z=>absurd w1 (by lia)⟩
 .obtain⟨par,dep,R⟩:=BZ g r0 r1;refine⟨par,dep,R,λl H1 nl s1 el=>?_⟩;have ll:((cM m rs r par dep).length:Int)=m:=by rw[lS];lia
  exact⟨p,l,t,true,m,ps,rs,cM m rs r par dep,r,w,rfl,W.same s1,μ.of el,ll,um g R,wb,λ_ _ z=>absurd z w1,λz=>absurd ⟨r0,r1⟩ z,λ_ _ z=>e' r0 r1 z H1 s1⟩
def dZ(m:Int)(xs:List Int):Bool:=decide ((xs.length:Int)=m)&&xs.all λx=>decide (0<=x)
theorem VQ{m:Int}{xs:List Int}(h:(xs.length:Int)=m)(h0:∀x∈xs,0<=x):dZ m xs=true:=by
 unfold dZ;rw[bg h,iT,fX];exact λx hx=>bg (h0 x hx)
theorem JJ{m:Int}{xs:List Int}(h:dZ m xs=true):(xs.length:Int)=m:=by
 unfold dZ at h;rw[cj]at h;exact dE h.1
theorem Dw{m:Int}{xs:List Int}(h:dZ m xs=true):∀x∈xs,0<=x:=by
 unfold dZ at h;rw[cj,fX]at h;exact λx hx=>dE (h.2 x hx)
def xB(T:Txt K mg):Sp:=λvs H Q _=>E8 λ(p a t:Addr)(c:Bool)(m:Int)(ps:List Addr)(rs:List Road)(xs:List Int)=>vs=[.ref p,.ref a]/\ν T.Web H p m t ps rs/\ϧ K c H a (xs.map V.int)/\xs.length<=1000/\∀H',δ H H'->Q (.bl (dZ m xs)) H'
abbrev qS:Stmt:=top 29
theorem Fg:ζ ["web","numbers"] ["web","numbers"] (aJ qS):=.of
theorem F5(T:Txt K mg)(hq:bU (ψ P w)):Ok P w K mg base "is_filled" qS ["web","numbers"] 1 (xB T):=λ_ _ D=>by
 refine D.F.ϔ Fg (by walk_at "v") λς A outer s H vs Q E hr h=>?_;obtain⟨p,a,t,c,m,ps,rs,xs,rfl,W,ha,hz,k⟩:=h;refine⟨_,(aL (bG (FW (qJ gc (dO gO T.len (aa (γ 1) ay)) (dB (γ 0) rfl) (oC _)) (GB (dO (Ql rfl) T.all (aa (kN rfl (zX (Nc:=["number"]) 1 (by decide +kernel) (by decide +kernel) rfl (by decide +kernel) rfl) (MY c (γ 1)) (λ_ _ _ _=>(fN (i:=0) (show(["number"]:List Str).Nodup from by decide +kernel) rfl (Or.inl rfl))) (λ_ _ _ _=>mS) (λ_ _ _ _=>(qJ KD (pv 0) az (oC _)))) ay)))))),?_⟩;walk_at "s";walk_at "";obtain⟨dx,ob⟩:=W.ob;have ha':μ K H a (xs.map V.int)\/Η K H a (xs.map V.int):=by
  cases c
  .exact .inr ha
  .exact .inl ha
 refine⟨_,ha',T.Web,dx,_,ob,T.kQ,T.ϒ,_,j7 m t,rfl,?_⟩;rw[ah];by_cases hm:(xs.length:Int)=m
 .rw[aj (by rw[hm])];refine⟨⟨_,ha⟩,λl nl=>?_⟩;refine oZ (K:=K) (c:=c) (xs:=xs.map V.int) (λi bs σ H2=>δ H H2/\H2 l=some (.lst bs)/\bs=((xs.take i).map λx=>decide (0<=x)).map V.bl/\∃v,σ=[v]) ⟨δ.new _ nl,ax,rfl,_,rfl⟩ (λi bs σ H2 _ z=>δ.X1 z.1 ha) ?_ ?_
  .rintro i x bs σ H2 N hN hx ⟨s2,e2,rfl,v,rfl⟩;rw[aF]at hx;obtain⟨y,gy,rfl⟩:=eA.mp hx;walk_at "";refine⟨e2,ff (by rw[ah,ah,bd];lia),hN _ _ _ ⟨s2.put nl _,ax,?_,_,rfl⟩⟩;rw[bL,gy,aD,aD]
   rfl
  .rintro bs σ H2 ⟨s2,e2,rfl,v,rfl⟩;refine⟨l,rfl,_,μ.of e2,?_⟩;have e:(((xs.take (xs.map V.int).length).map λx=>decide (0<=x)).all id)=dZ m xs:=by
    rw[ah,bp,List.all_map];unfold dZ;rw[bg hm,iT]
    rfl
   rw[e];exact k _ s2
 .rw[ag (λz=>hm (by injection z))];have e:dZ m xs=false:=by
   unfold dZ;rw[aQ hm,iV]
  rw[e]at k;exact k H (δ.refl _)
def tJ(T:Txt K mg):Sp:=λvs H Q E=>E8 λ(p a t:Addr)(c:Bool)(m:Int)(ps:List Addr)(rs:List Road)(xs:List Int)=>vs=[.ref p,.ref a]/\ν T.Web H p m t ps rs/\ϧ K c H a (xs.map V.int)/\xs.length<=1000/\(dZ m xs=true->∀l H',δ H H'->(H' l=some (.tup (xs.map V.int))\/(c=false/\l=a))->Η K H' l (xs.map V.int)->Q (.ref l) H')/\(dZ m xs=false->∀H',δ H H'->E (.ref T.BadLaying) none H')
abbrev mT:Stmt:=top 28
theorem Gu:ζ ["web","numbers"] ["web","numbers"] (aJ mT):=.of
theorem oG:ϗ (aJ mT) "BadLaying":=.of (by kernel_rfl)
theorem Gy(T:Txt K mg)(hq:bU (ψ P w))(uw:Cb P w K mg base "is_filled" qS ["web","numbers"] 1 (xB T)):Ok P w K mg base "laying_of" mT ["web","numbers"] 2 (tJ T):=λ_ _ D=>by
 refine D.F.XQ Gu (by walk_at "v") λς A outer s H vs Q E hr h=>?_;obtain⟨p,a,t,c,m,ps,rs,xs,rfl,W,ha,hz,k,e⟩:=h;refine⟨_,(ao (dz (mL (nB (ϖ uw hr dI (aa (γ 0) (aa (γ 1) ay))))) (aL (oW T.uJ rfl qI oG.g T.zf (aa gR ay) (hdb:=oG.d))) ce) (aL (bG (pct oP T.tuple (aa (γ 1) ay))))),?_⟩;walk_at "s";walk_at "";refine⟨p,a,t,c,m,ps,rs,xs,rfl,W,ha,hz,λH1 s1=>⟨_,rfl,?_⟩⟩;by_cases z:dZ m xs=false
 .rw[aj z];exact⟨by decide,e z H1 s1⟩
 .rw[ag z];have z':dZ m xs=true:=by simpa using z
  cases c
  .exact⟨_,.inr ⟨δ.X1 (c:=false) s1 ha,k z' a H1 s1 (.inr ⟨rfl,rfl⟩) (δ.X1 (c:=false) s1 ha)⟩⟩
  .exact⟨_,.inl ⟨δ.X1 (c:=true) s1 ha,λl nl=>k z' l _ (s1.trans (δ.new _ nl)) (.inl ax) (Η.of ax)⟩⟩
def uz(T:Txt K mg):Sp:=λvs H Q E=>E9 λ(p a t:Addr)(c:Bool)(m:Int)(ps:List Addr)(rs:List Road)(xs:List Int)(r:Int)=>vs=[.ref p,.ref a,.int r]/\ν T.Web H p m t ps rs/\ϧ K c H a (xs.map V.int)/\xs.length<=1000/\(dZ m xs=true->0<=r->r<m->∃par dep,ε m rs r par dep/\∀l H',H l=none->δ H H'->H' l=some (.lst ((uD m rs r par dep (λv=>xs.getD v.toNat 0) (Ϗ rs par)).map V.int))->Q (.ref l) H')/\(dZ m xs=false->∀H',δ H H'->E (.ref T.BadLaying) none H')/\(dZ m xs=true->¬(0<=r/\r<m)->∀H',δ H H'->E (.ref T.NoPlace) none H')
abbrev pG:Stmt:=top 37
theorem GV:ζ ["web","laying","r","counts","place","front"] ["web","laying","r"] (aJ pG):=.of
theorem HQ(T:Txt K mg)(hq:bU (ψ P w))(jL:Cb P w K mg base "inward" mw ["web","r"] 7 (rq T))(mV:Cb P w K mg base "laying_of" mT ["web","numbers"] 2 (tJ T))(kD:Cb P w K mg base "toll" qc ["web","a","b"] 3 (sN T)):Ok P w K mg base "gathered" pG ["web","laying","r"] 8 (uz T):=λ_ _ D=>by
 refine D.F.XQ GV (by walk_at "v") λς A outer s H vs Q E hr h=>?_;obtain⟨p,a,t,c,m,ps,rs,xs,r,rfl,W,ha,hz,k,e,e'⟩:=h;have g:=W.go;have Ζ:=g.Ζ;refine⟨_,(ao (ρ 3 (pct nP T.list (aa (ϖ mV hr dI (aa (γ 0) (aa (γ 1) ay))) ay))) (ao (eZ PassesOwn.leaving rfl (hG (ϖ jL hr dI (aa (γ 0) (aa (γ 2) ay)))) (jo (n:=2) rfl (bW (Φ 4) (bW (Φ 5) gK))) (aL (Ro (γ 3) (γ 5) Ov (aX eG (Δ bB (γ 3) (γ 4)) (ϖ kD hr dI (aa (γ 0) (aa (γ 4) (aa (γ 5) ay))))) xQ iW))) (aL (bG (γ 3))))),?_⟩;walk_at "s";walk_at "";refine⟨p,a,t,c,m,ps,rs,xs,?_⟩;refine an6 rfl W ha hz (λfi l0 H0 s0 _ e0=>?_) e;have xl:(xs.length:Int)=m:=by
  unfold dZ at fi;rw[cj]at fi;exact dE fi.1
 refine⟨l0,rfl,_,.inr e0,λl n1=>?_⟩;have s1:=δ.new (.lst (xs.map V.int)) n1;have s01:=s0.trans s1;have nl:=s0.free n1;have e1:upd H0 l (.lst (xs.map V.int)) l=some (.lst (xs.map V.int)):=ax;generalize upd H0 l (.lst (xs.map V.int))=H1 at s1 s01 e1 ⊢;refine⟨p,t,m,ps,rs,r,?_⟩;refine an4 rfl (W.same s01) (λr0 r1=>?_) (λz=>e' fi z H1 s01);obtain⟨par,dep,R,k⟩:=k fi r0 r1;refine⟨par,dep,R,λl2 qs tl H2 _ n2 s2 e2 pa O=>?_⟩;have nll:l2≠l:=λz=>by rw[z,e1]at n2;cases n2
 refine⟨l2,rfl,⟨_,μ.of e2⟩,?_⟩;have ql:qs.length=tl.reverse.length:=Paired.length pa;refine mh (K:=K) (xs:=qs.map V.ref) (λi σ H3=>δ H H3/\H3 l2=some (.lst (qs.map V.ref))/\Α H3 par qs tl.reverse/\E3 λ(cs:List Int)(v4 v5:Option V)=>H3 l=some (.lst (cs.map V.int))/\ϟ m rs r par dep (λv=>xs.getD v.toNat 0) (Ϗ rs par) (tl.drop (tl.length-i)) cs/\σ=[some (V.ref p),some (V.ref a),some (V.int r),some (V.ref l),v4,v5]) ⟨s01.trans s2,e2,pa,xs,_,_,s2 _ _ e1,by rw[kK,jd];exact ϟ.nil xl,rfl⟩ (λi σ H3 _ z=>μ.of z.2.1) ?_ ?_
 .rintro i x σ H3 N BB Ϩ hN hx ⟨s3,e3,ZZ,cs,v4,v5,c3,so,rfl⟩;refine Ϩ _ _ ?_;obtain⟨q,v,rfl,hq,hv,eq⟩:=ZZ.get hx;obtain⟨⟨vr,vn⟩,ev,so'⟩:=O.turn g R so hv;have u:=R.up v vr.1 vr.2 vn;obtain⟨kk,hk,k0,k1⟩:=lY g R vr.1 vr.2 vn;have cl:=so.len;walk_at "";refine⟨_,Η.of eq,rfl,_,_,rfl,_,_,rfl,rfl,?_⟩;refine Ε c3 (lE u.1.1 (by lia)) (Ε c3 (lE vr.1 (by lia)) ?_);refine⟨p,t,m,ps,rs,v,par v,rfl,W.same s3,λk' _ _ _ _ h=>?_,λz=>absurd ⟨vr,u.1⟩ z,λ_ _ _ _ z=>by rw[hk]at z;cases z⟩;rw[hk]at h;cases h;refine⟨_,rfl,_,rfl,⟨by lia,by lia⟩,_,rfl,rX c3 u.1.1 (by rw[ah];lia) (hN _ _ ⟨s3.put nl _,?_,?_,yk par (Ϗ rs par) cs v,_,_,?_,so',rfl⟩)⟩
  .rw[aO nll];exact e3
  .exact Paired.imp' (λa b h=>by rw[aO (hW h c3 (by intro z;cases z))];exact h) ZZ
  .rw[ax,<-d9];unfold yk Ϗ;rw[hk]
   rfl
 .rintro BB σ H3 Ϩ ⟨s3,e3,ZZ,cs,v4,v5,c3,so,rfl⟩;refine Ϩ _ _ ?_;rw[ah,ql,bj,fC,ir]at so;rw[O.done g R so]at c3;walk_at "";exact k l H3 nl s3 c3
def Ik(T:Txt K mg):Sp:=λvs H Q E=>E9 λ(p a t:Addr)(c:Bool)(m:Int)(ps:List Addr)(rs:List Road)(xs:List Int)(r:Int)=>vs=[.ref p,.ref a,.int r]/\ν T.Web H p m t ps rs/\ϧ K c H a (xs.map V.int)/\xs.length<=1000/\(dZ m xs=true->0<=r->r<m->∃par dep,ε m rs r par dep/\∀H',δ H H'->Q (.int (Ϛ m rs r par dep (λv=>xs.getD v.toNat 0) (Ϗ rs par) r)) H')/\(dZ m xs=false->∀H',δ H H'->E (.ref T.BadLaying) none H')/\(dZ m xs=true->¬(0<=r/\r<m)->∀H',δ H H'->E (.ref T.NoPlace) none H')
abbrev AA:Stmt:=top 38
theorem QI:ζ ["web","laying","r"] ["web","laying","r"] (aJ AA):=.of
theorem Rx(T:Txt K mg)(hq:bU (ψ P w))(om:Cb P w K mg base "gathered" pG ["web","laying","r"] 8 (uz T)):Ok P w K mg base "most" AA ["web","laying","r"] 9 (Ik T):=λ_ _ D=>by
 refine D.F.XQ QI (by walk_at "v") λς A outer s H vs Q E hr h=>?_;obtain⟨p,a,t,c,m,ps,rs,xs,r,rfl,W,ha,hz,k,e,e'⟩:=h;refine⟨_,(aL (bG (iL bB (ϖ om hr dI (aa (γ 0) (aa (γ 1) (aa (γ 2) ay)))) (γ 2) (λ_ _=>rfl)))),?_⟩;walk_at "s";walk_at "";refine⟨p,a,t,c,m,ps,rs,xs,r,?_⟩;refine an7 rfl W ha hz (λfi r0 r1=>?_) e e';obtain⟨par,dep,R,k⟩:=k fi r0 r1;refine⟨par,dep,R,λl H1 n1 s1 e1=>?_⟩;refine Ε e1 (lE r0 ?_) ?_
 .unfold uD;rw[ah,da];lia
 .rw[zk r0 r1];exact k H1 s1
def zC(T:Txt K mg):Sp:=λvs H Q _=>∃(p:Addr)(ns:List Int),vs=[.ref p]/\(μ K H p (ns.map V.int)\/Η K H p (ns.map V.int))/\Q (.int ns.sum) H
abbrev yb:Stmt:=top 30
theorem Nf:ζ ["numbers"] ["numbers"] (aJ yb):=.of
theorem OJ(T:Txt K mg)(hq:bU (ψ P w)):Ok P w K mg base "total" yb ["numbers"] 1 (zC T):=λ_ _ D=>by
 refine D.F.ϔ Nf (by walk_at "v") λς A outer s H vs Q E hr h=>?_;obtain⟨p,ns,rfl,hp,k⟩:=h;refine⟨_,(aL (bG (dO (ES rfl) T.sum (aa (γ 0) ay)))),?_⟩;walk_at "s";walk_at "";exact⟨ns,hp,k⟩
def uF(T:Txt K mg):Sp:=λvs H Q E=>E10 λ(p a t:Addr)(c:Bool)(m:Int)(ps:List Addr)(rs:List Road)(xs:List Int)(r w:Int)=>vs=[.ref p,.int r,.int w,.ref a]/\ν T.Web H p m t ps rs/\ϧ K c H a (xs.map V.int)/\xs.length<=1000/\w<=10^60/\-(10^60)<=w/\(0<=r->r<m->1<=w->∃par dep,ε m rs r par dep/\(dZ m xs=true->∀H',δ H H'->Q (.bl (decide (xs.sum=ϱ m rs r par (cM m rs r par dep) w)&&decide (Ϛ m rs r par dep (λv=>xs.getD v.toNat 0) (Ϗ rs par) r<w))) H')/\(dZ m xs=false->∀H',δ H H'->E (.ref T.BadLaying) none H'))/\(¬(0<=r/\r<m)->∀H',δ H H'->E (.ref T.NoPlace) none H')/\(0<=r->r<m->w<1->∀H',δ H H'->E (.ref T.BadWish) none H')
abbrev pU:Stmt:=top 55
theorem He:ζ ["web","r","wanted","laying","least","counts"] ["web","r","wanted","laying"] (aJ pU):=.of
theorem HV(T:Txt K mg)(hq:bU (ψ P w))(qF:Cb P w K mg base "enough" sU ["web","r","wanted"] 9 (xf T))(mV:Cb P w K mg base "laying_of" mT ["web","numbers"] 2 (tJ T))(FC:Cb P w K mg base "most" AA ["web","laying","r"] 9 (Ik T))(Cs:Cb P w K mg base "total" yb ["numbers"] 1 (zC T)):Ok P w K mg base "is_worst" pU ["web","r","wanted","laying"] 10 (uF T):=λ_ _ D=>by
 refine D.F.XQ He (by walk_at "v") λς A outer s H vs Q E hr h=>?_;obtain⟨p,a,t,c,m,ps,rs,xs,r,w,rfl,W,ha,hl,w2,w0,kk,e,e'⟩:=h;refine⟨_,(ao (ρ 4 (ϖ qF hr dI (aa (γ 0) (aa (γ 1) (aa (γ 2) ay))))) (ao (ρ 5 (ϖ mV hr dI (aa (γ 0) (aa (γ 3) ay)))) (aL (bG (FW (qJ gc (ϖ Cs hr dI (aa (γ 5) ay)) (aX fH (γ 4) az) (oC _)) (GB (qJ pJ (ϖ FC hr dI (aa (γ 0) (aa (γ 5) (aa (γ 1) ay)))) (γ 2) (oC _)))))))),?_⟩;walk_at "s";walk_at "";refine⟨p,t,m,ps,rs,r,w,rfl,W,w2,w0,λr0 r1 w1=>?_,e,e'⟩;obtain⟨par,dep,R,k,kf⟩:=kk r0 r1 w1;refine⟨par,dep,R,λH1 s1=>⟨p,a,t,c,m,ps,rs,xs,rfl,W.same s1,δ.X1 s1 ha,hl,λfi l H2 s2 _ el=>?_,λz H2 s2=>kf z H2 (s1.trans s2)⟩⟩;have k:=k fi;show zC T _ _ _ _;refine⟨l,xs,rfl,.inr el,_,rfl,rfl,?_⟩;rw[Int.add_sub_cancel];by_cases c1:xs.sum=ϱ m rs r par (cM m rs r par dep) w
 .rw[aj (by rw[c1])];refine⟨p,l,t,false,m,ps,rs,xs,r,rfl,W.same (s1.trans s2),el,hl,λ_ _ _=>⟨par,dep,R,λH3 s3=>⟨_,rfl,?_⟩⟩,(λz=>by rw[fi]at z;cases z),λ_ z=>absurd ⟨r0,r1⟩ z⟩;have:=k _ (s1.trans (s2.trans s3));rw[bg c1,iT]at this;exact this
 .rw[ag (by intro z;injection z;contradiction)];have:=k _ (s1.trans s2);rw[aQ c1,iV]at this;exact this
def rQ(T:Txt K mg):Sp:=λvs H Q E=>E7 λ(p t:Addr)(m:Int)(ps:List Addr)(rs:List Road)(r w:Int)=>vs=[.ref p,.int r,.int w]/\ν T.Web H p m t ps rs/\w<=10^60/\-(10^60)<=w/\(0<=r->r<m->1<=w->∃par dep,ε m rs r par dep/\(ϱ m rs r par (cM m rs r par dep) w+1<=1000000000000->∀H',δ H H'->Q .ο H')/\(1000000000000<ϱ m rs r par (cM m rs r par dep) w+1->∀H',δ H H'->E (.ref T.TooMany) none H'))/\(¬(0<=r/\r<m)->∀H',δ H H'->E (.ref T.NoPlace) none H')/\(0<=r->r<m->w<1->∀H',δ H H'->E (.ref T.BadWish) none H')
abbrev kG:Stmt:=top 59
theorem DW:ζ ["web","r","wanted"] ["web","r","wanted"] (aJ kG):=.of
theorem mJ:ϗ (aJ kG) "MOST_PEBBLES":=.of (by kernel_rfl)
theorem pb:ϗ (aJ kG) "TooMany":=.of (by kernel_rfl)
theorem D9(T:Txt K mg)(hq:bU (ψ P w))(qF:Cb P w K mg base "enough" sU ["web","r","wanted"] 9 (xf T)):Ok P w K mg base "check_told" kG ["web","r","wanted"] 10 (rQ T):=λ_ _ D=>by
 refine D.F.XQ DW (by walk_at "v") λς A outer s H vs Q E hr h=>?_;obtain⟨p,t,m,ps,rs,r,w,rfl,W,w2,w0,k,e,e'⟩:=h;refine⟨_,(aL (dz (sK ED (ϖ qF hr dI (aa (γ 0) (aa (γ 1) (aa (γ 2) ay)))) (wq mJ.g T.XB (hd:=mJ.d)) (oC _)) (aL (oW T.xJ rfl qI pb.g T.DP (aa gR ay) (hdb:=pb.d))) ce)),?_⟩;walk_at "s";walk_at "";refine⟨p,t,m,ps,rs,r,w,rfl,W,w2,w0,λr0 r1 w1=>?_,e,e'⟩;obtain⟨par,dep,R,k1,k2⟩:=k r0 r1 w1;refine⟨par,dep,R,λH1 s1=>?_⟩;refine⟨_,rfl,?_⟩;by_cases c:1000000000000<ϱ m rs r par (cM m rs r par dep) w+1
 .rw[aj c];exact⟨bN (by simp),k2 c H1 s1⟩
 .rw[ag c];exact k1 (by lia) H1 s1
structure Zg(C O:Addr)(H:Hp)(o w tw lk ϵ lr lp ld By BV:Addr)(m:Int)(ps:List Addr)(rs:List Road)(v k:Int)(c at_:Nat)(cs csk:List Int)(fr be:Bool):Prop where
 ob:∃dx fs,H o=some (.ins O dx fs)/\fs.lookup ("web":Str)=some (.ref w)/\fs.lookup ("kids":Str)=some (.ref lk)/\fs.lookup ("rests":Str)=some (.ref lr)
 web:ν C H w m tw ps rs
 v0:0<=v/\v<m
 k0:0<=k/\k<m
 ki:∃(kv:List V)(ks:List Int),H lk=some (.lst kv)/\kv[v.toNat]?=some (.ref ϵ)/\H ϵ=some (.lst (ks.map V.int))/\ks[at_]?=some k
 re:E3 λ(rv lv pv:List V)=>H lr=some (.lst rv)/\rv[v.toNat]?=some (.ref lp)/\H lp=some (.lst lv)/\lv[at_+1]?=some (.ref ld)/\rv[k.toNat]?=some (.ref By)/\H By=some (.lst (.ref BV::pv))
 ed:H ld=some (.lst (cs.map V.int))
 ek:H BV=some (.lst (csk.map V.int))
 cl:cs.length<=24/\csk.length<=24
 cb:(∀c∈cs,c.natAbs<=2^15000)/\∀c∈csk,c.natAbs<=2^15000
 tl:cX rs k v=some (c:Int)
 c2:2<=c/\c<=1000000
 fb:E7 λ(dx:Addr)(fs:List (Str×V))(lw lb:Addr)(xs:List Int)(cv:List V)(ob:Option Int)=>H o=some (.ins O dx fs)/\fs.lookup ("web":Str)=some (.ref w)/\fs.lookup ("weights":Str)=some (.ref lw)/\fs.lookup ("bearers":Str)=some (.ref lb)/\H lw=some (.lst (xs.map V.int))/\(xs.length:Int)=m/\H lb=some (.lst cv)/\cv[v.toNat]?=some (ZN ob)/\fr=(decide (xs.getD k.toNat 0*(c:Int)=xs.getD v.toNat 0)&&decide (ob≠some k))/\be=decide (ob=some k)
theorem Zg.same{C O:Addr}{H H':Hp}{o w tw lk ϵ lr lp ld By BV:Addr}{m:Int}{ps:List Addr}{rs:List Road}{v k:Int}{c at_:Nat}{cs csk:List Int}{fr be:Bool}(e:δ H H')(h:Zg C O H o w tw lk ϵ lr lp ld By BV m ps rs v k c at_ cs csk fr be):Zg C O H' o w tw lk ϵ lr lp ld By BV m ps rs v k c at_ cs csk fr be where
 ob:=let ⟨dx,fs,h1,h2⟩:=h.ob;⟨dx,fs,e _ _ h1,h2⟩
 web:=h.web.same e
 v0:=h.v0
 k0:=h.k0
 ki:=let ⟨kv,ks,h1,h2,h3,h4⟩:=h.ki;⟨kv,ks,e _ _ h1,h2,e _ _ h3,h4⟩
 re:=let ⟨rv,lv,pv,h1,h2,h3,h4,h5,h6⟩:=h.re;⟨rv,lv,pv,e _ _ h1,h2,e _ _ h3,h4,h5,e _ _ h6⟩
 ed:=e _ _ h.ed
 ek:=e _ _ h.ek
 cl:=h.cl
 cb:=h.cb
 tl:=h.tl
 c2:=h.c2
 fb:=let ⟨dx,fs,lw,lb,xs,cv,ob,h1,h2,h3,h4,h5,h6,h7,h8⟩:=h.fb;⟨dx,fs,lw,lb,xs,cv,ob,e _ _ h1,h2,h3,h4,e _ _ h5,h6,e _ _ h7,h8⟩
theorem IW:∀(ks:List Int)(i:Nat),i<=ks.length->(ZO ks)[i]?=some (ks.drop i)
 | [],0,_=>rfl
 | [],_+1,h=>by cases h
 | _::_,0,_=>rfl
 | _::ks,i+1,h=>IW ks i (Nat.le_of_succ_le_succ h)
theorem PD{d:Int->Nat}{ks:List Int}(h:(ks.map λk=>d k+1).sum<=23)(i:Nat):Yg d (ks.drop i)<=15000:=tR (by
 have e:(ks.map λk=>d k+1).sum=((ks.take i).map λk=>d k+1).sum+((ks.drop i).map λk=>d k+1).sum:=by rw[<-eE,<-aD,b8]
 lia)
theorem ϓ.co{C O:Addr}{H:Hp}{o p t:Addr}{m:Int}{ps:List Addr}{rs:List Road}{r:Int}{par:Int->Int}{dep:Int->Nat}{tl:List Int}{ld lw lb lk lr:Addr}{kl:List Addr}{rv:List V}(h:ϓ C O H o p t m ps rs r par dep tl ld lw lb lk lr kl rv (λv=>0<=v/\v<m)){v k:Int}{i:Nat}(vm:0<=v/\v<m)(hk:(kd m rs r par v)[i]?=some k):E7 λ(ϵ lp Z1 By BV:Addr)(cs csk:List Int)=>Zg C O H o p t lk ϵ lr lp Z1 By BV m ps rs v k (cK rs par k) i cs csk (Bv m rs r par dep tl k) (XD m rs r par dep tl k)/\ϑ 15000 cs (ϐ (Bv m rs r par dep tl) (XD m rs r par dep tl) (λk g=>XE m rs r par dep tl k (Β (cK rs par k) g)) ((kd m rs r par v).drop (i+1)))/\ϑ 15000 csk (XE m rs r par dep tl k):=by
 have g:=h.web.go;have R:=h.rt;have il:i<(kd m rs r par v).length:=(aq.mp hk).1;have w:=(bO g R vm.1 vm.2).mp (aM hk);have ec:((cK rs par k:Nat):Int)=tup rs par k:=bH (by have:=(jX g R w.1.1 w.1.2 w.2.1).1;lia);obtain⟨k',tk,t2,t6⟩:=lY g R w.1.1 w.1.2 w.2.1;have ek:((cK rs par k:Nat):Int)=k':=by
  rw[ec];unfold tup;rw[tk]
  rfl
 obtain⟨dx,ob⟩:=h.ob;have evr:(cR m.toNat)[v.toNat]?=some v:=by rw[fZ (by lia),bH vm.1]
 obtain⟨ϵ,Yk,Rw⟩:=tL h.kp evr;obtain⟨_,lp,ϩ,h1,h2,h3,h4⟩:=h.ϕ v vm;obtain⟨Z1,hl1,cs,c1,c2⟩:=tL h4 (IW (kd m rs r par v) (i+1) il);obtain⟨_,By,aqm,g1,g2,g3,g4⟩:=h.ϕ k w.1;obtain⟨sr,es⟩:=wa (kd m rs r par k);rw[es]at g4;have wst:=qy (fr:=Bv m rs r par dep tl) (be:=XD m rs r par dep tl) (c:=cK rs par) g R w.1.1 w.1.2;cases g4 with
 | @cons BV _ ldr _ e he=>
   obtain⟨csk,d1,d2⟩:=e;have q1:=c2.le (b':=15000) (PD (by have:=jQ g R vm.1 vm.2;have:=pK g R vm.1 vm.2;have:=g.Ζ;lia) _);have q2:=d2.le (b':=15000) (tR (by have:=jQ g R w.1.1 w.1.2;have:=pK g R w.1.1 w.1.2;have:=g.Ζ;lia));refine⟨ϵ,lp,Z1,By,BV,cs,csk,⟨⟨dx,_,ob,o9 _ _ _ _ _ _,p7 _ _ _ _ _ _,oA _ _ _ _ _ _⟩,h.web,vm,w.1,⟨_,_,h.hk,by rw[aF,Yk];rfl,Rw,hk⟩,⟨_,_,_,h.hr,h1,h3,by rw[aF,hl1];rfl,g1,g3⟩,c1,d1,⟨q1.len,q2.len⟩,⟨q1.bt,q2.bt⟩,by rw[ek,<-w.2.2];exact tk,by lia,?_⟩,q1,⟨q2.ne,q2.len,q2.bt,λn=>(q2.val n).trans ?_⟩⟩
   .refine⟨dx,_,lw,lb,cM m rs r par dep,_,Yt m rs r par dep tl v,ob,o9 _ _ _ _ _ _,wz _ _ _ _ _ _,wH _ _ _ _ _ _,h.hw,?_,h.hb,(Lx vm.1).symm.trans (Jf vm.1 vm.2),?_,?_⟩
    .have:(cM m rs r par dep).length=m.toNat:=lS
     lia
    .unfold Bv;rw[ec,w.2.2,show(cM m rs r par dep).getD k.toNat 0=υ m rs r par dep k from fL w.1.1 w.1.2,show(cM m rs r par dep).getD v.toNat 0=υ m rs r par dep v from fL vm.1 vm.2]
    .unfold XD;rw[w.2.2]
   .show _=wy m rs r par dep (Bv m rs r par dep tl) (XD m rs r par dep tl) (cK rs par) k n;rw[wst]
    rfl
def wS(T:Txt K mg):Sp:=λvs H Q _=>E22 λ(o w tw lk ϵ lr lp ld By BV:Addr)(m:Int)(ps:List Addr)(rs:List Road)(v k z:Int)(c at_:Nat)(cs csk:List Int)(fr be:Bool)=>vs=[.ref o,.int v,.int at_,.int z]/\Zg T.Web T.Tally H o w tw lk ϵ lr lp ld By BV m ps rs v k c at_ cs csk fr be/\at_<=24/\-70<=z/\z+1<=2^64/\∀l H',H l=none->δ H H'->H' l=some (.lst ((Ϫ (ϴ m.toNat (rW cs csk c z))).map V.int))->Q (.ref l) H'
abbrev qu:Stmt:=top 71
theorem LN:ζ ["tally","place","at","left","kid","before","given","ways_behind"] ["tally","place","at","left"] (aJ qu):=.of
theorem Au:ϗ (aJ qu) "range":=.of (by kernel_rfl)
theorem Md(T:Txt K mg)(hq:bU (ψ P w))(jP:Cb P w K mg base "differences" jM ["values"] 1 (qg T))(dy:Cb P w K mg base "value_at" gX ["found","at"] 1 (ko T))(ic:Cb P w K mg base "ways_given" nC ["tally","place","kid","given"] 5 (rM T)):Ok P w K mg base "course" qu ["tally","place","at","left"] 6 (wS T):=λ_ _ D=>by
 refine D.F.ϔ LN (by walk_at "v") λς A outer s H vs Q E hr h=>?_;obtain⟨o,w,tw,lk,ϵ,lr,lp,ld,By,BV,m,ps,rs,v,k,z,c,at_,cs,csk,fr,be,rfl,C,a24,z0,z1,q⟩:=h;have g:=C.web.go;have m1:=g.m1;have Ζ:=g.Ζ;refine⟨_,(ao (ρ 4 (Δ bB (iL bB (dB (γ 0) rfl) (γ 1) (λ_ _=>rfl)) (γ 2))) (ao (ρ 5 (eC (aa az ay))) (ao (eZ PassesOwn.never rfl (kZ Au.g T.range (aa (aX fH (dB (dB (γ 0) rfl) rfl) az) ay)) (Φ 6) (ao (ρ 7 (Θ dy hr hq (aa (Δ bB (iL bB (dB (γ 0) rfl) (γ 1) (λ_ _=>rfl)) (aX dN (γ 2) az)) (aa (aX fH (γ 3) (γ 6)) ay)))) (aL (dH (jI PySem.F.plainAttrs_list PySem.F.slot_list_append PySem.F.type_list_append fY (γ 5) (aa (aX dN (Δ bB (γ 5) (qM oB az)) (aX mR (Θ ic hr hq (aa (γ 0) (aa (γ 1) (aa (γ 4) (aa (γ 6) ay))))) (γ 7))) ay)))))) (aL (bG (Θ jP hr hq (aa (γ 5) ay))))))),?_⟩;walk_at "s";refine cN λN1 h1=>?_;walk_at "";obtain⟨dx,fs,ho,fw,fk,fr⟩:=C.ob;obtain⟨kv,ks,hk1,hk2,hk3,hk4⟩:=C.ki;have gk:Ϣ (ks.map V.int) (at_:Int)=some (V.int k):=cq (by lia) (by rw[bD,aF,hk4];rfl);refine⟨T.Tally,dx,fs,ho,T.cQ,T.rC,_,fk,Ε hk1 (cq C.v0.1 hk2) (Ε hk3 gk (h1 _ _ (cN λN2 h2=>?_)))⟩;walk_at "";refine⟨bN (by simp),λlb nlb=>h2 _ _ (cN λN3 h3=>?_)⟩;have s1:=δ.new (HO.lst [V.int 0]) nlb;have e1:upd H lb (HO.lst [V.int 0]) lb=some (.lst ((ϴ 1 (rW cs csk c z)).map V.int)):=ax;generalize upd H lb (HO.lst [V.int 0])=H1 at s1 e1 ⊢;walk_at "";obtain⟨dw,wb⟩:=C.web.ob;refine⟨T.Tally,dx,fs,s1 _ _ ho,T.cQ,T.As,_,fw,w,rfl,T.Web,dw,_,s1 _ _ wb,T.kQ,T.ϒ,_,j7 _ _,?_⟩;refine⟨m,rfl,by lia,by lia,?_⟩;refine Bx (lo:=0) (n:=(m-1).toNat) (λi σ H5=>δ H H5/\H5 lb=some (.lst ((ϴ (i+1) (rW cs csk c z)).map V.int))/\∃v6 v7,σ=[some (V.ref o),some (V.int v),some (V.int at_),some (V.int z),some (V.int k),some (V.ref lb),v6,v7]) ⟨s1,e1,_,_,rfl⟩ ?_ ?_
 .rintro i σ H5 N BB Ϩ hN hi ⟨s5,e5,v6,v7,rfl⟩;refine Ϩ _ _ (cN λM1 k1=>?_);rw[dq];have C5:=C.same s5;obtain⟨rv,lv,pv,r1,r2,r3,r4,r5,r6⟩:=C5.re;have gl:Ϣ lv ((at_:Int)+1)=some (.ref ld):=cq (by lia) (by rw[show((at_:Int)+1).toNat=at_+1 by lia];exact r4);have zi0:-100<=z-(i:Int):=by lia
  have zi1:z-(i:Int)+1<=2^64:=by lia
  walk_at "";refine⟨T.Tally,dx,fs,s5 _ _ ho,T.cQ,T.ϫ,_,fr,Ε r1 (cq C.v0.1 r2) (Ε r3 gl ?_)⟩;refine⟨ld,cs,z-(i:Int),rfl,μ.of C5.ed,by have:=C.cl.1;lia,zi0,gP (k:=65) (by lia) (by decide),Aw C.cb.1,λj hj=>u6 zi0 zi1 (by have:=C.cl.1;lia),λH6 s6=>k1 _ _ ?_⟩;have s56:=s5.trans s6;have C6:=C5.same s6;have e6:=s6 _ _ e5;have i24:i<=24:=by lia
  have hb:Β c i+1<=2^25:=by
   unfold Β;have h1:(i+1)*c<=25*1000000:=bZ (by lia) C.c2.2;have h2:(2:Nat)^25=33554432:=rfl
   lia
  have wb:(ϊ csk (Β c i) 0).natAbs<ϣ:=IB (z:=((Β c i:Nat):Int)) (by lia) (by lia) C.cl.2 C.cb.2;have gl2:Ϣ ((ϴ (i+1) (rW cs csk c z)).map V.int) (-1)=some (V.int (Ϡ i (rW cs csk c z))):=by
   unfold ϴ;rw[cZ,aD,aD];exact Jk _ _
  have el:((ϴ (i+1) (rW cs csk c z)).map V.int).length=i+1:=by unfold ϴ;rw[ah,ah,bC]
  walk_at "";refine⟨oK e6,Ε e6 gl2 ?_⟩;refine⟨o,dx,w,tw,lr,By,BV,fs,m,ps,rs,rv,pv,v,k,c,i,csk,rfl,s56 _ _ ho,fw,fr,C6.web,C.v0,C.k0,C.tl,C.c2.1,C.c2.2,s6 _ _ r1,r5,s6 _ _ r6,C6.ek,C.cl.2,i24,Aw C.cb.2,λH7 s7=>⟨_,rfl,qB wb (IB zi0 zi1 C.cl.1 C.cb.1),_,rfl,?_⟩⟩;refine rP (s7 _ _ e6) (ff (by rw[el];lia)) (hN _ _ ⟨(s56.trans s7).put nlb _,?_,_,_,rfl⟩);rw[ax];unfold ϴ;rw[cZ (n:=i+1),aD,aD]
  rfl
 .rintro BB σ H5 Ϩ ⟨s5,e5,v6,v7,rfl⟩;refine Ϩ _ _ (h3 _ _ ?_);walk_at "";have em:(m-1).toNat+1=m.toNat:=by lia
  rw[em]at e5;exact⟨lb,_,rfl,μ.of e5,by unfold ϴ;rw[ah,bC];lia,λl H6 nl s6 el=>q l H6 (s5.free nl) (s5.trans s6) el⟩
def vq(T:Txt K mg):Sp:=λvs H Q _=>E4 λ(a:Addr)(cs:List Int)(top:Nat)(z:Int)=>vs=[.ref a,.int top,.int z]/\μ K H a (cs.map V.int)/\cs.length<=100/\top+1<ϣ/\(∀c∈cs,c.natAbs<ϣ)/\(∀n k,n<=top->k<cs.length->ch n k<ϣ)/\∀(g:Nat)(H':Hp),g<=top->(g=0\/ϊ cs g 0<=z)->(g=top\/z<ϊ cs (g+1) 0)->δ H H'->Q (.int g) H'
abbrev oN:Stmt:=top 69
theorem Cy:ζ ["before","top","number","low","high","middle"] ["before","top","number"] (aJ oN):=.of
theorem Cq(T:Txt K mg)(hq:bU (ψ P w))(dy:Cb P w K mg base "value_at" gX ["found","at"] 1 (ko T)):Ok P w K mg base "last_within" oN ["before","top","number"] 2 (vq T):=λ_ _ D=>by
 refine D.F.ϔ Cy (by walk_at "v") λς A outer s H vs Q E hr h=>?_;obtain⟨a,cs,top,z,rfl,ha,cl,tb,cb,hb,k⟩:=h;refine⟨_,(ao (ρ 3 az) (ao (ρ 4 (γ 1)) (ao (qK PassesOwn.never (ό pJ (γ 3) (γ 4)) (ao (ρ 5 (aX eG (aX dN (aX dN (γ 3) (γ 4)) az) az)) (aL (dz (ό we (Θ dy hr hq (aa (γ 0) (aa (γ 5) ay))) (γ 2)) (aL (ρ 3 (γ 5))) (aL (ρ 4 (aX fH (γ 5) az))))))) (aL (bG (γ 3)))))),?_⟩;walk_at "s";refine cN λN1 h1=>?_;walk_at "";refine h1 _ _ (cN λN2 h2=>?_);walk_at "";refine h2 _ _ (cN λN3 h3=>?_);refine vg (λn σ H'=>E3 λ(lo hi:Nat)(v5:Option V)=>n=hi-lo/\lo<=hi/\hi<=top/\(lo=0\/ϊ cs lo 0<=z)/\(hi=top\/z<ϊ cs (hi+1) 0)/\δ H H'/\σ=[some (V.ref a),some (V.int top),some (V.int z),some (V.int lo),some (V.int hi),v5]) top ⟨0,top,_,rfl,bz _,aA _,.inl rfl,.inl rfl,δ.refl _,rfl⟩ ?_;rintro n σ H' N hN Ys ⟨lo,hi,v5,rfl,l1,l2,l3,l4,s,rfl⟩;walk_at "";by_cases c:lo<hi
 .rw[aj (by lia)];refine⟨N,λσ' H2 w=>?_,⟨by decide,by decide⟩,?_⟩
  .obtain⟨m',lt,lo',hi',v',e1,e2,e3,e4,e5,e6,e7⟩:=Ys _ _ w
   first|exact⟨m',lt,lo',hi',v',e1,e2,e3,e4,e5,e6,e7⟩|exact⟨m',lt,lo',hi',e1,e2,e3,e4,e5,e6,v',e7⟩
  obtain⟨mid,hm⟩:∃mid:Nat,((lo:Int)+(hi:Int)+1)/2=(mid:Int):=⟨(((lo:Int)+(hi:Int)+1)/2).toNat,by lia⟩;rw[hm];have m1:lo<mid:=by lia
  have m2:mid<=hi:=by lia
  refine⟨a,cs,(mid:Int),rfl,s.seq ha,cl,by lia,(show mid<ϣ by lia),cb,λk hk=>(show ch mid k<ϣ from hb mid k (by lia) hk),λH3 s3=>⟨_,rfl,?_⟩⟩;rw[yc];by_cases c2:ϊ cs mid 0<=z
  .rw[aj c2];exact hN (hi-mid) _ _ (by lia) ⟨mid,hi,_,rfl,m2,l2,.inr c2,l4,s.trans s3,rfl⟩
  .rw[ag c2];have e:((mid:Int)-1)=((mid-1:Nat):Int):=(by lia);rw[e];exact hN (mid-1-lo) _ _ (by lia) ⟨lo,mid-1,_,rfl,by lia,by lia,l3,.inr (by rw[show mid-1+1=mid by lia];lia),s.trans s3,rfl⟩
 .rw[ag (by lia)];refine h3 _ _ ?_;walk_at "";have e:hi=lo:=by lia
  subst e;exact k hi H' l2 l3 l4 s
def y9(T:Txt K mg):Sp:=λvs H Q _=>E23 λ(o w tw lk ϵ lr lp ld By BV:Addr)(m:Int)(ps:List Addr)(rs:List Road)(v k num:Int)(c at_ z:Nat)(cs csk:List Int)(fr be:Bool)=>vs=[.ref o,.int v,.int at_,.int z,.int num]/\Zg T.Web T.Tally H o w tw lk ϵ lr lp ld By BV m ps rs v k c at_ cs csk fr be/\at_<=24/\(z:Int)+1<=2^64/\∀(g:Nat)(H':Hp),g<=z->(be=true->g=z)->(be=false->fr=false->g=0)->(be=false->fr=true->(g=0\/ϊ (Ϫ (ϴ m.toNat (rW cs csk c z))) g 0<=num)/\(g=z\/num<ϊ (Ϫ (ϴ m.toNat (rW cs csk c z))) (g+1) 0))->δ H H'->Q (.int g) H'
abbrev sD:Stmt:=top 68
theorem HG:ζ ["tally","place","at","left","number","kid"] ["tally","place","at","left","number"] (aJ sD):=.of
theorem Hi(T:Txt K mg)(hq:bU (ψ P w))(qG:Cb P w K mg base "course" qu ["tally","place","at","left"] 6 (wS T))(kU:Cb P w K mg base "is_free" pf ["tally","place","kid"] 6 (sE T))(rY:Cb P w K mg base "last_within" oN ["before","top","number"] 2 (vq T)):Ok P w K mg base "given_by" sD ["tally","place","at","left","number"] 7 (y9 T):=λ_ _ D=>by
 refine D.F.ϔ HG (by walk_at "v") λς A outer s H vs Q E hr h=>?_;obtain⟨o,w,tw,lk,ϵ,lr,lp,ld,By,BV,m,ps,rs,v,k,num,c,at_,z,cs,csk,fr,be,rfl,C,a24,z1,q⟩:=h;have m1:=C.web.go.m1;have Ζ:=C.web.go.Ζ;refine⟨_,(ao (ρ 5 (Δ bB (iL bB (dB (γ 0) rfl) (γ 1) (λ_ _=>rfl)) (γ 2))) (ao (dz (ό gc (γ 5) (Δ bB (dB (γ 0) rfl) (γ 1))) (aL (bG (γ 3))) ce) (ao (dz (mL (nB (Θ kU hr hq (aa (γ 0) (aa (γ 1) (aa (γ 5) ay)))))) (aL (bG az)) ce) (aL (bG (Θ rY hr hq (aa (Θ qG hr hq (aa (γ 0) (aa (γ 1) (aa (γ 2) (aa (γ 3) ay))))) (aa (γ 3) (aa (γ 4) ay))))))))),?_⟩;walk_at "s";refine cN λN1 h1=>?_;walk_at "";obtain⟨dx,fs,ho,fw,fk,fr'⟩:=C.ob;obtain⟨kv,ks,hk1,hk2,hk3,hk4⟩:=C.ki;have gk:Ϣ (ks.map V.int) (at_:Int)=some (V.int k):=cq (by lia) (by rw[bD,aF,hk4];rfl);refine⟨T.Tally,dx,fs,ho,T.cQ,T.rC,_,fk,Ε hk1 (cq C.v0.1 hk2) (Ε hk3 gk (h1 _ _ ?_))⟩;obtain⟨dx2,fs2,lw,lb,xs,cv,ob,e1,e2,e3,e4,e5,e6,e7,e8,e9,e10⟩:=C.fb;walk_at "";refine⟨T.Tally,dx2,fs2,e1,T.cQ,T.ul,_,e4,Ε e7 (cq C.v0.1 e8) ?_⟩;refine⟨by cases ob<;>rfl,?_⟩;by_cases cb:ob=some k
 .have eb:be=true:=by rw[e10];exact bg cb
  rw[aj (by rw[cb];rfl)];exact q z H (aA _) (λ_=>rfl) (λz=>by rw[eb]at z;cases z) (λz=>by rw[eb]at z;cases z) (δ.refl _)
 .have eb:be=false:=by rw[e10];exact aQ cb
  rw[ag (λz=>cb (by cases ob with|none=>cases z|some b=>unfold ZN at z;injection z with z;rw[z]))];refine⟨o,dx2,w,tw,lw,lb,fs2,m,ps,rs,xs,cv,v,k,(c:Int),ob,rfl,e1,e2,e3,e4,C.web,e5,e6,e7,C.v0,C.k0,e8,C.tl,by have:=C.c2.1;lia,by have:=C.c2.2;lia,⟨_,rfl,?_⟩⟩;rw[<-e9];cases fr with
  | false=>
    rw[aj rfl];exact q 0 H (bz _) (λz=>by rw[eb]at z;cases z) (λ_ _=>rfl) (λ_ z=>by cases z) (δ.refl _)
  | true=>
    rw[ag (by decide)];refine⟨o,w,tw,lk,ϵ,lr,lp,ld,By,BV,m,ps,rs,v,k,(z:Int),c,at_,cs,csk,true,be,rfl,C,a24,by lia,z1,λl H1 nl s1 el=>?_⟩;have len:(Ϫ (ϴ m.toNat (rW cs csk c z))).length<=24:=(by rw[Cj];unfold ϴ;rw[ah,bC];lia);refine⟨l,_,z,num,rfl,μ.of el,by lia,gP (k:=65) (by lia) (by decide),IQ (by lia) (by lia) z1 C.c2.2 C.cl.1 C.cl.2 C.cb.1 C.cb.2,λn j hn hj=>(show(ZX (n:Int) j).natAbs<ϣ from u6 (by lia) (by lia) (by lia)),λg H2 g1 g2 g3 s2=>q g H2 g1 (λz=>by rw[eb]at z;cases z) (λ_ z=>by cases z) (λ_ _=>⟨g2,g3⟩) (s1.trans s2)⟩
def qf(T:Txt K mg):Sp:=λvs H Q _=>E23 λ(o w tw lk ϵ lr lp ld By BV:Addr)(m:Int)(ps:List Addr)(rs:List Road)(v k z:Int)(c at_:Nat)(cs csk:List Int)(fr be:Bool)(g:Nat)=>vs=[.ref o,.int v,.int at_,.int z,.int g]/\Zg T.Web T.Tally H o w tw lk ϵ lr lp ld By BV m ps rs v k c at_ cs csk fr be/\at_<=24/\-70<=z/\z+1<=2^64/\(g:Int)+1<=2^64/\∀H',δ H H'->Q (.int (if fr=true then ϊ (Ϫ (ϴ m.toNat (rW cs csk c z))) g 0 else 0)) H'
abbrev mF:Stmt:=top 70
theorem Cr:ζ ["tally","place","at","left","given"] ["tally","place","at","left","given"] (aJ mF):=.of
theorem C7(T:Txt K mg)(hq:bU (ψ P w))(qG:Cb P w K mg base "course" qu ["tally","place","at","left"] 6 (wS T))(kU:Cb P w K mg base "is_free" pf ["tally","place","kid"] 6 (sE T))(dy:Cb P w K mg base "value_at" gX ["found","at"] 1 (ko T)):Ok P w K mg base "ways_before" mF ["tally","place","at","left","given"] 7 (qf T):=λ_ _ D=>by
 refine D.F.ϔ Cr (by walk_at "v") λς A outer s H vs Q E hr h=>?_;obtain⟨o,w,tw,lk,ϵ,lr,lp,ld,By,BV,m,ps,rs,v,k,z,c,at_,cs,csk,fr,be,g,rfl,C,a24,z0,z1,g1,q⟩:=h;have m1:=C.web.go.m1;have Ζ:=C.web.go.Ζ;refine⟨_,(ao (dz (mL (nB (Θ kU hr hq (aa (γ 0) (aa (γ 1) (aa (Δ bB (iL bB (dB (γ 0) rfl) (γ 1) (λ_ _=>rfl)) (γ 2)) ay)))))) (aL (bG az)) ce) (aL (bG (Θ dy hr hq (aa (Θ qG hr hq (aa (γ 0) (aa (γ 1) (aa (γ 2) (aa (γ 3) ay))))) (aa (γ 4) ay)))))),?_⟩;walk_at "s";walk_at "";obtain⟨dx,fs,ho,fw,fk,fr'⟩:=C.ob;obtain⟨kv,ks,hk1,hk2,hk3,hk4⟩:=C.ki;have gk:Ϣ (ks.map V.int) (at_:Int)=some (V.int k):=cq (by lia) (by rw[bD,aF,hk4];rfl);refine⟨T.Tally,dx,fs,ho,T.cQ,T.rC,_,fk,Ε hk1 (cq C.v0.1 hk2) (Ε hk3 gk ?_)⟩;obtain⟨dx2,fs2,lw,lb,xs,cv,ob,e1,e2,e3,e4,e5,e6,e7,e8,e9,_⟩:=C.fb;refine⟨o,dx2,w,tw,lw,lb,fs2,m,ps,rs,xs,cv,v,k,(c:Int),ob,rfl,e1,e2,e3,e4,C.web,e5,e6,e7,C.v0,C.k0,e8,C.tl,by have:=C.c2.1;lia,by have:=C.c2.2;lia,⟨_,rfl,?_⟩⟩;rw[<-e9];cases fr with
 | false=>
   rw[aj rfl];exact q H (δ.refl _)
 | true=>
   rw[ag (by decide)];refine⟨o,w,tw,lk,ϵ,lr,lp,ld,By,BV,m,ps,rs,v,k,z,c,at_,cs,csk,true,be,rfl,C,a24,z0,z1,λl H1 nl s1 el=>?_⟩;have len:(Ϫ (ϴ m.toNat (rW cs csk c z))).length<=24:=by rw[Cj];unfold ϴ;rw[ah,bC];lia
   exact⟨l,_,(g:Int),rfl,μ.of el,by lia,by lia,gP (k:=65) (by lia) (by decide),IQ (by lia) z0 z1 C.c2.2 C.cl.1 C.cl.2 C.cb.1 C.cb.2,λj hj=>u6 (by lia) g1 (by lia),λH2 s2=>q H2 (s1.trans s2)⟩
def Kh(H:Hp)(l:Addr)(acc:List (Int×Nat×Int)):Prop:=∃η:List (Key×V),H l=some (.dK η)/\Paired (λ(kv:Key×V)(x:Int×Nat×Int)=>kv.1=.inl x.1/\∃q,kv.2=.ref q/\H q=some (.tup [.int x.2.1,.int x.2.2])) η acc
theorem IK:∀{η:List (Key×V)}{acc:List (Int×Nat×Int)}{R:V->Int×Nat×Int->Prop}{k:Int},Paired (λ(kv:Key×V)(x:Int×Nat×Int)=>kv.1=.inl x.1/\R kv.2 x) η acc->k∉acc.map (·.1)->f8 η (.inl k)=none
 | _,_,_,_,.nil,_=>rfl
 | _,_,R,k,.cons h t,n=>by
   rw[iX (λz=>n (by rw[aH];rw[h.1]at z;injection z with z;rw[<-z];exact .head _))];exact IK (R:=R) t λz=>n (by rw[aH];exact .tail _ z)
def Fl(m:Int)(rs:List Road)(r:Int)(par:Int->Int)(dep:Int->Nat)(tl:List Int)(v:Int)(z:Nat)(I:Nat->Nat->Int->List (Int×Nat×Int)->Prop):Prop:=∀(i:Nat)(k:Int)(left:Nat)(nu:Int)(acc:List (Int×Nat×Int))(g:Nat)(cs csk:List Int),(kd m rs r par v)[i]?=some k->left<=z->I i left nu acc->g<=left->ϑ 15000 cs (ϐ (Bv m rs r par dep tl) (XD m rs r par dep tl) (λk g=>XE m rs r par dep tl k (Β (cK rs par k) g)) ((kd m rs r par v).drop (i+1)))->ϑ 15000 csk (XE m rs r par dep tl k)->(XD m rs r par dep tl k=true->g=left)->(XD m rs r par dep tl k=false->Bv m rs r par dep tl k=false->g=0)->(XD m rs r par dep tl k=false->Bv m rs r par dep tl k=true->(g=0\/ϊ (Ϫ (ϴ m.toNat (rW cs csk (cK rs par k) left))) g 0<=nu)/\(g=left\/nu<ϊ (Ϫ (ϴ m.toNat (rW cs csk (cK rs par k) left))) (g+1) 0))->0<ϊ cs (left-g) 0/\ϊ cs (left-g) 0<2^9000/\I (i+1) (left-g) ((nu-(if Bv m rs r par dep tl k=true then ϊ (Ϫ (ϴ m.toNat (rW cs csk (cK rs par k) left))) g 0 else 0))%ϊ cs (left-g) 0) (acc++[(k,Β (cK rs par k) g,(nu-(if Bv m rs r par dep tl k=true then ϊ (Ϫ (ϴ m.toNat (rW cs csk (cK rs par k) left))) g 0 else 0))/ϊ cs (left-g) 0)])
def va(T:Txt K mg):Sp:=λvs H Q _=>E21 λ(o p t:Addr)(m:Int)(ps:List Addr)(rs:List Road)(r:Int)(par:Int->Int)(dep:Int->Nat)(tl:List Int)(ld lw lb lk lr:Addr)(kl:List Addr)(rv:List V)(v num:Int)(z:Nat)(I:Nat->Nat->Int->List (Int×Nat×Int)->Prop)=>vs=[.ref o,.int v,.int z,.int num]/\ϓ T.Web T.Tally H o p t m ps rs r par dep tl ld lw lb lk lr kl rv (λv=>0<=v/\v<m)/\(0<=v/\v<m)/\(z:Int)+1<=2^64/\I 0 z num []/\Fl m rs r par dep tl v z I/\∀(l:Addr)(H':Hp)(left:Nat)(nu:Int)(acc:List (Int×Nat×Int)),I (kd m rs r par v).length left nu acc->acc.map (·.1)=kd m rs r par v->H l=none->δ H H'->Kh H' l acc->Q (.ref l) H'
abbrev jR:Stmt:=top 67
theorem qz:ζ ["tally","place","held","number","found","left","at","kid","given","ways_behind"] ["tally","place","held","number"] (aJ jR):=.of
theorem vz:Zt (aJ jR) "number":=.of (by kernel_rfl)
theorem wM:Zt (aJ jR) "left":=.of (by kernel_rfl)
theorem tm:ϗ (aJ jR) "enumerate":=.of (by kernel_rfl)
theorem C2(T:Txt K mg)(hq:bU (ψ P w))(wf:Cb P w K mg base "given_by" sD ["tally","place","at","left","number"] 7 (y9 T))(nZ:Cb P w K mg base "held_for" pB ["tally","place","kid","given"] 4 (qR T))(dy:Cb P w K mg base "value_at" gX ["found","at"] 1 (ko T))(kP:Cb P w K mg base "ways_before" mF ["tally","place","at","left","given"] 7 (qf T)):Ok P w K mg base "handed_down" jR ["tally","place","held","number"] 8 (va T):=λ_ _ D=>by
 refine D.F.ϔ qz (by walk_at "v") λς A outer s H vs Q E hr h=>?_;obtain⟨o,p,t,m,ps,rs,r,par,dep,tl,ld,lw,lb,lk,lr,kl,rv,v,num,z,I,rfl,TA,vm,z1,i0,st,q⟩:=h;have hu:=oS hr;have g:=TA.web.go;have R:=TA.rt;have k24:(kd m rs r par v).length<=24:=zB g;refine⟨_,(ao (ρ 4 Oq) (ao (ρ 5 (γ 2)) (ao (eZ PassesOwn.never rfl (xY true tm.g T.enumerate (Δ bB (dB (γ 0) rfl) (γ 1))) (jo (n:=2) rfl (bW (Φ 6) (bW (Φ 7) gK))) (ao (ρ 8 (Θ wf hr hq (aa (γ 0) (aa (γ 1) (aa (γ 6) (aa (γ 5) (aa (γ 3) ay))))))) (ao (tj (i:=3) qz.nd rfl (Or.inl vz.l) (Θ kP hr hq (aa (γ 0) (aa (γ 1) (aa (γ 6) (aa (γ 5) (aa (γ 8) ay)))))) Gk) (ao (tj (i:=5) qz.nd rfl (Or.inl wM.l) (γ 8) Gk) (ao (ρ 9 (Θ dy hr hq (aa (Δ bB (iL bB (dB (γ 0) rfl) (γ 1) (λ_ _=>rfl)) (aX dN (γ 6) az)) (aa (γ 5) ay)))) (ao (xU hu (γ 4) (γ 7) (gS (aa (Θ nZ hr hq (aa (γ 0) (aa (γ 1) (aa (γ 7) (aa (γ 8) ay))))) (aa (aX vL (γ 3) (γ 9)) ay))) rfl) (aL (ρ 3 (aX dR (γ 3) (γ 9)))))))))) (aL (bG (γ 4)))))),?_⟩;walk_at "s";refine cN λN1 h1=>?_;walk_at "";refine λlf nlf=>h1 _ _ (cN λN2 h2=>?_);have s1:=δ.new (HO.dK []) nlf;have e1:Kh (upd H lf (HO.dK [])) lf []:=⟨[],ax,.nil⟩;generalize upd H lf (HO.dK [])=H1 at s1 e1 ⊢;walk_at "";refine h2 _ _ (cN λN3 h3=>?_);walk_at "";obtain⟨dx,ob⟩:=TA.ob;have evr:(cR m.toNat)[v.toNat]?=some v:=by rw[fZ (by lia),bH vm.1]
 obtain⟨ϵ,Yk,Rw⟩:=tL TA.kp evr;refine⟨T.Tally,dx,_,s1 _ _ ob,T.cQ,T.rC,_,p7 _ _ _ _ _ _,Ε (s1 _ _ TA.hk) (cq vm.1 (by rw[aF,Yk];rfl)) ⟨ϵ,rfl,⟨_,μ.of (s1 _ _ Rw)⟩,?_⟩⟩;refine zK (K:=K) (c:=true) (xs:=(kd m rs r par v).map V.int) (λi σ H2=>δ H H2/\E7 λ(left:Nat)(nu:Int)(acc:List (Int×Nat×Int))(v6 v7 v8 v9:Option V)=>left<=z/\I i left nu acc/\Kh H2 lf acc/\acc.map (·.1)=(kd m rs r par v).take i/\σ=[some (V.ref o),some (V.int v),some (V.int z),some (V.int nu),some (V.ref lf),some (V.int left),v6,v7,v8,v9]) ⟨s1,z,num,[],_,_,_,_,aA _,i0,e1,rfl,rfl⟩ (λi σ H2 y=>μ.of (y.1 _ _ Rw)) ?_ ?_
 .rintro i x σ H2 q' N hN hx ⟨s2,left,nu,acc,v6,v7,v8,v9,lz,ii,hd,am,rfl⟩ nq;obtain⟨k,hk,rfl⟩:=List.ι hx;have il:=(aq.mp hk).1;have s3:=s2.trans (δ.new (HO.tup [V.int (i:Int),V.int k]) nq);have eq3:upd H2 q' (HO.tup [V.int (i:Int),V.int k]) q'=some (.tup [V.int (i:Int),V.int k]):=ax;have hd3:Kh (upd H2 q' (HO.tup [V.int (i:Int),V.int k])) lf acc:=let ⟨η,a1,a2⟩:=hd;⟨η,δ.new _ nq _ _ a1,Paired.imp' (λkv x ⟨b1,q0,b2,b3⟩=>⟨b1,q0,b2,δ.new _ nq _ _ b3⟩) a2⟩;walk_at "";refine⟨_,Η.of eq3,rfl,_,_,rfl,_,_,rfl,rfl,?_⟩;generalize upd H2 q' (HO.tup [V.int (i:Int),V.int k])=H3 at s3 hd3 ⊢;have TA3:=TA.same s3;obtain⟨abE,lp,Z1,By,BV,cs,csk,C,c1,c2⟩:=TA3.co vm hk;have i24:i<=24:=by lia
  refine⟨o,p,t,lk,abE,lr,lp,Z1,By,BV,m,ps,rs,v,k,nu,cK rs par k,i,left,cs,csk,_,_,rfl,C,i24,by lia,λgg H4 g1 g2 g3 g4 s4=>?_⟩;obtain⟨w0,w1,nx⟩:=st i k left nu acc gg cs csk hk lz ii g1 c1 c2 g2 g3 g4;have C4:=C.same s4;refine⟨o,p,t,lk,abE,lr,lp,Z1,By,BV,m,ps,rs,v,k,(left:Int),cK rs par k,i,cs,csk,_,_,gg,rfl,C4,i24,by lia,by lia,by lia,λH5 s5=>⟨_,rfl,_,rfl,?_⟩⟩;have s35:=s4.trans s5;have C5:=C4.same s5;obtain⟨dx5,fs5,ho5,fw5,fk5,fr5⟩:=C5.ob;obtain⟨rv5,lv5,pv5,r1,r2,r3,r4,r5,r6⟩:=C5.re;have gl:Ϣ lv5 ((i:Int)+1)=some (.ref Z1):=cq (by lia) (by rw[show((i:Int)+1).toNat=i+1 by lia];exact r4);refine⟨T.Tally,dx5,fs5,ho5,T.cQ,T.ϫ,_,fr5,Ε r1 (cq vm.1 r2) ⟨_,rfl,Ε r3 gl ?_⟩⟩;have el:(left:Int)-(gg:Int)=((left-gg:Nat):Int):=by lia
  rw[el];have cl1:=C.cl.1;refine⟨Z1,cs,((left-gg:Nat):Int),rfl,μ.of C5.ed,by lia,by lia,gP (k:=65) (by lia) (by decide),Aw C.cb.1,λj hj=>u6 (by lia) (by lia) (by lia),λH6 s6=>?_⟩;rw[yc];have C6:=C5.same s6;obtain⟨dx6,fs6,ho6,fw6,_,_⟩:=C6.ob;have eh:((gg:Int)+1)*((cK rs par k:Nat):Int)-1=((Β (cK rs par k) gg:Nat):Int):=by
   have c2':=C.c2.1;unfold Β;have:1<=(gg+1)*cK rs par k:=bZ (show 1<=gg+1 by lia) (show 1<=cK rs par k by lia);rw[lZ this,jK]
   rfl
  generalize ϊ cs (left-gg) 0=W at w0 w1 nx ⊢;generalize (if Bv m rs r par dep tl k=true then ϊ (Ϫ (ϴ m.toNat (rW cs csk (cK rs par k) ↑left))) gg 0 else 0)=B at nx ⊢;refine(show qR T _ _ _ _ from⟨o,dx6,p,t,fs6,m,ps,rs,v,k,((cK rs par k:Nat):Int),gg,rfl,ho6,fw6,C6.web,vm,C.k0,C.tl,by have:=C.c2.1;lia,by have:=C.c2.2;lia,?_⟩);rw[eh];have s36:=s35.trans s6;obtain⟨η,a1,a2⟩:=hd3;refine⟨W,rfl,⟨w0,(nJ (by lia)).mpr (by lia)⟩,bN (by simp),λpq npq=>?_⟩;have s7:=δ.new (HO.tup [V.int (Β (cK rs par k) gg:Nat),V.int ((nu-B)/W)]) npq;have e7:upd H6 pq (HO.tup [V.int (Β (cK rs par k) gg:Nat),V.int ((nu-B)/W)]) pq=some (.tup [V.int (Β (cK rs par k) gg:Nat),V.int ((nu-B)/W)]):=ax;have s37:=s36.trans s7;generalize upd H6 pq (HO.tup [V.int (Β (cK rs par k) gg:Nat),V.int ((nu-B)/W)])=H7 at s7 e7 s37 ⊢;have a7:=s37 _ _ a1;have al:acc.length=i:=by rw[<-ah (f:=λx:Int×Nat×Int=>x.1),am,bd];lia
  have kl':η.length=acc.length:=Paired.length a2;have kn:k∉acc.map (·.1):=λy=>by
   rw[am]at y;have nd:(kd m rs r par v).Nodup:=pH;obtain⟨j,hj,ej⟩:=dL y;rw[bd]at hj;rw[fG]at ej;have:=(fF (show j<(kd m rs r par v).length by lia) nd).mp (show(kd m rs r par v)[j]?=(kd m rs r par v)[i]? by rw[hk,ap (by lia),ej])
   lia
  have kv':=IK (R:=λy x=>∃q,y=V.ref q/\H3 q=some (.tup [.int x.2.1,.int x.2.2])) a2 kn;refine⟨_,XN.k (k:=Sum.inl k) a7 (ff (by lia)),W,rfl,w0,hN _ _ ⟨(s3.trans s37).put nlf _,left-gg,(nu-B)%W,acc++[(k,Β (cK rs par k) gg,(nu-B)/W)],_,_,_,_,by lia,nx,?_,?_,rfl⟩⟩
  .rw[EZ _ kv'];refine⟨_,ax,Ir ⟨rfl,pq,rfl,by rw[aO (hW e7 a7 (by intro z;cases z))];exact e7⟩ (Paired.imp' (λkv x ⟨b1,q0,b2,b3⟩=>⟨b1,q0,b2,by rw[aO (hW (s37 _ _ b3) a7 (by intro z;cases z))];exact s37 _ _ b3⟩) a2)⟩
  .rw[aD,am,df,hk]
   rfl
 .rintro σ H2 ⟨s2,left,nu,acc,v6,v7,v8,v9,lz,ii,hd,am,rfl⟩;rw[ah]at ii;refine h3 _ _ ?_;walk_at "";exact q lf H2 left nu acc ii (by rw[am,ah,bp]) nlf s2 hd
theorem Bz:∀(more η:List (Key×V))(j:Key),(∃kv∈more,kv.1=j/\f8 (jU η more) j=some kv.2)\/((∀kv∈more,kv.1≠j)/\f8 (jU η more) j=f8 η j)
 | [],η,j=>.inr ⟨λ_ h=>(by cases h),rfl⟩
 | p::r,η,j=>by
   rcases Bz r (ig η p.1 p.2) j with⟨kv,h1,h2,h3⟩|⟨h1,h2⟩
   .exact .inl ⟨kv,.tail _ h1,h2,h3⟩
   .have e:f8 (jU η (p::r)) j=f8 (ig η p.1 p.2) j:=h2;rw[zS]at e;by_cases c:j=p.1
    .rw[aj c]at e;exact .inl ⟨p,.head _,c.symm,e⟩
    .rw[ag c]at e;exact .inr ⟨λkv hk=>by
      rcases ar.mp hk with rfl|hk
      .exact λz=>c z.symm
      .exact h1 kv hk,e⟩
theorem Ml{α β:Type}{R:α->β->Prop}:∀{l₁:List α}{l₂:List β},Paired R l₁ l₂->(∀a∈l₁,∃b∈l₂,R a b)/\∀b∈l₂,∃a∈l₁,R a b
 | _,_,.nil=>⟨λ_ h=>(by cases h),λ_ h=>(by cases h)⟩
 | _,_,.cons h t=>by
   obtain⟨h1,h2⟩:=Ml t;refine⟨λa ha=>?_,λb hb=>?_⟩
   .rcases ar.mp ha with rfl|ha
    .exact⟨_,.head _,h⟩
    .obtain⟨b,hb,e⟩:=h1 a ha;exact⟨b,.tail _ hb,e⟩
   .rcases ar.mp hb with rfl|hb
    .exact⟨_,.head _,h⟩
    .obtain⟨a,ha,e⟩:=h2 b hb;exact⟨a,.tail _ ha,e⟩
def SY(H:Hp)(J:Int->Nat->Int->Prop)(η:List (Key×V))(u:Int):Prop:=E3 λ(q:Addr)(h:Nat)(n:Int)=>f8 η (.inl u)=some (.ref q)/\H q=some (.tup [.int h,.int n])/\J u h n
def xh(T:Txt K mg):Sp:=λvs H Q _=>E20 λ(o p t:Addr)(m:Int)(ps:List Addr)(rs:List Road)(r:Int)(par:Int->Int)(dep:Int->Nat)(tl:List Int)(ld lw lb lk lr:Addr)(kl:List Addr)(rv:List V)(num:Int)(z:Nat)(J:Int->Nat->Int->Prop)=>vs=[.ref o,.int z,.int num]/\ϓ T.Web T.Tally H o p t m ps rs r par dep tl ld lw lb lk lr kl rv (λv=>0<=v/\v<m)/\(0<=r/\r<m)/\J r z num/\(∀(v:Int)(h:Nat)(n:Int),0<=v->v<m->J v h n->(h:Int)+1<=2^64/\∃I:Nat->Nat->Int->List (Int×Nat×Int)->Prop,I 0 h n []/\Fl m rs r par dep tl v h I/\∀left nu acc,I (kd m rs r par v).length left nu acc->∀x∈acc,J x.1 x.2.1 x.2.2)/\∀(l:Addr)(xs:List Int)(H':Hp),(xs.length:Int)=m->(∀v,0<=v->v<m->(kd m rs r par v=[]->∃(h:Nat)(n:Int),xs.getD v.toNat 0=h/\J v h n)/\(kd m rs r par v≠[]->xs.getD v.toNat 0=0))->H l=none->δ H H'->H' l=some (.tup (xs.map V.int))->Q (.ref l) H'
abbrev qN:Stmt:=top 66
theorem GF:ζ ["tally","held","number","counts","waiting","place","own"] ["tally","held","number"] (aJ qN):=.of
theorem FD(T:Txt K mg)(hq:bU (ψ P w))(rV:Cb P w K mg base "handed_down" jR ["tally","place","held","number"] 8 (va T)):Ok P w K mg base "laying_at" qN ["tally","held","number"] 9 (xh T):=λ_ _ D=>by
 refine D.F.ϔ GF (by walk_at "v") λς A outer s H vs Q E hr h=>?_;obtain⟨o,p,t,m,ps,rs,r,par,dep,tl,ld,lw,lb,lk,lr,kl,rv,num,z,J,rfl,TA,rm,jr,jj,q⟩:=h;have hu:=oS hr;have g:=TA.web.go;have R:=TA.rt;refine⟨_,(ao (ρ 3 (aX pR (eC (aa az ay)) (dB (dB (γ 0) rfl) rfl))) (ao (ρ 4 (Il (EI (Δ bB (dB (γ 0) rfl) az) (gS (aa (γ 1) (aa (γ 2) ay))) IL) rfl rfl (List.cons_ne_nil _ _) (by decide))) (ao (eZ PassesOwn.never rfl (hG (dB (γ 0) rfl)) (Φ 5) (ao (ρ 6 (vw hu (γ 4) (γ 5) (λ_ _=>rfl))) (ao (dz (mL (qm (Δ bB (dB (γ 0) rfl) (γ 5)) (λ_=>rfl))) (aL (jW (Δ g9 (γ 6) az) (mK (γ 3) (γ 5) iW))) ce) (aL (dH (jI PySem.F.plainAttrs_dict PySem.F.slot_dict_update PySem.F.type_dict_update My (γ 4) (aa (Θ rV hr hq (aa (γ 0) (aa (γ 5) (aa (Δ g9 (γ 6) az) (aa (Δ g9 (γ 6) az) ay))))) ay))))))) (aL (bG (pct oP T.tuple (aa (γ 3) ay))))))),?_⟩;walk_at "s";refine cN λN1 h1=>?_;walk_at "";have m1:=g.m1;have Ζ:=g.Ζ;obtain⟨dx,ob⟩:=TA.ob;obtain⟨dw,wb⟩:=TA.web.ob;refine⟨bN (by simp),λp0 np0=>?_⟩;have s0:=δ.new (HO.lst [V.int 0]) np0;have e0:upd H p0 (HO.lst [V.int 0]) p0=some (.lst [V.int 0]):=ax;generalize upd H p0 (HO.lst [V.int 0])=H0 at s0 e0 ⊢;have efl:(List.replicate m.toNat [V.int 0]).flatten=(List.replicate m.toNat (0:Int)).map V.int:=by
  rw[gb]
  induction m.toNat with
  | zero=>rfl
  | succ n ih=>rw[cw,eR,ih,cw];rfl
 refine⟨T.Tally,dx,_,s0 _ _ ob,T.cQ,T.As,_,o9 _ _ _ _ _ _,p,rfl,T.Web,dw,_,s0 _ _ wb,T.kQ,T.ϒ,_,j7 _ _,p0,m,_,rfl,rfl,e0,by lia,by lia,bN (by show 1*m.toNat<=100000;lia),λlc nlc=>h1 _ _ (cN λN2 h2=>?_)⟩;rw[efl];have s1:=s0.trans (δ.new (HO.lst ((List.replicate m.toNat (0:Int)).map V.int)) nlc);have e1:upd H0 lc (HO.lst ((List.replicate m.toNat (0:Int)).map V.int)) lc=some (.lst ((List.replicate m.toNat (0:Int)).map V.int)):=ax;have ado:=s0.free nlc;generalize upd H0 lc (HO.lst ((List.replicate m.toNat (0:Int)).map V.int))=H1 at s1 e1 ⊢;unfold EE;walk_at "";intro pw npw;have u2:=δ.new (HO.dK []) npw;have e2:upd H1 pw (HO.dK []) pw=some (.dK []):=ax;have afp:=s1.free npw;have ncw:lc≠pw:=λy=>by rw[<-y,e1]at npw;cases npw
 generalize upd H1 pw (HO.dK [])=H2 at u2 e2 ⊢;have s2:=s1.trans u2;have gd:Ϣ ((cW m rs r par dep r).map V.int) 0=some (V.int r):=by
  rw[TA.et];exact cq (bA 0) rfl
 refine⟨T.Tally,dx,_,s2 _ _ ob,T.cQ,T.vo,_,pW _ _ _ _ _ _,Ε (s2 _ _ TA.hd) gd ⟨bN (by simp),λpt npt=>?_⟩⟩;have u3:=δ.new (HO.tup [V.int z,V.int num]) npt;have e3:upd H2 pt (HO.tup [V.int z,V.int num]) pt=some (.tup [V.int z,V.int num]):=ax;have e23:=u3 _ _ e2;generalize upd H2 pt (HO.tup [V.int z,V.int num])=H3 at u3 e3 e23 ⊢;refine⟨e23,[(.inl r,.ref pt)],rfl,(show 1<=15 by decide),h2 _ _ (cN λN3 h3=>?_)⟩;have s3:=((s2.trans u3).put afp (HO.dK [(.inl r,.ref pt)]));have e4:upd H3 pw (HO.dK (jU [] [(.inl r,.ref pt)])) pw=some (.dK [(.inl r,.ref pt)]):=ax;have ec4:upd H3 pw (HO.dK (jU [] [(.inl r,.ref pt)])) lc=some (.lst ((List.replicate m.toNat (0:Int)).map V.int)):=by rw[aO ncw];exact u3 _ _ (u2 _ _ e1)
 have et4:upd H3 pw (HO.dK (jU [] [(.inl r,.ref pt)])) pt=some (.tup [V.int z,V.int num]):=by rw[aO (hW e3 e23 (by intro y;cases y))];exact e3
 have s4:δ H (upd H3 pw (HO.dK (jU [] [(.inl r,.ref pt)]))):=s3;generalize upd H3 pw (HO.dK (jU [] [(.inl r,.ref pt)]))=H4 at s4 e4 ec4 et4 ⊢;clear u2 u3 e2 e23 e3 s2 s3;walk_at "";refine⟨T.Tally,dx,_,s4 _ _ ob,T.cQ,T.vo,_,pW _ _ _ _ _ _,ld,rfl,⟨_,μ.of (s4 _ _ TA.hd)⟩,?_⟩;have pn:∀u,0<=u->u<m->u∈cW m rs r par dep r:=λu u0 u1=>by
  rw[TA.et];rcases TA.or.all u u0 u1 with rfl|y
  .exact .head _
  .exact .tail _ y
 have nd:(cW m rs r par dep r).Nodup:=by rw[TA.et];exact TA.or.nd
 have pr:∀u∈cW m rs r par dep r,0<=u/\u<m:=λu hu=>by
  rw[TA.et]at hu;rcases ar.mp hu with rfl|y
  .exact rm
  .exact TA.or.Μ u y
 have pl:(cW m rs r par dep r).length<=24:=FY g R rm.1 rm.2;refine mh (K:=K) (xs:=(cW m rs r par dep r).map V.int) (λi σ H5=>δ H H5/\E4 λ(xs:List Int)(η:List (Key×V))(v5 v6:Option V)=>H5 lc=some (.lst (xs.map V.int))/\H5 pw=some (.dK η)/\xs.length=m.toNat/\η.length<=1+24*i/\(∀u,(u=r\/(0<=u/\u<m/\u≠r/\par u∈(cW m rs r par dep r).take i))->SY H5 J η u)/\(∀u,0<=u->u<m->(u∈(cW m rs r par dep r).take i->(kd m rs r par u=[]->∃(h:Nat)(n:Int),xs.getD u.toNat 0=h/\J u h n)/\(kd m rs r par u≠[]->xs.getD u.toNat 0=0))/\(u∉(cW m rs r par dep r).take i->xs.getD u.toNat 0=0))/\σ=[some (V.ref o),some (V.int z),some (V.int num),some (V.ref lc),some (V.ref pw),v5,v6]) ⟨s4,_,_,_,_,ec4,e4,bT ..,(show 1<=1+24*0 by decide),?_,?_,rfl⟩ (λi σ H5 _ y=>μ.of (y.1 _ _ TA.hd)) ?_ ?_
 .rintro u (rfl|⟨_,_,_,y⟩)
  .exact⟨pt,z,num,i9 rfl,et4,jr⟩
  .cases y
 .intro u u0 u1;refine⟨λy=>(by cases y),λ_=>?_⟩;rw[cf,d7];split<;>rfl
 .rintro i y σ H5 N BB Ϩ hN hy ⟨s5,xs,η,v5,v6,ex,ew,xl,kl5,wt,pr5,rfl⟩;obtain⟨v,hv,rfl⟩:=List.ι hy;have vm:=pr v (aM hv);have il:=(aq.mp hv).1;refine Ϩ _ _ (cN λM1 k1=>?_);have hwt:SY H5 J η v:=by
   refine wt v ?_;rw[TA.et]at hv ⊢;cases i with
   | zero=>exact .inl (bq hv).symm
   | succ j=>
     have Zm:tl[j]?=some v:=hv;have vt:=aM Zm;have vr:=TA.or.ne vt;refine .inr ⟨vm.1,vm.2,vr,?_⟩;have au:=After.up (A:=tl.take (j+1)) (B:=tl.drop (j+1)) (S:=[r]) (by rw[b8];exact TA.or.af) v (by rw[df,Zm];exact aY _ (.head _));have pd:=(R.up v vm.1 vm.2 vr).2.2;rw[mI];rcases au with y|y
     .rw[aB.mp y];exact .head _
     .rw[df,Zm]at y;rcases bc.mp y with y|y
      .exact .tail _ y
      .have:par v=v:=aB.mp y;rw[this]at pd
       lia
  obtain⟨q0,h0,n0,w1,w2,w3⟩:=hwt;obtain⟨hb,I,i0,ist,akj⟩:=jj v h0 n0 vm.1 vm.2 w3;walk_at "";have dg:=ϙ.k (H:=H5) (k:=Sum.inl v) ew;rw[w1]at dg;refine⟨_,dg,k1 _ _ (cN λM2 k2=>?_)⟩;have evr:(cR m.toNat)[v.toNat]?=some v:=by rw[fZ (by lia),bH vm.1]
  obtain⟨ϵ,Yk,Rw⟩:=tL TA.kp evr;have tk1:(cW m rs r par dep r).take (i+1)=(cW m rs r par dep r).take i++[v]:=by rw[df,hv];rfl
  have nxt:∀(xs':List Int)(H6:Hp),δ H H6->H6 lc=some (.lst (xs'.map V.int))->H6 pw=some (.dK η)->(∀q x,H5 q=some (.tup x)->H6 q=some (.tup x))->xs'.length=m.toNat->(∀u,0<=u->u<m->(u∈(cW m rs r par dep r).take (i+1)->(kd m rs r par u=[]->∃(h:Nat)(n:Int),xs'.getD u.toNat 0=h/\J u h n)/\(kd m rs r par u≠[]->xs'.getD u.toNat 0=0))/\(u∉(cW m rs r par dep r).take (i+1)->xs'.getD u.toNat 0=0))->M2 [some (V.ref o),some (V.int z),some (V.int num),some (V.ref lc),some (V.ref pw),some (V.int v),some (V.ref q0)] H6:=by
   intro xs' H6 s6 ex6 ew6 tp xl6 pr6;refine k2 _ _ ?_;have e6:=tp _ _ w2;walk_at "";refine⟨.inr (.inr (.inl ⟨rfl,.inl ⟨_,ew6⟩⟩)),XI e6 rfl (XI e6 rfl ?_)⟩;refine⟨o,p,t,m,ps,rs,r,par,dep,tl,ld,lw,lb,lk,lr,kl,rv,v,n0,h0,I,rfl,TA.same s6,vm,hb,i0,ist,λl H7 left nu acc ie am nl s7 hd=>?_⟩;obtain⟨more,m1',m2'⟩:=hd;have ew7:=s7 _ _ ew6;have npl:pw≠l:=λy=>by rw[<-y,ew6]at nl;cases nl
   have ml:more.length=acc.length:=Paired.length m2';have al:acc.length<=24:=by
    have h1:=congrArg List.length am;rw[ah]at h1;have h2:(kd m rs r par v).length<=24:=zB g
    lia
   have kp:∀q x,H7 q=some (.tup x)->upd H7 pw (HO.dK (jU η more)) q=some (.tup x):=λq x e=>by rw[aO (hW e ew7 (by intro y;cases y))];exact e
   refine⟨pw,l,η,more,rfl,rfl,ew7,m1',npl,bN (by lia),hN _ _ ⟨(s6.trans s7).put afp _,xs',_,_,_,by rw[aO ncw];exact s7 _ _ ex6,ax,xl6,?_,λu hu=>?_,pr6,rfl⟩⟩
   .have:=oO more η
    lia
   .obtain⟨pm1,pm2⟩:=Ml m2';rcases Bz more η (.inl u)with⟨kv,k1',k2',k3'⟩|⟨k1',k2'⟩
    .obtain⟨x,hx,x1,q1,x2,x3⟩:=pm1 kv k1';have xu:x.1=u:=(by rw[x1]at k2';exact Sum.inl.inj k2');exact⟨q1,x.2.1,x.2.2,by rw[k3',x2],kp _ _ x3,xu▸akj left nu acc ie x hx⟩
    .have old:u=r\/(0<=u/\u<m/\u≠r/\par u∈(cW m rs r par dep r).take i):=by
      rcases hu with y|⟨y1,y2,y3,y4⟩
      .exact .inl y
      .rw[tk1]at y4;rcases bc.mp y4 with y4|y4
       .exact .inr ⟨y1,y2,y3,y4⟩
       .have pu:par u=v:=aB.mp y4;have uk:u∈kd m rs r par v:=(bO g R vm.1 vm.2).mpr ⟨⟨y1,y2⟩,y3,pu⟩;rw[<-am]at uk;obtain⟨x,hx,e⟩:=bu.mp uk;obtain⟨kv,Yv,e1',_⟩:=pm2 x hx;exact absurd (by rw[e1',e]) (k1' kv Yv)
     obtain⟨q1,h2',n2',o1,o2,o3⟩:=wt u old;exact⟨q1,h2',n2',by rw[k2'];exact o1,kp _ _ (s7 _ _ (tp _ _ o2)),o3⟩
  walk_at "";refine⟨T.Tally,dx,_,s5 _ _ ob,T.cQ,T.rC,_,p7 _ _ _ _ _ _,Ε (s5 _ _ TA.hk) (cq vm.1 (by rw[aF,Yk];rfl)) ?_⟩;have vn:v∉(cW m rs r par dep r).take i:=λy=>by
   obtain⟨j,hj,ej⟩:=dL y;rw[bd]at hj;rw[fG]at ej;have:=(fF (show j<(cW m rs r par dep r).length by lia) nd).mp (show(cW m rs r par dep r)[j]?=(cW m rs r par dep r)[i]? by rw[hv,ap (by lia),ej])
   lia
  have v1:v∈(cW m rs r par dep r).take (i+1):=by rw[tk1];exact aY _ (.head _)
  have un:∀u,u≠v->(u∈(cW m rs r par dep r).take (i+1)↔u∈(cW m rs r par dep r).take i):=λu nu=>by
   rw[tk1];exact⟨λy=>(bc.mp y).elim id λy=>absurd (aB.mp y) nu,λy=>bo _ y⟩
  by_cases c:kd m rs r par v=[]
  .refine⟨false,.inl ⟨_,μ.of (s5 _ _ Rw),by rw[c];rfl⟩,?_⟩;rw[aj rfl];refine XI w2 rfl (rX ex vm.1 (by rw[ah];lia) ?_);rw[<-d9];refine nxt (xs.set v.toNat h0) _ (s5.put ado _) ax (by rw[aO (Ne.symm ncw)];exact ew) (λq x e=>by rw[aO (hW e ex (by intro y;cases y))];exact e) (by rw[cP];exact xl) λu u0 u1=>?_;rw[o0 _ _ _ _ (by lia)];by_cases cu:u=v
   .subst cu;rw[aj rfl];exact⟨λ_=>⟨λ_=>⟨h0,n0,rfl,w3⟩,λy=>absurd c y⟩,λy=>absurd v1 y⟩
   .rw[ag (by lia),un u cu];exact pr5 u u0 u1
  .refine⟨true,.inl ⟨_,μ.of (s5 _ _ Rw),by cases e:kd m rs r par v with|nil=>exact absurd e c|cons a b=>rfl⟩,?_⟩;rw[ag (by decide)];refine nxt xs H5 s5 ex ew (λ_ _ e=>e) xl λu u0 u1=>?_;by_cases cu:u=v
   .subst cu;exact⟨λ_=>⟨λy=>absurd y c,λ_=>(pr5 u u0 u1).2 vn⟩,λy=>absurd v1 y⟩
   .rw[un u cu];exact pr5 u u0 u1
 .rintro BB σ H5 Ϩ ⟨s5,xs,η,v5,v6,ex,ew,xl,kl5,wt,pr5,rfl⟩;rw[ah,bp]at pr5;refine Ϩ _ _ (h3 _ _ ?_);walk_at "";refine⟨_,.inl ⟨μ.of ex,λl nl=>q l xs _ (by lia) (λu u0 u1=>(pr5 u u0 u1).1 (pn u u0 u1)) (s5.free nl) (s5.trans (δ.new _ nl)) ax⟩⟩
theorem Gi{m:Int}{rs:List Road}{r:Int}{par:Int->Int}{dep:Int->Nat}(g:Good m rs)(R:ε m rs r par dep)(k:Int)(k0:0<=k)(k1:k<m)(kr:k≠r):(cK rs par k:Int)=tup rs par k:=bH (by have:=(jX g R k0 k1 kr).1;lia)
theorem VM{m:Int}{rs:List Road}{r:Int}{par:Int->Int}{dep:Int->Nat}{tl:List Int}(g:Good m rs)(R:ε m rs r par dep)(O:Order m r par tl){v:Int}{z:Nat}(v0:0<=v)(v1:v<m)(hz:υ m rs r par dep v*((z:Int)+1)<=2^64):Fl m rs r par dep tl v z (λ_ left _ acc=>left<=z/\∀x∈acc,υ m rs r par dep x.1*((x.2.1:Int)+1)<=2^64):=by
 intro i k left nu acc gg cs csk hk lz ⟨_,ha⟩ gl c1 _ _ _ _;have w1:=(gA g R v0 v1).1;obtain⟨k1,k2,k3⟩:=(bO g R v0 v1).mp (aM hk);have mono:∀a:Nat,a<=z->υ m rs r par dep v*((a:Int)+1)<=2^64:=λa h=>bE (cT (by lia) (by lia)) hz;have sub:∀x∈(kd m rs r par v).drop (i+1),x∈kd m rs r par v:=λx h=>cI h;have wyb:∀x∈kd m rs r par v,0<=x/\x<m:=λx h=>((bO g R v0 v1).mp h).1;have b:=Je (fr:=Bv m rs r par dep tl) (be:=XD m rs r par dep tl) g R O (Gi g R) (x:=64) v0 v1 (λx h=>I0 g R O (Gi g R) _ (wyb x h).1 (wyb x h).2 (aA _)) sub (mono (left-gg) (by lia));have p:=C9 (fr:=Bv m rs r par dep tl) (be:=XD m rs r par dep tl) (ws:=λk g=>XE m rs r par dep tl k (Β (cK rs par k) g)) (ks:=(kd m rs r par v).drop (i+1)) (λx h n=>Fj g R _ (wyb x (sub x h)).1 (wyb x (sub x h)).2 (aA _) _) (left-gg);have d:=vY (λk=>oR m rs r par dep k+1) (kd m rs r par v) (i+1);rw[jQ g R v0 v1]at d;have dl:=pK g R v0 v1;have Ζ:=g.Ζ;rw[c1.val];refine⟨by unfold XE at p ⊢;lia,Int.lt_of_le_of_lt b (by
  rw[show(2:Int)^9000=2^8999*2 from Int.pow_succ ..];have:=zN (a:=64*(((kd m rs r par v).drop (i+1)).map λk=>oR m rs r par dep k+1).sum) (b:=8999) (by lia);have:=lu 8999
  lia),by lia,λx hx=>?_⟩
 rcases bc.mp hx with hx|hx
 .exact ha x hx
 .rw[aB.mp hx];have:=IA g R O k1.1 k1.2 k2 (Gi g R k k1.1 k1.2 k2) gg;rw[k3]at this;exact bE this (mono gg (by lia))
def yS(T:Txt K mg):Sp:=λvs H Q E=>E8 λ(p t:Addr)(m:Int)(ps:List Addr)(rs:List Road)(r w num:Int)=>vs=[.ref p,.int r,.int w,.int num]/\ν T.Web H p m t ps rs/\w<=10^60/\-(10^60)<=w/\(0<=r->r<m->1<=w->∃par dep,ε m rs r par dep/\(ϱ m rs r par (cM m rs r par dep) w+1<=1000000000000->∀tl,Order m r par tl->cW m rs r par dep r=r::tl->((0<=num/\num<XE m rs r par dep tl r (w-1).toNat)->∀l H',H l=none->δ H H'->Q (.ref l) H')/\(¬(0<=num/\num<XE m rs r par dep tl r (w-1).toNat)->∀H',δ H H'->E (.ref T.NoNumber) none H'))/\(1000000000000<ϱ m rs r par (cM m rs r par dep) w+1->∀H',δ H H'->E (.ref T.TooMany) none H'))/\(¬(0<=r/\r<m)->∀H',δ H H'->E (.ref T.NoPlace) none H')/\(0<=r->r<m->w<1->∀H',δ H H'->E (.ref T.BadWish) none H')
abbrev nU:Stmt:=top 57
theorem Hj:ζ ["web","r","wanted","number","tally"] ["web","r","wanted","number"] (aJ nU):=.of
theorem sh:ϗ (aJ nU) "Tally":=.of (by kernel_rfl)
theorem pN:ϗ (aJ nU) "NoNumber":=.of (by kernel_rfl)
theorem HB(T:Txt K mg)(hq:bU (ψ P w)){θ:Addr}{eu:FuncData}(gj:Y8 K "__init__" "Tally.__init__" eI θ eu)(nQ:Binds K eu ["self","web","r"] [])(nV:Mk K T.Tally θ)(χ:Ω P w K mg base (ψ P w) 10 θ eu ["self","web","r"] (lG T))(lP:Cb P w K mg base "check_told" kG ["web","r","wanted"] 10 (rQ T))(uA:Cb P w K mg base "laying_at" qN ["tally","held","number"] 9 (xh T))(kW:Cb P w K mg base "ways_of" pj ["tally","place","held"] 2 (sx T)):Ok P w K mg base "worst_at" nU ["web","r","wanted","number"] 12 (yS T):=λ_ _ D=>by
 refine D.F.XQ Hj (by walk_at "v") λς A outer s H vs Q E hr h=>?_;obtain⟨p,t,m,ps,rs,r,w,num,rfl,W,w2,w0,k,e,e'⟩:=h;have g:=W.go;refine⟨_,(ao (dH (ϖ lP hr dI (aa (γ 0) (aa (γ 1) (aa (γ 2) ay))))) (ao (ρ 4 (yo nV χ (hr.mono (by decide)) sh.g T.Dd nQ .nil dI (aa (γ 0) (aa (γ 1) ay)) (hdb:=sh.d))) (ao (dz (mL (zY we pJ az (γ 3) (ϖ kW hr dI (aa (γ 4) (aa (γ 1) (aa (aX fH (γ 2) az) ay)))))) (aL (oW T.ss rfl qI pN.g T.wg (aa gR ay) (hdb:=pN.d))) ce) (aL (bG (ϖ uA hr dI (aa (γ 4) (aa (aX fH (γ 2) az) (aa (γ 3) ay))))))))),?_⟩;walk_at "s";walk_at "";refine⟨p,t,m,ps,rs,r,w,rfl,W,w2,w0,λr0 r1 w1=>?_,e,e'⟩;obtain⟨par,dep,R,k1,k2⟩:=k r0 r1 w1;refine⟨par,dep,R,λcb H1 s1=>?_,k2⟩;dsimp only;intro x dx hx hdx ne;have hx1:upd H1 dx (.own x) x=none:=by rw[aO ne.symm];exact hx
 have s0:δ H1 (upd (upd H1 dx (.own x)) x (.ins T.Tally dx [])):=(δ.new _ hdx).trans (δ.new _ hx1);refine⟨x,dx,p,t,m,ps,rs,r,rfl,ax,(W.same s1).same s0,⟨r0,r1⟩,par,dep,R,λtl ld lw lb lk lr kl rv H2 TA kp=>⟨rfl,?_⟩⟩;have s2:δ H1 H2:=λb o e=>kp b o (s0 b o e) (bQ e hx);have s02:=s1.trans s2;obtain⟨k3,k4⟩:=k1 cb tl TA.or TA.et;obtain⟨n,rfl⟩:∃n:Nat,w=((n+1:Nat):Int):=⟨(w-1).toNat,by lia⟩;have e1:((n+1:Nat):Int)-1=(n:Int):=by lia
 have top:=QN g R r0 r1 w1;have W1:=(gA g R r0 r1).1;have nb:(n:Int)+1<=2^64:=vV W1 (by lia) (b:=2^64) (by rw[show(n:Int)+1=((n+1:Nat):Int)from rfl];lia);rw[e1,bD]at k3 k4;rw[e1];have bad:∀H',δ H H'->¬(0<=num/\num<XE m rs r par dep tl r n)->[V.str (Str.ofString "no worst laying has this number")].length<=sizeLine/\E (Value.ref T.NoNumber) none H':=λH' s' h=>⟨bN (by simp),k4 h H' s'⟩;by_cases c0:0<=num
 .rw[aj c0];obtain⟨_,lp,ϩ,h1,h2,h3,h4⟩:=TA.ϕ r ⟨r0,r1⟩;obtain⟨sr,es⟩:=wa (kd m rs r par r);rw[es]at h4;obtain⟨dx2,ob⟩:=TA.ob;have wst:=qy (fr:=Bv m rs r par dep tl) (be:=XD m rs r par dep tl) (c:=cK rs par) g R r0 r1;cases h4 with
  | cons e he=>
    obtain⟨cs,c1,c2⟩:=e;have c3:=c2.le (b':=15000) (tR (by have:=jQ g R r0 r1;have:=pK g R r0 r1;have:=g.Ζ;lia));have cl:=c3.len;refine⟨x,dx2,lr,lp,_,_,rv,_,r,cs,n,rfl,ob,oA _ _ _ _ _ _,TA.hr,r0,h1,h3,c1,by lia,gP (k:=64) (by lia) (by decide),λc hc=>gP (c3.bt c hc) (by decide),λj hj=>Ci (x:=64) (by lia) (by lia),λH3 s3=>?_⟩;have ew:ϊ cs n 0=XE m rs r par dep tl r n:=by
     rw[c3.val];unfold XE;rw[wst]
    rw[ew];refine⟨_,rfl,?_⟩;by_cases c1:num<XE m rs r par dep tl r n
    .rw[ag (by lia)];refine⟨x,p,t,m,ps,rs,r,par,dep,tl,ld,lw,lb,lk,lr,kl,rv,num,n,λu h _=>υ m rs r par dep u*((h:Int)+1)<=2^64,rfl,TA.same s3,⟨r0,r1⟩,(show υ m rs r par dep r*((n+1:Nat):Int)<=2^64 by lia),λv h _ v0 v1 hw=>⟨vV (gA g R v0 v1).1 (by lia) hw,_,⟨aA _,λx hx=>(by cases hx)⟩,VM g R TA.or v0 v1 hw,λleft nu acc hI=>hI.2⟩,λl xs H4 _ _ nl s4 _=>k3 ⟨c0,c1⟩ l H4 (s02.free (s3.free nl)) (s02.trans (s3.trans s4))⟩
    .rw[aj c1];exact bad _ (s02.trans s3) λz=>c1 z.2
 .rw[ag c0];exact bad _ s02 λz=>c0 z.1
def rH(T:Txt K mg):Sp:=λvs H Q E=>E7 λ(p t:Addr)(m:Int)(ps:List Addr)(rs:List Road)(r w:Int)=>vs=[.ref p,.int r,.int w]/\ν T.Web H p m t ps rs/\w<=10^60/\(0<=r->r<m->1<=w->∃par dep,ε m rs r par dep/\∀tl H',Order m r par tl->cW m rs r par dep r=r::tl->δ H H'->Q (.int (XE m rs r par dep tl r (w-1).toNat)) H')/\(¬(0<=r/\r<m)->∀H',δ H H'->E (.ref T.NoPlace) none H')/\(0<=r->r<m->w<1->∀H',δ H H'->E (.ref T.BadWish) none H')
abbrev lQ:Stmt:=top 56
theorem D7:ζ ["web","r","wanted"] ["web","r","wanted"] (aJ lQ):=.of
theorem qd:ϗ (aJ lQ) "Tally":=.of (by kernel_rfl)
theorem D0(T:Txt K mg)(hq:bU (ψ P w)){θ:Addr}{eu:FuncData}(gj:Y8 K "__init__" "Tally.__init__" eI θ eu)(nQ:Binds K eu ["self","web","r"] [])(nV:Mk K T.Tally θ)(χ:Ω P w K mg base (ψ P w) 10 θ eu ["self","web","r"] (lG T))(kt:Cb P w K mg base "check_wanted" ku ["web","r","wanted"] 3 (pV T))(kW:Cb P w K mg base "ways_of" pj ["tally","place","held"] 2 (sx T)):Ok P w K mg base "worst_many" lQ ["web","r","wanted"] 12 (rH T):=λ_ _ D=>by
 refine D.F.XQ D7 (by walk_at "v") λς A outer s H vs Q E hr h=>?_;obtain⟨p,t,m,ps,rs,r,w,rfl,W,w2,k0,e,e'⟩:=h;have g:=W.go;refine⟨_,(ao (dH (ϖ kt hr dI (aa (γ 0) (aa (γ 1) (aa (γ 2) ay))))) (aL (bG (ϖ kW hr dI (aa (yo nV χ (hr.mono (by decide)) qd.g T.Dd nQ .nil dI (aa (γ 0) (aa (γ 1) ay)) (hdb:=qd.d)) (aa (γ 1) (aa (aX fH (γ 2) az) ay))))))),?_⟩;walk_at "s";walk_at "";refine⟨p,t,m,ps,rs,r,w,rfl,W,λr0 r1 w1=>?_,λz=>e z _ (δ.refl _),λa b z=>e' a b z _ (δ.refl _)⟩;obtain⟨par,dep,R,k⟩:=k0 r0 r1 w1;have rr:=And.intro r0 r1;obtain⟨n,rfl⟩:∃n:Nat,w=((n+1:Nat):Int):=⟨(w-1).toNat,by lia⟩;have nb:n+1<=2^4000:=by
  have:(10:Nat)^60<=2^4000:=by decide +kernel
  have:((10^60:Nat):Int)=10^60:=rfl
  lia
 intro x dx hx hdx ne;have hx1:upd H dx (.own x) x=none:=by rw[aO ne.symm];exact hx
 have s0:δ H (upd (upd H dx (.own x)) x (.ins T.Tally dx [])):=(δ.new _ hdx).trans (δ.new _ hx1);refine⟨x,dx,p,t,m,ps,rs,r,rfl,ax,W.same s0,rr,par,dep,R,λtl ld lw lb lk lr kl rv H2 TA kp=>⟨rfl,?_⟩⟩;have s2:δ H H2:=λb o e=>kp b o (s0 b o e) (bQ e hx);obtain⟨_,lp,ϩ,h1,h2,h3,h4⟩:=TA.ϕ r rr;obtain⟨sr,es⟩:=wa (kd m rs r par r);rw[es]at h4;obtain⟨dx2,ob⟩:=TA.ob;have wst:=qy (fr:=Bv m rs r par dep tl) (be:=XD m rs r par dep tl) (c:=cK rs par) g R rr.1 rr.2;have e1:((n+1:Nat):Int)-1=(n:Int):=by lia
 have e4:(2:Nat)^4000<=2^4000:=aA _;cases h4 with
 | cons e he=>
   obtain⟨cs,c1,c2⟩:=e;have c3:=c2.le (b':=15000) (tR (by have:=jQ g R rr.1 rr.2;have:=pK g R rr.1 rr.2;have:=g.Ζ;lia));have cl:=c3.len;rw[e1];refine⟨x,dx2,lr,lp,_,_,rv,_,r,cs,n,rfl,ob,oA _ _ _ _ _ _,TA.hr,rr.1,h1,h3,c1,by lia,gP (k:=4000) (by lia) (by decide),λc hc=>gP (c3.bt c hc) (by decide),λj hj=>Ci (x:=4000) nb (by lia),λH3 s3=>?_⟩;rw[c3.val];have:=k tl H3 TA.or TA.et (s2.trans s3);rw[e1,bD]at this;unfold XE at this;rw[wst]at this;exact this
theorem Qy{m:Int}{rs:List Road}{r:Int}{par:Int->Int}{dep:Int->Nat}(g:Good m rs)(R:ε m rs r par dep)(k:Int)(k0:0<=k)(k1:k<m)(kr:k≠r):1<=cK rs par k/\cK rs par k<=1000000:=by
 have:=jX g R k0 k1 kr;unfold cK
 lia
def rZ(T:Txt K mg):Sp:=λvs H Q _=>E22 λ(o p t:Addr)(m:Int)(ps:List Addr)(rs:List Road)(r:Int)(par:Int->Int)(dep:Int->Nat)(tl:List Int)(ld lw lb lk lr:Addr)(kl:List Addr)(rv:List V)(v:Int)(lh ln:Addr)(hs ns:List Int)=>vs=[.ref o,.int v,.ref lh,.ref ln]/\ϓ T.Web T.Tally H o p t m ps rs r par dep tl ld lw lb lk lr kl rv (λv=>0<=v/\v<m)/\(0<=v/\v<m)/\H lh=some (.lst (hs.map V.int))/\H ln=some (.lst (ns.map V.int))/\(hs.length:Int)=m/\(ns.length:Int)=m/\(∀u,0<=u->u<m->0<=hs.getD u.toNat 0)/\hs.getD v.toNat 0+1<=2^45/\((kd m rs r par v).map λk=>hs.getD k.toNat 0/tup rs par k).sum<=hs.getD v.toNat 0/\(∀u,0<=u->u<m->(ns.getD u.toNat 0).natAbs<=2^(50000+600*oR m rs r par dep u))/\∀(x:Int)(H':Hp),x.natAbs<=2^(50000+600*oR m rs r par dep v)->δ H H'->Q (.int x) H'
abbrev gY:Stmt:=top 73
theorem lI:ζ ["tally","place","held","numbers","number","left","at","kid","given"] ["tally","place","held","numbers"] (aJ gY):=.of
theorem nK:Zt (aJ gY) "number":=.of (by kernel_rfl)
theorem uM:Zt (aJ gY) "left":=.of (by kernel_rfl)
theorem rf:ϗ (aJ gY) "enumerate":=.of (by kernel_rfl)
theorem yA(T:Txt K mg)(hq:bU (ψ P w))(kD:Cb P w K mg base "toll" qc ["web","a","b"] 3 (sN T))(dy:Cb P w K mg base "value_at" gX ["found","at"] 1 (ko T))(kP:Cb P w K mg base "ways_before" mF ["tally","place","at","left","given"] 7 (qf T)):Ok P w K mg base "number_beneath" gY ["tally","place","held","numbers"] 8 (rZ T):=λ_ _ D=>by
 refine D.F.ϔ lI (by walk_at "v") λς A outer s H vs Q E hr h=>?_;obtain⟨o,p,t,m,ps,rs,r,par,dep,tl,ld,lw,lb,lk,lr,kl,rv,v,lh,ln,hs,ns,rfl,TA,vm,eh,en,hl,nl,h0,hv,akm,nb,q⟩:=h;have hu:=oS hr;have g:=TA.web.go;have R:=TA.rt;have k24:(kd m rs r par v).length<=24:=zB g;refine⟨_,(ao (ρ 4 az) (ao (ρ 5 (Δ bB (γ 2) (γ 1))) (ao (eZ PassesOwn.never rfl (xY true rf.g T.enumerate (Δ bB (dB (γ 0) rfl) (γ 1))) (jo (n:=2) rfl (bW (Φ 6) (bW (Φ 7) gK))) (ao (ρ 8 (aX eG (Δ bB (γ 2) (γ 7)) (Θ kD hr hq (aa (dB (γ 0) rfl) (aa (γ 7) (aa (γ 1) ay)))))) (ao (tj (i:=4) lI.nd rfl (Or.inl nK.l) (Θ kP hr hq (aa (γ 0) (aa (γ 1) (aa (γ 6) (aa (γ 5) (aa (γ 8) ay)))))) xQ) (ao (tj (i:=5) lI.nd rfl (Or.inl uM.l) (γ 8) Gk) (aL (tj (i:=4) lI.nd rfl (Or.inl nK.l) (aX mR (Δ bB (γ 3) (γ 7)) (Θ dy hr hq (aa (Δ bB (iL bB (dB (γ 0) rfl) (γ 1) (λ_ _=>rfl)) (aX dN (γ 6) az)) (aa (γ 5) ay)))) xQ)))))) (aL (bG (γ 4)))))),?_⟩;walk_at "s";refine cN λN1 h1=>?_;walk_at "";refine h1 _ _ (cN λN2 h2=>?_);walk_at "";refine Ε eh (lE vm.1 (by lia)) (h2 _ _ (cN λN3 h3=>?_));walk_at "";obtain⟨dx,ob⟩:=TA.ob;have evr:(cR m.toNat)[v.toNat]?=some v:=by rw[fZ (by lia),bH vm.1]
 obtain⟨ϵ,Yk,Rw⟩:=tL TA.kp evr;refine⟨T.Tally,dx,_,ob,T.cQ,T.rC,_,p7 _ _ _ _ _ _,Ε TA.hk (cq vm.1 (by rw[aF,Yk];rfl)) ⟨ϵ,rfl,⟨_,μ.of Rw⟩,?_⟩⟩;refine zK (K:=K) (c:=true) (xs:=(kd m rs r par v).map V.int) (λi σ H2=>δ H H2/\E5 λ(nu left:Int)(v6 v7 v8:Option V)=>left=hs.getD v.toNat 0-(((kd m rs r par v).take i).map λk=>hs.getD k.toNat 0/tup rs par k).sum/\nu.natAbs<=i*2^(50000+600*oR m rs r par dep v-590)/\σ=[some (V.ref o),some (V.int v),some (V.ref lh),some (V.ref ln),some (V.int nu),some (V.int left),v6,v7,v8]) ⟨δ.refl _,0,_,_,_,_,(Int.sub_zero _).symm,bz _,rfl⟩ (λi σ H2 y=>μ.of (y.1 _ _ Rw)) ?_ ?_
 .rintro i x σ H2 q' N hN hx ⟨s2,nu,left,v6,v7,v8,el,nn,rfl⟩ nq;obtain⟨k,hk,rfl⟩:=List.ι hx;have il:=(aq.mp hk).1;have s3:=s2.trans (δ.new (HO.tup [V.int (i:Int),V.int k]) nq);have eq3:upd H2 q' (HO.tup [V.int (i:Int),V.int k]) q'=some (.tup [V.int (i:Int),V.int k]):=ax;walk_at "";refine⟨_,Η.of eq3,rfl,_,_,rfl,_,_,rfl,rfl,?_⟩;generalize upd H2 q' (HO.tup [V.int (i:Int),V.int k])=H3 at s3 ⊢;have TA3:=TA.same s3;obtain⟨dx3,ob3⟩:=TA3.ob;obtain⟨abE,lp,Z1,By,BV,cs,csk,C,c1,c2⟩:=TA3.co vm hk;obtain⟨k1,k2,k3⟩:=(bO g R vm.1 vm.2).mp (aM hk);have et:tup rs par k=(cK rs par k:Int):=by
   unfold tup;rw[k3,C.tl]
   rfl
  have c2l:=C.c2.1;have c2r:=C.c2.2;have ts:=Ak (f:=λk=>hs.getD k.toNat 0/tup rs par k) hk;have f0:∀u∈kd m rs r par v,0<=hs.getD u.toNat 0/tup rs par u:=λu h=>by
   obtain⟨u1,u2,u3⟩:=(bO g R vm.1 vm.2).mp h;exact lU (h0 u u1.1 u1.2) (by have:=(jX g R u1.1 u1.2 u2).1;lia)
  have tot:(((kd m rs r par v).take (i+1)).map λk=>hs.getD k.toNat 0/tup rs par k).sum<=hs.getD v.toNat 0:=by
   refine bE ?_ akm;have e:((kd m rs r par v).map λk=>hs.getD k.toNat 0/tup rs par k).sum=(((kd m rs r par v).take (i+1)).map λk=>hs.getD k.toNat 0/tup rs par k).sum+(((kd m rs r par v).drop (i+1)).map λk=>hs.getD k.toNat 0/tup rs par k).sum:=(by rw[<-eE,<-aD,b8]);have:=Ij (f:=λk=>hs.getD k.toNat 0/tup rs par k) (l:=(kd m rs r par v).drop (i+1)) λu h=>f0 u (cI h)
   lia
  have t0:=Ij (f:=λk=>hs.getD k.toNat 0/tup rs par k) (l:=(kd m rs r par v).take i) λu h=>f0 u (gJ h);have fk:=f0 k (aM hk);refine Ε (s3 _ _ eh) (lE k1.1 (by lia)) ⟨T.Tally,dx3,_,ob3,T.cQ,T.As,_,o9 _ _ _ _ _ _,p,t,m,ps,rs,k,v,rfl,TA3.web,λc' _ _ _ _ ZE=>?_,λno=>absurd ⟨k1,vm⟩ no,λ_ _ _ _ ZE=>absurd (C.tl.symm.trans ZE) (by intro z;cases z)⟩;have:c'=(cK rs par k:Int):=bq (ZE.symm.trans C.tl);subst this;refine⟨_,rfl,_,rfl,⟨by lia,by lia⟩,?_⟩;rw[<-et];generalize hg:hs.getD k.toNat 0/tup rs par k=gz at ts fk ⊢;obtain⟨gg,rfl⟩:∃gg:Nat,gz=gg:=⟨gz.toNat,by lia⟩;generalize hw:(((kd m rs r par v).take i).map λk=>hs.getD k.toNat 0/tup rs par k).sum=S0 at ts el t0;rw[ts]at tot;obtain⟨lf,elf⟩:∃lf:Nat,left-(gg:Int)=lf:=⟨(left-gg).toNat,by lia⟩;refine⟨o,p,t,lk,abE,lr,lp,Z1,By,BV,m,ps,rs,v,k,left,cK rs par k,i,cs,csk,_,_,gg,rfl,C,by lia,by lia,by lia,by lia,λH5 s5=>⟨_,rfl,?_⟩⟩;have s35:=s3.trans s5;have C5:=C.same s5;obtain⟨dx5,fs5,ho5,fw5,fk5,fr5⟩:=C5.ob;obtain⟨rv5,lv5,pv5,r1,r2,r3,r4,r5,r6⟩:=C5.re;have gl:Ϣ lv5 ((i:Int)+1)=some (.ref Z1):=cq (by lia) (by rw[show((i:Int)+1).toNat=i+1 by lia];exact r4);refine Ε (s35 _ _ en) (lE k1.1 (by lia)) ⟨T.Tally,dx5,fs5,ho5,T.cQ,T.ϫ,_,fr5,Ε r1 (cq vm.1 r2) ⟨_,rfl,Ε r3 gl ?_⟩⟩;rw[elf];have cl1:=C.cl.1;refine⟨Z1,cs,(lf:Int),rfl,μ.of C5.ed,by lia,by lia,gP (k:=65) (by lia) (by decide),Aw C.cb.1,λj hj=>u6 (by lia) (by lia) (by lia),λH6 s6=>?_⟩;rw[yc,c1.val];have wk:=RD (m:=m.toNat) (cs:=cs) (csk:=csk) (c:=cK rs par k) (z:=left) (g:=gg) (by have:=g.Ζ;lia) (by lia) (by lia) (by lia) c2r cl1 C.cl.2 C.cb.1 C.cb.2;have wo:=(CO (fr:=Bv m rs r par dep tl) (be:=XD m rs r par dep tl) (W:=XE m rs r par dep tl) (c:=cK rs par) (d:=oR m rs r par dep) (ks:=(kd m rs r par v).drop (i+1)) (λu h=>by
   obtain⟨u1,u2,u3⟩:=(bO g R vm.1 vm.2).mp (cI h);exact KZ g R (Qy g R) _ u1.1 u1.2 (aA _)) λu h=>by
   obtain⟨u1,u2,u3⟩:=(bO g R vm.1 vm.2).mp (cI h);exact Qy g R u u1.1 u1.2 u2).2 45 lf (by lia)
  have d1:=vY (λk=>oR m rs r par dep k+1) (kd m rs r par v) i;have il':(kd m rs r par v)[i]=k:=bq ((ap il).symm.trans hk);rw[jQ g R vm.1 vm.2,eO il,il',aH,aZ]at d1;have dl:=pK g R vm.1 vm.2;have Ζ:=g.Ζ;obtain⟨mo,fin⟩:=RM (b:=if Bv m rs r par dep tl k=true then ϊ (Ϫ (ϴ m.toNat (rW cs csk (cK rs par k) left))) gg 0 else 0) nn (by
   split
   .exact wk
   .exact bz _) (nb k k1.1 k1.2) wo d1 (by lia)
  exact⟨_,rfl,_,rfl,mo,hN _ _ ⟨s35.trans s6,_,_,_,_,_,by lia,fin,rfl⟩⟩
 .rintro σ H2 ⟨s2,nu,left,v6,v7,v8,el,nn,rfl⟩;rw[ah]at nn;refine h3 _ _ ?_;walk_at "";refine q nu H2 (aU nn (aU (dY _ (show _<=2^5 by lia)) ?_)) s2;rw[<-eF];exact bF (by decide) (by lia)
def xp(T:Txt K mg):Sp:=λvs H Q _=>E19 λ(o p t:Addr)(m:Int)(ps:List Addr)(rs:List Road)(r:Int)(par:Int->Int)(dep:Int->Nat)(tl:List Int)(ld lw lb lk lr:Addr)(kl:List Addr)(rv:List V)(lh:Addr)(hs:List Int)=>vs=[.ref o,.ref lh]/\ϓ T.Web T.Tally H o p t m ps rs r par dep tl ld lw lb lk lr kl rv (λv=>0<=v/\v<m)/\(0<=r/\r<m)/\H lh=some (.lst (hs.map V.int))/\(hs.length:Int)=m/\(∀u,0<=u->u<m->0<=hs.getD u.toNat 0/\hs.getD u.toNat 0+1<=2^45/\((kd m rs r par u).map λk=>hs.getD k.toNat 0/tup rs par k).sum<=hs.getD u.toNat 0)/\∀(x:Int)(H':Hp),δ H H'->Q (.int x) H'
abbrev oH:Stmt:=top 72
theorem GD:ζ ["tally","held","numbers","place"] ["tally","held"] (aJ oH):=.of
theorem uV:ϗ (aJ oH) "reversed":=.of (by kernel_rfl)
theorem GA(T:Txt K mg)(hq:bU (ψ P w))(oU:Cb P w K mg base "number_beneath" gY ["tally","place","held","numbers"] 8 (rZ T)):Ok P w K mg base "number_of" oH ["tally","held"] 9 (xp T):=λ_ _ D=>by
 refine D.F.ϔ GD (by walk_at "v") λς A outer s H vs Q E hr h=>?_;obtain⟨o,p,t,m,ps,rs,r,par,dep,tl,ld,lw,lb,lk,lr,kl,rv,lh,hs,rfl,TA,rm,eh,hl,hh,q⟩:=h;have hu:=oS hr;have g:=TA.web.go;have R:=TA.rt;have m1:=g.m1;have Ζ:=g.Ζ;refine⟨_,(ao (ρ 2 (aX pR (eC (aa az ay)) (dB (dB (γ 0) rfl) rfl))) (ao (eZ PassesOwn.never rfl (tG uV.g T.reversed (dB (γ 0) rfl)) (Φ 3) (aL (jW (Θ oU hr hq (aa (γ 0) (aa (γ 3) (aa (γ 1) (aa (γ 2) ay))))) (mK (γ 2) (γ 3) iW)))) (aL (bG (Δ bB (γ 2) (iL bB (dB (γ 0) rfl) az (λ_ _=>rfl))))))),?_⟩;walk_at "s";refine cN λN1 h1=>?_;walk_at "";obtain⟨dx,ob⟩:=TA.ob;obtain⟨dw,wb⟩:=TA.web.ob;refine⟨bN (by simp),λp0 np0=>?_⟩;have s0:=δ.new (HO.lst [V.int 0]) np0;have e0:upd H p0 (HO.lst [V.int 0]) p0=some (.lst [V.int 0]):=ax;generalize upd H p0 (HO.lst [V.int 0])=H0 at s0 e0 ⊢;refine⟨T.Tally,dx,_,s0 _ _ ob,T.cQ,T.As,_,o9 _ _ _ _ _ _,p,rfl,T.Web,dw,_,s0 _ _ wb,T.kQ,T.ϒ,_,j7 _ _,p0,m,_,rfl,rfl,e0,by lia,by lia,bN (by show 1*m.toNat<=100000;lia),λlc nlc=>h1 _ _ (cN λN2 h2=>?_)⟩;rw[Av,<-gb];have s1:=s0.trans (δ.new (HO.lst ((List.replicate m.toNat (0:Int)).map V.int)) nlc);have e1:upd H0 lc (HO.lst ((List.replicate m.toNat (0:Int)).map V.int)) lc=some (.lst ((List.replicate m.toNat (0:Int)).map V.int)):=ax;have ado:=s0.free nlc;generalize upd H0 lc (HO.lst ((List.replicate m.toNat (0:Int)).map V.int))=H1 at s1 e1 ⊢;walk_at "";refine⟨T.Tally,dx,_,s1 _ _ ob,T.cQ,T.vo,_,pW _ _ _ _ _ _,?_⟩;refine⟨ld,rfl,_,μ.of (s1 _ _ TA.hd),?_⟩;have pr:∀u∈cW m rs r par dep r,0<=u/\u<m:=λu hu=>by
  rw[TA.et]at hu;rcases ar.mp hu with rfl|y
  .exact rm
  .exact TA.or.Μ u y
 refine qD (K:=K) (xs:=(cW m rs r par dep r).map V.int) (λi σ H5=>δ H H5/\∃(ns:List Int)(v3:Option V),H5 lc=some (.lst (ns.map V.int))/\(ns.length:Int)=m/\(∀u,0<=u->u<m->(ns.getD u.toNat 0).natAbs<=2^(50000+600*oR m rs r par dep u))/\σ=[some (V.ref o),some (V.ref lh),some (V.ref lc),v3]) ⟨s1,_,none,e1,by rw[bT];lia,λu _ _=>?_,rfl⟩ (λi σ H5 _ z=>μ.of (z.1 _ _ TA.hd)) ?_ ?_
 .rw[cf,d7];split<;>exact bz _
 .rintro i x σ H5 N hN hx ⟨s5,ns,v3,e5,nl,nb,rfl⟩;rw[<-eV]at hx;obtain⟨v,hv,rfl⟩:=List.ι hx;have vm:=pr v (eT.mp (aM hv));walk_at "";refine⟨o,p,t,m,ps,rs,r,par,dep,tl,ld,lw,lb,lk,lr,kl,rv,v,lh,lc,hs,ns,rfl,TA.same s5,vm,s5 _ _ eh,e5,hl,nl,λu u0 u1=>(hh u u0 u1).1,(hh v vm.1 vm.2).2.1,(hh v vm.1 vm.2).2.2,nb,λx H6 xb s6=>?_⟩;refine rX (s6 _ _ e5) vm.1 (by rw[ah];lia) (hN _ _ ⟨(s5.trans s6).put ado _,ns.set v.toNat x,_,by rw[ax,<-d9],by rw[cP];exact nl,λu u0 u1=>?_,rfl⟩);rw[o0 _ _ _ _ (by lia)];by_cases c:u=v
  .rw[c,aj rfl];exact xb
  .rw[ag (by lia)];exact nb u u0 u1
 .rintro σ H5 ⟨s5,ns,v3,e5,nl,nb,rfl⟩;refine h2 _ _ ?_;walk_at "";have gd:Ϣ ((cW m rs r par dep r).map V.int) 0=some (V.int r):=by
   rw[TA.et];exact cq (bA 0) rfl
  exact⟨T.Tally,dx,_,s5 _ _ ob,T.cQ,T.vo,_,pW _ _ _ _ _ _,Ε (s5 _ _ TA.hd) gd (Ε e5 (lE rm.1 (by lia)) (q _ H5 s5))⟩
def tZ(T:Txt K mg):Sp:=λvs H Q E=>E10 λ(p a t:Addr)(c:Bool)(m:Int)(ps:List Addr)(rs:List Road)(xs:List Int)(r w:Int)=>vs=[.ref p,.int r,.int w,.ref a]/\ν T.Web H p m t ps rs/\ϧ K c H a (xs.map V.int)/\xs.length<=1000/\w<=10^60/\-(10^60)<=w/\(0<=r->r<m->1<=w->∃par dep,ε m rs r par dep/\(1000000000000<ϱ m rs r par (cM m rs r par dep) w+1->∀H',δ H H'->E (.ref T.TooMany) none H')/\(ϱ m rs r par (cM m rs r par dep) w+1<=1000000000000->(dZ m xs=false->∀H',δ H H'->E (.ref T.BadLaying) none H')/\(dZ m xs=true->((xs.sum=ϱ m rs r par (cM m rs r par dep) w/\Ϛ m rs r par dep (λv=>xs.getD v.toNat 0) (Ϗ rs par) r<w)->∀(x:Int)(H':Hp),δ H H'->Q (.int x) H')/\(¬(xs.sum=ϱ m rs r par (cM m rs r par dep) w/\Ϛ m rs r par dep (λv=>xs.getD v.toNat 0) (Ϗ rs par) r<w)->∀H',δ H H'->E (.ref T.NoNumber) none H'))))/\(¬(0<=r/\r<m)->∀H',δ H H'->E (.ref T.NoPlace) none H')/\(0<=r->r<m->w<1->∀H',δ H H'->E (.ref T.BadWish) none H')
abbrev kz:Stmt:=top 58
theorem AV:ζ ["web","r","wanted","laying"] ["web","r","wanted","laying"] (aJ kz):=.of
theorem nG:ϗ (aJ kz) "NoNumber":=.of (by kernel_rfl)
theorem py:ϗ (aJ kz) "Tally":=.of (by kernel_rfl)
theorem BD(T:Txt K mg)(hq:bU (ψ P w)){θ:Addr}{eu:FuncData}(gj:Y8 K "__init__" "Tally.__init__" eI θ eu)(nQ:Binds K eu ["self","web","r"] [])(nV:Mk K T.Tally θ)(χ:Ω P w K mg base (ψ P w) 10 θ eu ["self","web","r"] (lG T))(lP:Cb P w K mg base "check_told" kG ["web","r","wanted"] 10 (rQ T))(om:Cb P w K mg base "gathered" pG ["web","laying","r"] 8 (uz T))(nX:Cb P w K mg base "is_worst" pU ["web","r","wanted","laying"] 10 (uF T))(uL:Cb P w K mg base "number_of" oH ["tally","held"] 9 (xp T)):Ok P w K mg base "worst_number" kz ["web","r","wanted","laying"] 12 (tZ T):=λ_ _ D=>by
 refine D.F.XQ AV (by walk_at "v") λς A outer s H vs Q E hr h=>?_;obtain⟨p,a,t,c,m,ps,rs,xs,r,w,rfl,W,ha,hl,w2,w0,k,e,e'⟩:=h;have g:=W.go;refine⟨_,(ao (dH (ϖ lP hr dI (aa (γ 0) (aa (γ 1) (aa (γ 2) ay))))) (ao (dz (mL (nB (ϖ nX hr dI (aa (γ 0) (aa (γ 1) (aa (γ 2) (aa (γ 3) ay))))))) (aL (oW T.ss rfl qI nG.g T.wg (aa gR ay) (hdb:=nG.d))) ce) (aL (bG (ϖ uL hr dI (aa (yo nV χ (hr.mono (by decide)) py.g T.Dd nQ .nil dI (aa (γ 0) (aa (γ 1) ay)) (hdb:=py.d)) (aa (ϖ om hr dI (aa (γ 0) (aa (γ 3) (aa (γ 1) ay)))) ay))))))),?_⟩;walk_at "s";walk_at "";refine⟨p,t,m,ps,rs,r,w,rfl,W,w2,w0,λr0 r1 w1=>?_,e,e'⟩;obtain⟨par,dep,R,k2,k1⟩:=k r0 r1 w1;refine⟨par,dep,R,λcb H1 s1=>?_,k2⟩;obtain⟨k3,k4⟩:=k1 cb;refine⟨p,a,t,c,m,ps,rs,xs,r,w,rfl,W.same s1,δ.X1 s1 ha,hl,w2,w0,λ_ _ _=>⟨par,dep,R,λfi H2 s2=>⟨_,rfl,?_⟩,λfi H2 s2=>k3 fi H2 (s1.trans s2)⟩,λz=>absurd ⟨r0,r1⟩ z,λ_ _ z=>absurd z (by lia)⟩;obtain⟨k5,k6⟩:=k4 fi;have s02:=s1.trans s2;by_cases c1:xs.sum=ϱ m rs r par (cM m rs r par dep) w/\Ϛ m rs r par dep (λv=>xs.getD v.toNat 0) (Ϗ rs par) r<w
 .rw[bg c1.1,bg c1.2,ag (by decide)];intro x dx hx hdx ne;have hx1:upd H2 dx (.own x) x=none:=by rw[aO ne.symm];exact hx
  have s0:δ H2 (upd (upd H2 dx (.own x)) x (.ins T.Tally dx [])):=(δ.new _ hdx).trans (δ.new _ hx1);refine⟨x,dx,p,t,m,ps,rs,r,rfl,ax,(W.same s02).same s0,⟨r0,r1⟩,par,dep,R,λtl ld lw lb lk lr kl rv H3 TA kp=>⟨rfl,?_⟩⟩;have s3:δ H2 H3:=λb o e=>kp b o (s0 b o e) (bQ e hx);have s03:=s02.trans s3;have x0:=Dw fi;refine⟨p,a,t,c,m,ps,rs,xs,r,rfl,W.same s03,δ.X1 s03 ha,hl,λ_ _ _=>⟨par,dep,R,λl H4 nl s4 el=>?_⟩,(λz=>by rw[fi]at z;cases z),λ_ z=>absurd ⟨r0,r1⟩ z⟩;have abx:((uD m rs r par dep (λv=>xs.getD v.toNat 0) (Ϗ rs par)).length:Int)=m:=by
   have:=g.m1;unfold uD;rw[ah,da]
   lia
  have hB:∀v:Int,0<=xs.getD v.toNat 0/\xs.getD v.toNat 0<=1000000000000:=λv=>by
   rw[List.getD];cases e:xs[v.toNat]? with
   | none=>exact⟨bA _,(by decide:(0:Int)<=1000000000000)⟩
   | some y=>
     have h1:=x0 y (aM e);have h2:=CV x0 (aM e);exact⟨h1,show y<=_ by lia⟩
  refine⟨x,p,t,m,ps,rs,r,par,dep,tl,ld,lw,lb,lk,lr,kl,rv,l,_,rfl,TA.same s4,⟨r0,r1⟩,el,abx,λu u0 u1=>?_,λy H5 s5=>k5 c1 y H5 (s03.trans (s4.trans s5))⟩;have d:=pK g R u0 u1;have Ζ:=g.Ζ;have cap:=IP g R hB _ u rfl u0 u1;rw[zk u0 u1];refine⟨FQ g (λv=>(hB v).1) u,by lia,?_⟩;rw[qC g R u0 u1];have h1:=(hB u).1;have e:((kd m rs r par u).map λk=>(uD m rs r par dep (λv=>xs.getD v.toNat 0) (Ϗ rs par)).getD k.toNat 0/tup rs par k).sum=((bP m rs (front r par u) u).map λc=>Ϗ rs par c (Ϛ m rs r par dep (λv=>xs.getD v.toNat 0) (Ϗ rs par) c)).sum:=qr λk hk=>by
   obtain⟨k1,_,_⟩:=(bO g R u0 u1).mp hk;rw[zk k1.1 k1.2]
   rfl
  rw[e]
  lia
 .rw[show(decide (xs.sum=ϱ m rs r par (cM m rs r par dep) w)&&decide (Ϛ m rs r par dep (λv=>xs.getD v.toNat 0) (Ϗ rs par) r<w))=false by
   rw[<-Bool.decide_and];exact aQ c1]
  exact⟨bN (by simp),k6 c1 _ s02⟩
theorem Vq{tb:(St->XK)->TS}{th:TH}{D:Ends}{σ:St}{H:Hp}(h:∀N:St->XK,(∀σ c o H',th D σ c o H'->N σ c o H')->tb N D σ H):OC tb th D σ H:=h _ λ_ _ _ _ z=>z
theorem qj{K:PySem.W.Frag}{C C' Tl:Addr}(xe:Ο K Tl C)(x':Ο K Tl C')(ne:C'≠Tl)(n:C'≠C):KM K C (.ref C') false:=by
 refine⟨x'.x,?_⟩;rw[xe.mr,aQ ne,m3,aQ n]
def vx(T:Txt K mg):Sp:=λvs H Q E=>E15 λ(p b q t:Addr)(m:Int)(ps:List Addr)(rs:List Road)(xs:List Int)(pick r w num need count:Int)(good:Bool)=>vs=[.int pick,.ref p,.ref q]/\ν T.Web H p m t ps rs/\H q=some (.tup [.int r,.int w,.ref b,.int num])/\H b=some (.lst (xs.map V.int))/\xs.length<=1000/\w<=10^60/\-(10^60)<=w/\(0<=pick/\pick<=3)/\(0<=r->r<m->1<=w->∃par dep,ε m rs r par dep/\need=ϱ m rs r par (cM m rs r par dep) w+1/\(∀tl,Order m r par tl->cW m rs r par dep r=r::tl->count=XE m rs r par dep tl r (w-1).toNat)/\(dZ m xs=true->(good=true↔xs.sum=ϱ m rs r par (cM m rs r par dep) w/\Ϛ m rs r par dep (λv=>xs.getD v.toNat 0) (Ϗ rs par) r<w)))/\∀H',δ H H'->Q (.str (du7 pick m r w (dZ m xs) num need count good)) H'
abbrev jO:Stmt:=top 86
theorem vh:ζ ["pick","web","case","r","wanted","laying","number","told","e","kinds"] ["pick","web","case"] (aJ jO):=.of
theorem zW:Zt (aJ jO) "e":=.of (by kernel_rfl)
theorem nj:ϗ (aJ jO) "TollError":=.of (by kernel_rfl)
theorem j6:ϗ (aJ jO) "ValueError":=.of (by kernel_rfl)
theorem Cv(T:Txt K mg)(hq:bU (ψ P w))(nX:Cb P w K mg base "is_worst" pU ["web","r","wanted","laying"] 10 (uF T))(vS:Cb P w K mg base "worst_at" nU ["web","r","wanted","number"] 12 (yS T))(lV:Cb P w K mg base "worst_many" lQ ["web","r","wanted"] 12 (rH T))(qi:Cb P w K mg base "worst_number" kz ["web","r","wanted","laying"] 12 (tZ T)):Ok P w K mg base "_law_refusal" jO ["pick","web","case"] 13 (vx T):=λ_ _ D=>by
 refine D.F.ϔ vh (by walk_at "v") λς A outer s H vs Q E hr h=>?_;obtain⟨p,b,q,t,m,ps,rs,xs,pick,r,w,num,need,count,good,rfl,W,hq,hb,lx,w2,w3,pk,kk,k⟩:=h;refine⟨_,(ao (jW (γ 2) (jo (n:=4) rfl (bW (Φ 3) (bW (Φ 4) (bW (Φ 5) (bW (Φ 6) gK)))))) (ao (ρ 7 gR) (ao (Ut rfl rfl rfl (oX (Gm (ό gc (γ 0) az) (oX (vN (pyb nX hr (aa (γ 1) (aa (γ 3) (aa (γ 4) (aa (γ 5) ay))))))) (oX (Gm (ό gc (γ 0) az) (oX (vN (pyb lV hr (aa (γ 1) (aa (γ 3) (aa (γ 4) ay)))))) (oX (Gm (ό gc (γ 0) az) (oX (vN (pyb vS hr (aa (γ 1) (aa (γ 3) (aa (γ 4) (aa (γ 6) ay))))))) (oX (vN (pyb qi hr (aa (γ 1) (aa (γ 3) (aa (γ 4) (aa (γ 5) ay))))))))))))) (VI (i:=8) T.uG.x nj.g T.Hr vh.nd rfl zW.l (λ_=>(ao (ρ 9 (eC (aa (dO (pA K rfl) T.isinstance (aa (γ 8) (aa (pgl T.Dy) ay))) (aa (dO (pA K rfl) T.isinstance (aa (γ 8) (aa (pgl T.DN) ay))) (aa (dO (pA K rfl) T.isinstance (aa (γ 8) (aa (pgl T.DP) ay))) (aa (dO (pA K rfl) T.isinstance (aa (γ 8) (aa (pgl T.zf) ay))) ay)))))) (ao (dH (EJ K rfl PySem.F.plainAttrs_list PySem.F.slot_list_append PySem.F.type_list_append fY (γ 9) (aa (dO (pA K rfl) T.isinstance (aa (γ 8) (aa (pgl T.wg) ay))) ay))) (ao (ρ 7 gR) (ao (dz (PW.pt (rj (ό gc (EJ K rfl PySem.F.plainAttrs_list PySem.F.slot_list_count PySem.F.type_list_count MM (γ 9) (aa vO ay)) az) (pp (nB (dO (pA K rfl) T.isinstance (aa (γ 8) (aa (QK (v:=.ty "ValueError") j6.g T.ValueError DU rfl (hn:=j6.n) (hd:=j6.d)) ay))))))) (aL (ρ 7 (iL (mE K rfl) (eC (aa gR (aa gR (aa gR (aa gR (aa gR ay)))))) (EJ K rfl PySem.F.plainAttrs_list PySem.F.slot_list_index PySem.F.type_list_index LI (γ 9) (aa vO ay)) (λ_ _=>rfl)))) ce) (aL (dz (nB (dO (JL K rfl) T.isinstance (aa (γ 8) (aa (gS (aa (pgl T.Mq) (aa (pgl T.MS) (aa (pgl T.Pw) (aa (pgl T.OL) (aa (pgl T.Fx) (aa (pgl T.Lf) ay))))))) ay)))) (aL (ρ 7 gR)) ce))))))) RS (hdb:=nj.d))) (aL (bG (γ 7)))))),?_⟩;walk_at "s";refine cN λN1 h1=>?_;walk_at "";refine⟨_,Η.of hq,rfl,_,_,rfl,_,_,rfl,_,_,rfl,_,_,rfl,rfl,h1 _ _ (cN λN2 h2=>?_)⟩;walk_at "";refine h2 _ _ (cN λN3 h3=>Vq λX hX=>?_);have hand:∀(C:Addr)(H1:Hp)(b0 b1 b2 b3 b4:Bool)(i:Nat)(wd:Str),i<5->[b0,b1,b2,b3,b4].countP id=1->[b0,b1,b2,b3,b4][i]?=some true->(∀j,j<i->[b0,b1,b2,b3,b4][j]?=some false)->(["place","wish","many","laying","number"]:List Str)[i]?=some wd->Ο K T.TollError C->decide (T.NoPlace=C)=b0->decide (T.BadWish=C)=b1->decide (T.TooMany=C)=b2->decide (T.BadLaying=C)=b3->decide (T.NoNumber=C)=b4->T.BadStep≠C->T.BadText≠C->T.BadWeb≠C->T.NoDeed≠C->T.NoRoad≠C->T.NoWorst≠C->δ H H1->du7 pick m r w (dZ m xs) num need count good=wd->X [some (V.int pick),some (V.ref p),some (V.ref q),some (V.int r),some (V.int w),some (V.ref b),some (V.int num),some (V.str (Str.ofString "none")),none,none] (.ref C) none H1:=by
  intro C H1 b0 b1 b2 b3 b4 i wd i5 hc hi hj hwd xe hb0 hb1 hb2 hb3 hb4 n1 n2 n3 n4 n5 n6 s1 ew;refine hX _ _ _ _ ?_;walk_at "";refine⟨C,rfl,true,by rw[xe.mr];simp,?_⟩;rw[aj rfl];intro ea ne;have he:upd H1 ea (Y1 ea (.ref C) none) ea=some (Y1 ea (.ref C) none):=ax;have s2:=s1.trans (δ.new (Y1 ea (.ref C) none) ne);generalize upd H1 ea (Y1 ea (.ref C) none)=H2 at he s2 ⊢;refine vC he trivial xe T.ug (Κ T.Λ 2 0) (vC he trivial xe T.uc (Κ T.Λ 5 0) (vC he trivial xe T.tV (Κ T.Λ 6 0) (vC he trivial xe T.qT (Κ T.Λ 4 0) ⟨bN (by simp),λp1 m1=>?_⟩)));rw[hb0,hb1,hb2,hb3];have e1:upd H2 p1 (.lst [V.bl b0,V.bl b1,V.bl b2,V.bl b3]) p1=some (.lst [V.bl b0,V.bl b1,V.bl b2,V.bl b3]):=ax;have s3:=δ.new (.lst [V.bl b0,V.bl b1,V.bl b2,V.bl b3]) m1;have he3:=s3 _ _ he;have p1H:=(s2.trans s3);generalize upd H2 p1 (.lst [V.bl b0,V.bl b1,V.bl b2,V.bl b3])=H3 at e1 s3 he3 p1H ⊢;refine⟨oK e1,vC he3 trivial xe T.sH (Κ T.Λ 7 0) ?_⟩;rw[hb4];have e2:upd H3 p1 (.lst ([V.bl b0,V.bl b1,V.bl b2,V.bl b3]++[V.bl b4])) p1=some (.lst ([b0,b1,b2,b3,b4].map V.bl)):=ax;have s4:δ H (upd H3 p1 (.lst ([V.bl b0,V.bl b1,V.bl b2,V.bl b3]++[V.bl b4]))):=p1H.put (s2.free m1) _;have he4:upd H3 p1 (.lst ([V.bl b0,V.bl b1,V.bl b2,V.bl b3]++[V.bl b4])) ea=some (Y1 ea (.ref C) none):=by rw[aO (hW he3 e1 (by intro z;cases z))];exact he3
  refine⟨p1,_,_,rfl,rfl,e1,bN (by simp),?_⟩;generalize upd H3 p1 (.lst ([V.bl b0,V.bl b1,V.bl b2,V.bl b3]++[V.bl b4]))=H4 at e2 s4 he4 ⊢;refine⟨oK e2,p1,_,rfl,rfl,e2,rfl,?_⟩;rw[hc,aj (show V.int ((1:Nat):Int)=V.int 1 from rfl)];refine Re he4 trivial xe ⟨_,rfl,?_⟩;rw[aj rfl];refine⟨bN (by simp),λp3 np3=>?_⟩;have s5:=δ.new (HO.lst [V.str (Str.ofString "place"),V.str (Str.ofString "wish"),V.str (Str.ofString "many"),V.str (Str.ofString "laying"),V.str (Str.ofString "number")]) np3;have e5:upd H4 p3 (HO.lst [V.str (Str.ofString "place"),V.str (Str.ofString "wish"),V.str (Str.ofString "many"),V.str (Str.ofString "laying"),V.str (Str.ofString "number")]) p3=some (.lst (([("place":Str),"wish","many","laying","number"]).map V.str)):=ax;generalize upd H4 p3 (HO.lst [V.str (Str.ofString "place"),V.str (Str.ofString "wish"),V.str (Str.ofString "many"),V.str (Str.ofString "laying"),V.str (Str.ofString "number")])=H5 at s5 e5 ⊢;refine⟨oK (s5 _ _ e2),p1,_,i,rfl,rfl,s5 _ _ e2,hi,hj,by lia,Ε e5 (cq (by lia) (by rw[bD,aF,hwd];rfl)) ⟨bN (by simp),λp4 np4=>?_⟩⟩;have s6:=δ.new (HO.tup [V.ref T.BadStep,V.ref T.BadText,V.ref T.BadWeb,V.ref T.NoDeed,V.ref T.NoRoad,V.ref T.NoWorst]) np4;refine⟨ea,_,none,p4,_,[false,false,false,false,false,false],rfl,s6 _ _ (s5 _ _ he4),trivial,xe.x,ax,.cons (qj xe T.xi (Κ T.Λ 10 0) n1) (.cons (qj xe T.xM (Κ T.Λ 11 0) n2) (.cons (qj xe T.Ad (Κ T.Λ 1 0) n3) (.cons (qj xe T.An (Κ T.Λ 9 0) n4) (.cons (qj xe T.zq (Κ T.Λ 3 0) n5) (.cons (qj xe T.xA (Κ T.Λ 8 0) n6) .nil))))),_,rfl,?_⟩;rw[ag (by decide)];refine h3 _ _ ?_;walk_at "";exact ew▸k _ (s4.trans (s5.trans s6))
 have ads:=λH1=>hand T.NoPlace H1 true false false false false 0 "place" (by decide) rfl rfl (by decide) rfl T.ug (bg rfl) (aQ (Κ T.Λ 5 2)) (aQ (Κ T.Λ 6 2)) (aQ (Κ T.Λ 4 2)) (aQ (Κ T.Λ 7 2)) (Κ T.Λ 10 2) (Κ T.Λ 11 2) (Κ T.Λ 1 2) (Κ T.Λ 9 2) (Κ T.Λ 3 2) (Κ T.Λ 8 2);have afq:=λH1=>hand T.BadWish H1 false true false false false 1 "wish" (by decide) rfl rfl (by decide) rfl T.uc (aQ (Κ T.Λ 2 5)) (bg rfl) (aQ (Κ T.Λ 6 5)) (aQ (Κ T.Λ 4 5)) (aQ (Κ T.Λ 7 5)) (Κ T.Λ 10 5) (Κ T.Λ 11 5) (Κ T.Λ 1 5) (Κ T.Λ 9 5) (Κ T.Λ 3 5) (Κ T.Λ 8 5);have aco:=λH1=>hand T.TooMany H1 false false true false false 2 "many" (by decide) rfl rfl (by decide) rfl T.tV (aQ (Κ T.Λ 2 6)) (aQ (Κ T.Λ 5 6)) (bg rfl) (aQ (Κ T.Λ 4 6)) (aQ (Κ T.Λ 7 6)) (Κ T.Λ 10 6) (Κ T.Λ 11 6) (Κ T.Λ 1 6) (Κ T.Λ 9 6) (Κ T.Λ 3 6) (Κ T.Λ 8 6);have Zy:=λH1=>hand T.BadLaying H1 false false false true false 3 "laying" (by decide) rfl rfl (by decide) rfl T.qT (aQ (Κ T.Λ 2 4)) (aQ (Κ T.Λ 5 4)) (aQ (Κ T.Λ 6 4)) (bg rfl) (aQ (Κ T.Λ 7 4)) (Κ T.Λ 10 4) (Κ T.Λ 11 4) (Κ T.Λ 1 4) (Κ T.Λ 9 4) (Κ T.Λ 3 4) (Κ T.Λ 8 4);have Zz:=λH1=>hand T.NoNumber H1 false false false false true 4 "number" (by decide) rfl rfl (by decide) rfl T.sH (aQ (Κ T.Λ 2 7)) (aQ (Κ T.Λ 5 7)) (aQ (Κ T.Λ 6 7)) (aQ (Κ T.Λ 4 7)) (bg rfl) (Κ T.Λ 10 7) (Κ T.Λ 11 7) (Κ T.Λ 1 7) (Κ T.Λ 9 7) (Κ T.Λ 3 7) (Κ T.Λ 8 7);have place:=λ(h:¬(0<=r/\r<m)) H1 s1=>ads H1 s1 (by unfold du7;rw[aj (by lia)]);have wish:=λ(r0:0<=r)(r1:r<m)(h:w<1) H1 s1=>afq H1 s1 (by unfold du7;rw[ag (by lia),aj h]);have none_:du7 pick m r w (dZ m xs) num need count good="none"->∀H1,δ H H1->N3 [some (V.int pick),some (V.ref p),some (V.ref q),some (V.int r),some (V.int w),some (V.ref b),some (V.int num),some (V.str (Str.ofString "none")),none,none] H1:=λe H1 s1=>h3 _ _ (by
  walk_at "";exact e▸k _ s1)
 have du:0<=r->r<m->1<=w->du7 pick m r w (dZ m xs) num need count good=if 1<pick/\1000000000000<need then("many":Str)else if(pick=0\/pick=3)/\dZ m xs=false then("laying":Str)else if(pick=2/\(num<0\/count<=num))\/(pick=3/\good=false)then("number":Str)else("none":Str):=λr0 r1 w1=>by
  unfold du7;rw[ag (by lia),ag (by lia)]
 walk_at "";by_cases c0:pick=0
 .rw[aj c0];refine⟨p,b,t,true,m,ps,rs,xs,r,w,rfl,W,μ.of hb,lx,w2,w3,λr0 r1 w1=>?_,place,wish⟩;obtain⟨par,dep,R,_⟩:=kk r0 r1 w1;exact⟨par,dep,R,λfi H1 s1=>none_ (by rw[du r0 r1 w1,ag (by lia),ag (by rw[fi];intro z;cases z.2),ag (by lia)]) H1 s1,λfi H1 s1=>Zy H1 s1 (by rw[du r0 r1 w1,ag (by lia),aj ⟨.inl c0,fi⟩])⟩
 rw[ag c0];by_cases c1:pick=1
 .rw[aj c1];refine⟨p,t,m,ps,rs,r,w,rfl,W,w2,λr0 r1 w1=>?_,place,wish⟩;obtain⟨par,dep,R,_⟩:=kk r0 r1 w1;exact⟨par,dep,R,λtl H1 _ _ s1=>none_ (by rw[du r0 r1 w1,ag (by lia),ag (by lia),ag (by lia)]) H1 s1⟩
 rw[ag c1];by_cases c2:pick=2
 .rw[aj c2];refine⟨p,t,m,ps,rs,r,w,num,rfl,W,w2,w3,λr0 r1 w1=>?_,place,wish⟩;obtain⟨par,dep,R,k1,k2,_⟩:=kk r0 r1 w1;refine⟨par,dep,R,λcb tl O et=>?_,λcb H1 s1=>aco H1 s1 (by rw[du r0 r1 w1,aj (by lia)])⟩;rw[<-k2 tl O et];exact⟨λh l H1 _ s1=>none_ (by rw[du r0 r1 w1,ag (by lia),ag (by lia),ag (by lia)]) H1 s1,λh H1 s1=>Zz H1 s1 (by rw[du r0 r1 w1,ag (by lia),ag (by lia),aj (by lia)])⟩
 rw[ag c2];have c3:pick=3:=by lia
 refine⟨p,b,t,true,m,ps,rs,xs,r,w,rfl,W,μ.of hb,lx,w2,w3,λr0 r1 w1=>?_,place,wish⟩;obtain⟨par,dep,R,k1,_,k3⟩:=kk r0 r1 w1;refine⟨par,dep,R,λcb H1 s1=>aco H1 s1 (by rw[du r0 r1 w1,aj (by lia)]),λcb=>⟨λfi H1 s1=>Zy H1 s1 (by rw[du r0 r1 w1,ag (by lia),aj ⟨.inr c3,fi⟩]),λfi=>?_⟩⟩;have nf:¬((pick=0\/pick=3)/\dZ m xs=false):=λz=>by rw[fi]at z;cases z.2
 rw[<-k3 fi];exact⟨λh x H1 s1=>none_ (by rw[du r0 r1 w1,ag (by lia),ag nf,ag (by rintro(z|z);lia;rw[h]at z;cases z.2)]) H1 s1,λh H1 s1=>Zz H1 s1 (by rw[du r0 r1 w1,ag (by lia),ag nf,aj (.inr ⟨c3,Bool.eq_false_iff.mpr h⟩)])⟩
def uK(xs:List Int)(pk:Int)(i:Nat):List Int:=if pk=1 then xs.set i (xs.getD i 0+1)else if pk=2 then xs.eraseIdx i else if pk=3 then xs.take i++0::xs.drop i else if pk=4 then xs.set i (-1)else xs
def wI(T:Txt K mg):Sp:=λvs H Q _=>E4 λ(a:Addr)(xs:List Int)(pk:Int)(i:Nat)=>vs=[.ref a,.int pk,.int i]/\H a=some (.lst (xs.map V.int))/\xs.length<=24/\i<xs.length/\∀l H',H l=none->δ H H'->H' l=some (.lst ((uK xs pk i).map V.int))->Q (.ref l) H'
abbrev p9:Stmt:=top 88
theorem Ei:ζ ["laying","pick","at","told"] ["laying","pick","at"] (aJ p9):=.of
theorem Ep(T:Txt K mg)(hq:bU (ψ P w)):Ok P w K mg base "_law_spoilt" p9 ["laying","pick","at"] 1 (wI T):=λ_ _ D=>by
 refine D.F.ϔ Ei (by walk_at "v") λς A outer s H vs Q E hr h=>?_;obtain⟨a,xs,pk,i,rfl,ha,xl,il,k⟩:=h;refine⟨_,(ao (ρ 3 (pct nP T.list (aa (γ 0) ay))) (ao (dz (ό gc (γ 1) az) (aL (jW (aX dN (Δ bB (γ 3) (γ 2)) az) (mK (γ 3) (γ 2) iW))) ce) (ao (dz (ό gc (γ 1) az) (aL (dH (jI PySem.F.plainAttrs_list PySem.F.slot_list_pop PySem.F.type_list_pop OA (γ 3) (aa (γ 2) ay)))) ce) (ao (dz (ό gc (γ 1) az) (aL (dH (jI PySem.F.plainAttrs_list fU PySem.F.type_list_insert xT (γ 3) (aa (γ 2) (aa az ay))))) ce) (ao (dz (ό gc (γ 1) az) (aL (jW (qM oB az) (mK (γ 3) (γ 2) iW))) ce) (aL (bG (γ 3)))))))),?_⟩;walk_at "s";refine cN λN1 h1=>?_;walk_at "";refine⟨_,.inl (μ.of ha),λl0 n0=>h1 _ _ ?_⟩;have sl:=δ.new (HO.lst (xs.map V.int)) n0;have el:upd H l0 (HO.lst (xs.map V.int)) l0=some (.lst (xs.map V.int)):=ax;generalize upd H l0 (HO.lst (xs.map V.int))=H1 at sl el ⊢;walk_at "";have i0:(0:Int)<=(i:Int):=by lia
 have fin:∀H2,δ H H2->H2 l0=some (.lst ((uK xs pk i).map V.int))->Q (V.ref l0) H2:=λH2 s2 e2=>k l0 H2 n0 s2 e2;unfold uK at fin;by_cases c1:pk=1
 .subst c1;rw[aj rfl]at fin ⊢;have ga:=lE (xs:=xs) i0 (by lia);rw[bD]at ga;refine Ε el ga ⟨_,rfl,rX el i0 (by rw[ah];lia) ?_⟩;rw[ag (by decide),ag (by decide),ag (by decide),bD,<-d9];exact fin _ (sl.put n0 _) ax
 rw[ag c1]at fin ⊢;by_cases c2:pk=2
 .subst c2;rw[aj rfl]at fin ⊢;refine⟨oK el,l0,_,(i:Int),i,_,rfl,rfl,el,by lia,by lia,Rs (by rw[ah];lia),ap (by rw[ah];lia),?_⟩;dsimp only;rw[ag (by decide),ag (by decide),show(xs.map V.int).eraseIdx i=(xs.eraseIdx i).map V.int by rw[ja,ja,aD,iq,gF]];exact fin _ (sl.put n0 _) ax
 rw[ag c2]at fin ⊢;by_cases c3:pk=3
 .subst c3;rw[aj rfl]at fin ⊢;refine⟨oK el,NT el i0 (by rw[ah];lia) (ff (by rw[ah];lia)) ?_⟩;rw[ag (by decide)];refine fin _ (sl.put n0 _) ?_;rw[ax,bD,<-iq,<-gF,aD]
  rfl
 rw[ag c3]at fin ⊢;by_cases c4:pk=4
 .subst c4;rw[aj rfl]at fin ⊢;refine rX el i0 (by rw[ah];lia) ?_;rw[bD,<-d9];exact fin _ (sl.put n0 _) ax
 rw[ag c4]at fin ⊢;exact fin _ sl el
def ZA(i:Nat):Nat:=10^60*(10^6)^i
theorem PF(i:Nat):ZA (i+1)=ZA i*1000000:=by
 unfold ZA;rw[show(10^6:Nat)^(i+1)=(10^6)^i*10^6 from f7 ..,<-Nat.mul_assoc]
theorem RR{i:Nat}(h:i<=24):ZA i<=ZA 24:=gW _ (bF (by decide) h)
theorem UA:ZA 24<2^700:=by unfold ZA;decide +kernel
theorem Rl(i:Nat):0<ZA i:=Nat.mul_pos (by decide) (Nat.pow_pos (by decide))
def wD(T:Txt K mg):Sp:=λvs H Q _=>E11 λ(dt lo:Addr)(qs:List Addr)(rs:List Road)(t:List Int)(m r w cell:Int)(par:Int->Int)(dep:Int->Nat)=>vs=[.ref dt,.ref lo,.int w,.int cell]/\ϋ H dt rs/\Good m rs/\ε m rs r par dep/\H lo=some (.lst (qs.map V.ref))/\ω H r par qs (r::t)/\Order m r par t/\t.length+1=m.toNat/\(0<=r/\r<m)/\1<=w/\w<=10^60/\∀(tq la ld:Addr)(xs ys:List Int)(H':Hp),H la=none->δ H H'->H' tq=some (.tup [.ref la,.ref ld])->H' la=some (.lst (xs.map V.int))->(xs.length:Int)=m->(∀x∈xs,0<=x/\x<2^720)->(∃gv,Spr m rs r par dep w (λv=>ys.getD v.toNat 0) gv/\∀v,0<=v->v<m->xs.getD v.toNat 0=if kd m rs r par v=[]then ys.getD v.toNat 0 else 0)->Q (.ref tq) H'
abbrev ju:Stmt:=top 85
theorem mM:ζ ["tolls","order","wanted","cell","weights","laying","load","rest","place","near","kids_v","heavy","left","kid","gives"] ["tolls","order","wanted","cell"] (aJ ju):=.of
theorem uW:ZU (aJ ju) "weights":=.of (by kernel_rfl)
theorem wO:ZU (aJ ju) "place":=.of (by kernel_rfl)
theorem vI:Zt (aJ ju) "kids_v":=.of (by kernel_rfl)
theorem wL:Zt (aJ ju) "heavy":=.of (by kernel_rfl)
theorem Ew(T:Txt K mg)(hq:bU (ψ P w))(ji:Cb P w K mg base "_law_least" lm ["tolls","order"] 1 (pD T)):Ok P w K mg base "_law_spread" ju ["tolls","order","wanted","cell"] 2 (wD T):=λ_ _ D=>by
 refine D.F.ϔ mM (by walk_at "v") λς A outer s H vs Q E hr h=>?_;obtain⟨dt,lo,qs,rs,t,m,r,w,cell,par,dep,rfl,ta,g,R,ho,pa,O,tl,⟨r0,r1⟩,w1,w2,k⟩:=h;have m1:=g.m1;have Ζ:=g.Ζ;have hu:=oS hr;have hv:=hr.units;have ql:qs.length=(r::t).length:=Paired.length pa;rw[aE]at ql;refine⟨_,(ao (xK (i:=4) mM.nd rfl (Or.inr uW.l) (Θ ji hr hq (aa (ϲ 0) (aa (γ 1) ay)))) (ao (ρ 5 (aX pR (eC (aa az ay)) (dO gO T.len (aa (γ 1) ay)))) (ao (ρ 6 (aX pR (eC (aa az ay)) (dO gO T.len (aa (γ 1) ay)))) (ao (jW (aX fH (γ 2) az) (mK (γ 6) (Δ g9 (iL bB (γ 1) az (λ_ _=>rfl)) az) iW)) (ao (ρ 7 (γ 3)) (ao (eZ PassesOwn.never rfl (hG (γ 1)) (jo (n:=2) rfl (bW (fN (i:=8) mM.nd rfl (Or.inr wO.l)) (bW (Φ 9) gK))) (ao (wc (i:=10) mM.nd rfl vI.l rfl (ZY ["pair","place"] 1 [8]) (hG (γ 1)) (λ_ _ _ _=>(fN (i:=0) (show(["pair","place"]:List Str).Nodup from by decide +kernel) rfl (Or.inl rfl))) (λ_ _ _ _=>(uQ (ό gc (Δ (Jn K rfl) (pv 0) az) (pv 1)))) (λ_ _ _ _=>(Δ (Jn K rfl) (pv 0) az))) (ao (wc (i:=11) mM.nd rfl wL.l rfl (ZY ["kid","weights","place","tolls"] 1 [4,8,0]) (hG (γ 10)) (λ_ _ _ _=>(fN (i:=0) (show(["kid","weights","place","tolls"]:List Str).Nodup from by decide +kernel) rfl (Or.inl rfl))) (λ_ _ _ _=>(uQ (sK gc (aX mR (Δ (mE K rfl) (pv 1) (pv 0)) (vw hu (pv 3) (gS (aa (pv 0) (aa (pv 2) ay))) (λ_ _=>rfl))) (Δ (mE K rfl) (pv 1) (pv 2)) (oC _)))) (λ_ _ _ _=>(pv 0))) (ao (ρ 12 (Δ bB (γ 6) (ϲ 8))) (ao (eZ PassesOwn.never rfl (hG (γ 10)) (Φ 13) (ao (ρ 14 az) (ao (dz (sK Dz (γ 13) (γ 11) (by with_unfolding_all rfl)) (ao (ρ 14 (γ 12)) (aL (dz (ό sG (γ 13) (Δ bB (γ 11) (qM oB az))) (ao (ρ 14 (aX dR (γ 7) (aX dN (γ 12) az))) (aL (ρ 7 (aX vL (γ 7) (aX dN (γ 12) az))))) ce))) ce) (ao (ρ 12 (aX fH (γ 12) (γ 14))) (aL (jW (aX fH (aX kH (vw hu (ϲ 0) (gS (aa (γ 13) (aa (ϲ 8) ay))) (λ_ _=>rfl)) (aX dN (γ 14) az)) az) (mK (γ 6) (γ 13) iW))))))) (aL (dz (ό (R8 hv) (γ 10) (eC ay)) (aL (jW (Δ bB (γ 6) (ϲ 8)) (mK (γ 5) (ϲ 8) iW))) ce))))))) (aL (bG (gS (aa (γ 5) (aa (γ 6) ay))))))))))),?_⟩;walk_at "s";refine cN λN1 h1=>?_;walk_at "";refine⟨dt,lo,qs,rs,t,m,r,par,dep,rfl,ta,g,R,ho,pa,O,tl,λlw H1 nw s1 ew=>h1 _ _ (cN λN2 h2=>?_)⟩;have rep:∀(H2:Hp)(R':VK),δ H H2->(∀q H3,H2 q=none->δ H2 H3->H3 q=some (.lst ((List.replicate m.toNat (0:Int)).map V.int))->R' (.ref q) H3)->[V.int 0].length<=sizeLine/\∀(p:Addr),H2 p=none->∃x,(μ K (upd H2 p (HO.lst [V.int 0])) lo x\/Η K (upd H2 p (HO.lst [V.int 0])) lo x)/\aes (V.ref p) (V.int (x.length:Int)) (upd H2 p (HO.lst [V.int 0])) R':=by
  intro H2 R' s2 q;refine⟨bN (by simp),λp1 n1=>?_⟩;have u1:=δ.new (.lst [V.int 0]) n1;refine⟨_,.inl (μ.of (u1 _ _ (s2 _ _ ho))),?_⟩;rw[ah,ql];refine⟨p1,_,_,rfl,rfl,ax,by lia,by lia,bN (by simp;lia),λp2 n2=>?_⟩;rw[Av,bD,tl];refine q p2 _ (u1.free n2) (u1.trans (δ.new _ n2)) ?_;rw[ax,gb]
 walk_at "";refine rep _ _ s1 λla H2 na s2 ea=>h2 _ _ (cN λN3 h3=>?_);have gE:=s1.trans s2;have na0:=s1.free na;have nwa:lw≠la:=bQ ew na;walk_at "";refine rep _ _ gE λld H3 nd s3 ed=>h3 _ _ (cN λN4 h4=>?_);have Yl:=gE.trans s3;have nd0:=gE.free nd;have nal:la≠ld:=bQ ea nd;have ea:=s3 _ _ ea;have ew:=(s2.trans s3) _ _ ew;have nwd:lw≠ld:=bQ (s2 _ _ (by assumption)) nd;clear h1 h2 h3 s1 s2 s3 gE na nd rep;walk_at "";obtain⟨q0,v0,e0,f0,f1,f2⟩:=pa.get (i:=0) (x:=V.ref (qs.headD 0)) (by
  cases qs with
  | nil=>simp at ql
  | cons a l=>rfl)
 cases(show v0=r by simpa using f1.symm);have lw0:(cM m rs r par dep).length=m.toNat:=by unfold cM;exact lS
 refine Ε (Yl _ _ ho) (cq (by decide) (v:=V.ref q0) (by rw[show(0:Int).toNat=0 from rfl,aF,f0];rfl)) (XI (Yl _ _ f2) rfl (rX ed r0 (by rw[ah,bT];lia) (h4 _ _ (cN λN5 h5=>?_))));have Zh:=Yl.put nd0 (.lst (((List.replicate m.toNat (0:Int)).map V.int).set r.toNat (V.int (w-1))));have ed4:upd H3 ld (.lst (((List.replicate m.toNat (0:Int)).map V.int).set r.toNat (V.int (w-1)))) ld=some (.lst (((List.replicate m.toNat (0:Int)).set r.toNat (w-1)).map V.int)):=by rw[ax,<-d9]
 have ea4:upd H3 ld (.lst (((List.replicate m.toNat (0:Int)).map V.int).set r.toNat (V.int (w-1)))) la=some (.lst ((List.replicate m.toNat (0:Int)).map V.int)):=by rw[aO nal];exact ea
 have ew4:upd H3 ld (.lst (((List.replicate m.toNat (0:Int)).map V.int).set r.toNat (V.int (w-1)))) lw=some (.lst ((cM m rs r par dep).map V.int)):=by rw[aO nwd];exact ew
 generalize upd H3 ld (.lst (((List.replicate m.toNat (0:Int)).map V.int).set r.toNat (V.int (w-1))))=H4 at Zh ed4 ea4 ew4 ⊢;clear h4 ed ea ew Yl;walk_at "";refine h5 _ _ (cN λN6 h6=>?_);walk_at "";refine⟨⟨_,μ.of (Zh _ _ ho)⟩,?_⟩;refine mh (K:=K) (xs:=qs.map V.ref) (λi σ H5=>δ H H5/\H5 lw=some (.lst ((cM m rs r par dep).map V.int))/\E11 λ(xs ys:List Int)(gv:Int->Int)(rest:Int)(v8 v9 v10 v11 v12 v13 v14:Option V)=>H5 la=some (.lst (xs.map V.int))/\H5 ld=some (.lst (ys.map V.int))/\Sps m rs r par dep w t i xs ys gv/\(∀x∈xs,0<=x/\x<2^720)/\(∀y∈ys,0<=y/\y<(ZA i:Int))/\σ=[some (V.ref dt),some (V.ref lo),some (V.int w),some (V.int cell),some (V.ref lw),some (V.ref la),some (V.ref ld),some (V.int rest),v8,v9,v10,v11,v12,v13,v14]) ⟨Zh,ew4,_,_,λ_=>0,_,_,_,_,_,_,_,_,ea4,ed4,⟨by rw[bT];lia,by rw[cP,bT];lia,by rw[o0 _ _ _ _ (by rw[bT];lia),aj rfl],λ_ _ _ _ z=>(nomatch z),λ_ z=>(nomatch z),λu _ _=>by rw[ag λz=>(nomatch z.1),cf,d7];split<;>rfl⟩,?_,?_,rfl⟩ (λi σ H5 _ z=>μ.of (z.1 _ _ ho)) ?_ ?_
 .intro x hx;rw[ik hx];exact⟨bA _,by decide +kernel⟩
 .intro y hy;rw[show ZA 0=10^60 from rfl];rcases fQ hy with hy|rfl
  .rw[ik hy];exact⟨bA _,by decide⟩
  .exact⟨by lia,by lia⟩
 .rintro i x σ H5 N BB Ϩ hN hx ⟨s5,ew5,xs,ys,gv,rest,v8,v9,v10,v11,v12,v13,v14,ea5,ed5,NN,x0,y0,rfl⟩;have xl:=NN.xl;have yl:=NN.yl;refine Ϩ _ _ ?_;obtain⟨q,v,rfl,hq1,hv1,e5⟩:=pa.get hx;walk_at "";refine⟨_,Η.of (s5 _ _ e5),rfl,_,_,rfl,_,_,rfl,rfl,?_⟩;have vr:0<=v/\v<m:=by
   rcases ar.mp (aM hv1)with h|h
   .rw[h];exact⟨r0,r1⟩
   .exact O.Μ v h
  have il:=(aq.mp hv1).1;rw[aE]at il;refine⟨⟨_,μ.of (s5 _ _ ho)⟩,λpk npk=>?_⟩;refine oZ (K:=K) (c:=true) (a:=lo) (xs:=qs.map V.ref) (λj zs σ H6=>δ H5 H6/\H6 pk=some (.lst zs)/\zs=(((r::t).take j).filter λc=>decide (c≠r/\par c=v)).map V.int/\∃v0,σ=[v0,some (V.int v)]) ⟨δ.new _ npk,ax,rfl,_,rfl⟩ (λj zs σ H6 _ ⟨z,_⟩=>μ.of (z _ _ (s5 _ _ ho))) ?_ ?_
  .rintro j y zs σ H6 N' hN' hj ⟨s6,e6,rfl,v0,rfl⟩;obtain⟨q',u,rfl,hq2,hu2,e7⟩:=pa.get hj;have kl:(((r::t).take j).filter λc=>decide (c≠r/\par c=v)).length<=j:=aU (cA ..) (by rw[bd];lia);have ur:(0<=u/\u<m):=by
    rcases ar.mp (aM hu2)with h|h
    .rw[h];exact⟨r0,r1⟩
    .exact O.Μ u h
   have jl:=(aq.mp hu2).1;rw[aE]at jl;have e8:=s6 _ _ (s5 _ _ e7);walk_at "";refine XI e8 (v:=Pb.front r par u) rfl ?_;by_cases cu:u=r
   .have fv:Pb.front r par u=V.ο:=(by unfold Pb.front;rw[aj cu]);rw[fv];refine⟨by simp[pP],?_⟩;rw[ag (by intro z;cases z)];exact hN' _ _ _ ⟨s6,e6,by rw[Cp hu2 (aQ λz=>z.1 cu)],_,rfl⟩
   .have fv:Pb.front r par u=V.int (par u):=(by unfold Pb.front;rw[ag cu]);rw[fv];refine⟨by simp[pP],?_⟩;by_cases cp:par u=v
    .rw[aj (by rw[cp])];refine XI e8 rfl ⟨e6,ff (by rw[ah];lia),hN' _ _ _ ⟨s6.put npk _,ax,by rw[LU hu2 (bg ⟨cu,cp⟩),aD];rfl,_,rfl⟩⟩
    .rw[ag (by intro z;injection z;contradiction)];exact hN' _ _ _ ⟨s6,e6,by rw[Cp hu2 (aQ λz=>cp z.2)],_,rfl⟩
  .rintro zs σ H6 ⟨s6,e6,ez6,v0,rfl⟩;rw[ah,ql,show t.length+1=(r::t).length from rfl,bp]at ez6;have ndk:((r::t).filter λc=>decide (c≠r/\par c=v)).Nodup:=O.nd.filter _;have mk:∀u,u∈((r::t).filter λc=>decide (c≠r/\par c=v))↔u∈kd m rs r par v:=λu=>by
    rw[bO g R vr.1 vr.2,b5,decide_eq_true_iff];exact⟨λh=>⟨O.Μ u ((ar.mp h.1).resolve_left h.2.1),h.2⟩,λh=>⟨ar.mpr (O.all u h.1.1 h.1.2),h.2⟩⟩
   have kl:((r::t).filter λc=>decide (c≠r/\par c=v)).length<=t.length+1:=cA ..;generalize ((r::t).filter λc=>decide (c≠r/\par c=v))=ks at ez6 ndk mk kl;subst ez6;have kg:∀u∈ks,(0<=u/\u<m)/\u≠r/\par u=v:=λu h=>(bO g R vr.1 vr.2).mp ((mk u).mp h);have s56:=s5.trans s6;have ew6:=s6 _ _ ew5;have ed6:=s6 _ _ ed5;have ea6:=s6 _ _ ea5;have aku:pk≠ld:=λz=>by rw[z,ed5]at npk;cases npk
   have arc:pk≠la:=λz=>by rw[z,ea5]at npk;cases npk
   refine⟨pk,rfl,⟨_,μ.of e6⟩,λph nph=>?_⟩;have toll:∀(H8:Hp)(u:Int),δ H H8->(0<=u/\u<m)->u≠r->par u=v->∃kk,kk=tup rs par u/\2<=kk/\kk<=1000000/\∀q',H8 q'=none->ϙ (upd H8 q' (.tup [V.int u,V.int v])) dt (V.ref q') (some (V.int kk)):=by
    intro H8 u s8 ur un up;obtain⟨kd,hd,d0,d1⟩:=lY g R ur.1 ur.2 un;rw[up]at hd;refine⟨kd,by unfold tup;rw[up,hd];rfl,d0,d1,λq' Zf=>?_⟩;have s9:=δ.new (.tup [V.int u,V.int v]) Zf;obtain⟨η,Yv,hv2⟩:=(ta.same s8).ex;have hg:=ϙ.t (k:=[.inl u,.inl v]) (s9 _ _ Yv) ax;rw[hv2,hd]at hg;exact hg
   refine oZ (K:=K) (c:=true) (a:=pk) (xs:=ks.map V.int) (λj zs σ H7=>δ H6 H7/\H7 ph=some (.lst zs)/\zs=((ks.take j).filter λu=>decide (υ m rs r par dep u*tup rs par u=υ m rs r par dep v)).map V.int/\∃v0,σ=[v0,some (V.ref lw),some (V.int v),some (V.ref dt)]) ⟨δ.new _ nph,ax,rfl,_,rfl⟩ (λj zs σ H7 _ ⟨z,_⟩=>μ.of (z _ _ e6)) ?_ ?_
   .rintro j y zs σ H7 N' hN' hj ⟨s7,e7,rfl,v0,rfl⟩;obtain⟨u,hu,rfl⟩:=List.ι hj;obtain⟨ur,un,up⟩:=kg u (aM hu);have jl:=(aq.mp hu).1;walk_at "";have ew7:=s7 _ _ ew6;have hl:((ks.take j).filter λu=>decide (υ m rs r par dep u*tup rs par u=υ m rs r par dep v)).length<=j:=aU (cA ..) (by rw[bd];lia);obtain⟨kk,ek,k0,k1,dg⟩:=toll H7 u (s56.trans s7) ur un up;refine Ε ew7 (lE ur.1 (by lia)) ⟨bN (by simp),λq' Zf=>⟨_,dg q' Zf,_,rfl,_,rfl,XM.ok (.inr ⟨by lia,by lia⟩),?_⟩⟩;have s9:=δ.new (.tup [V.int u,V.int v]) Zf;generalize upd H7 q' (.tup [V.int u,V.int v])=H9 at s9 ⊢;refine Ε (s9 _ _ ew7) (lE vr.1 (by lia)) ⟨by simp[pP],?_⟩;have n9:δ H6 H9:=s7.trans s9;rw[show(cM m rs r par dep).getD u.toNat 0=υ m rs r par dep u from fL ur.1 ur.2,show(cM m rs r par dep).getD v.toNat 0=υ m rs r par dep v from fL vr.1 vr.2,ek];by_cases ch:υ m rs r par dep u*tup rs par u=υ m rs r par dep v
    .rw[aj (congrArg V.int ch)];exact⟨s9 _ _ e7,ff (by rw[ah];lia),hN' _ _ _ ⟨n9.put nph _,ax,by rw[LU hu (bg ch),aD];rfl,_,rfl⟩⟩
    .rw[ag λz=>ch (V.int.inj z)];exact hN' _ _ _ ⟨n9,s9 _ _ e7,by rw[Cp hu (aQ ch)],_,rfl⟩
   .rintro zs σ H7 ⟨s7,e7,ez7,v0,rfl⟩;rw[ah,bp]at ez7;have hl:(ks.filter λu=>decide (υ m rs r par dep u*tup rs par u=υ m rs r par dep v)).length<=ks.length:=cA ..;obtain⟨hs,adu⟩:∃hs,hs=ks.filter λu=>decide (υ m rs r par dep u*tup rs par u=υ m rs r par dep v):=⟨_,rfl⟩;rw[<-adu]at ez7 hl;subst ez7;have akw:ph≠ld:=λz=>by rw[z,ed6]at nph;cases nph
    have ard:ph≠la:=λz=>by rw[z,ea6]at nph;cases nph
    have ew7:=s7 _ _ ew6;have ed7:=s7 _ _ ed6;have ea7:=s7 _ _ ea6;have ek7:=s7 _ _ e6;have s57:=s56.trans s7;refine Ε ed7 (lE vr.1 (by lia)) ⟨pk,rfl,⟨_,μ.of ek7⟩,?_⟩;obtain⟨l0,l1⟩:0<=ys.getD v.toNat 0/\ys.getD v.toNat 0<(ZA i:Int):=by
     rw[List.getD];cases e:ys[v.toNat]? with
     | none=>exact⟨bA _,by have:=Rl i;show(0:Int)<_;lia⟩
     | some y=>exact y0 y (aM e)
    have BB0:=PF i;have bi:ZA i<2^700:=fu (RR (i:=i) (by lia)) UA;generalize ZA (i+1)=B1 at BB0 hN;generalize ZA i=B at BB0 l1 y0 bi;refine mh (K:=K) (xs:=ks.map V.int) (λj σ H8=>δ H H8/\H8 lw=some (.lst ((cM m rs r par dep).map V.int))/\H8 la=some (.lst (xs.map V.int))/\H8 pk=some (.lst (ks.map V.int))/\H8 ph=some (.lst (hs.map V.int))/\E6 λ(zs:List Int)(gw:Int->Int)(rest left:Int)(v13 v14:Option V)=>H8 ld=some (.lst (zs.map V.int))/\Spk m rs r par dep v ks ys gv j zs gw left/\(∀y∈zs,0<=y/\y<(B1:Int))/\0<=left/\left<(B:Int)/\σ=[some (V.ref dt),some (V.ref lo),some (V.int w),some (V.int cell),some (V.ref lw),some (V.ref la),some (V.ref ld),some (V.int rest),some (V.int v),some (Pb.front r par v),some (V.ref pk),some (V.ref ph),some (V.int left),v13,v14]) ⟨s57,ew7,ea7,ek7,e7,ys,gv,_,_,_,_,ed7,Spk.start yl,(λy hy=>⟨(y0 y hy).1,by have:=(y0 y hy).2;lia⟩),l0,l1,rfl⟩ (λj σ H8 _ z=>μ.of z.2.2.2.1) ?_ ?_
    .rintro j x σ H8 N2 CC hCC Ys hj ⟨s8,ew8,ea8,ek8,eh8,zs,gw,YJ,left,aky,akz,ed8,SK,z0,lf0,lf1,rfl⟩;obtain⟨u,hu,rfl⟩:=List.ι hj;obtain⟨ur,un,up⟩:=kg u (aM hu);have zl:=SK.zl;refine hCC _ _ (cN λM1 k1=>?_);walk_at "";refine k1 _ _ (cN λM2 k2=>?_);have fin:∀(gives acq:Int),0<=gives->gives<=left->(gives≠0->υ m rs r par dep u*tup rs par u=υ m rs r par dep v)->(hs.getLast?=some u->gives=left)->M2 [some (V.ref dt),some (V.ref lo),some (V.int w),some (V.int cell),some (V.ref lw),some (V.ref la),some (V.ref ld),some (V.int acq),some (V.int v),some (Pb.front r par v),some (V.ref pk),some (V.ref ph),some (V.int left),some (V.int u),some (V.int gives)] H8:=by
      intro gives acq g0 g1 g2 g3;refine k2 _ _ ?_;walk_at "";obtain⟨kk,ek,k0,k1,dg⟩:=toll H8 u s8 ur un up;refine⟨bN (by simp),λq' Zf=>⟨_,dg q' Zf,_,rfl,.inl ⟨by lia,by lia⟩,?_⟩⟩;have s9:=δ.new (.tup [V.int u,V.int v]) Zf;generalize upd H8 q' (.tup [V.int u,V.int v])=H9 at s9 ⊢;have s89:=s8.trans s9;have arj:kk*(gives+1)<=1000000*B:=dD k1 (by lia) (by lia) (by lia);have ark:1*1<=kk*(gives+1):=dD (by lia) (by lia) (by lia) (by lia);refine rX (s9 _ _ ed8) ur.1 (by rw[ah];lia) (Ys _ _ ⟨s89.put nd0 _,by rw[aO nwd];exact s9 _ _ ew8,by rw[aO nal];exact s9 _ _ ea8,by rw[aO aku];exact s9 _ _ ek8,by rw[aO akw];exact s9 _ _ eh8,zs.set u.toNat (kk*(gives+1)-1),_,_,_,_,_,by rw[ax,<-d9],by rw[hJ,ek];exact SK.step ndk (λu h=>(kg u h).1) hu g0 g1 g2 (by rw[<-adu];exact g3),?_,?_,?_,rfl⟩)
      .intro y hy;rcases fQ hy with hy|rfl
       .exact z0 y hy
       .constructor<;>lia
      .lia
      .lia
     walk_at "";refine⟨ph,_,rfl,.inl (μ.of eh8),rfl,ut _,_,rfl,?_⟩;by_cases ci:inV (V.int u) (hs.map V.int)=true
     .rw[aj (by simpa using ci)];have hvy:υ m rs r par dep u*tup rs par u=υ m rs r par dep v:=by
       have:u∈hs:=dE (by rw[<-sY];exact ci);rw[adu]at this;exact dE (b5.mp this).2
      have hne:hs≠[]:=λz=>by rw[z]at ci;simp[inV]at ci
      obtain⟨hs',z,ehs⟩:∃hs' z,hs=hs'++[z]:=⟨_,_,(List.dropLast_concat_getLast hne).symm⟩;have ez:Ϣ (hs.map V.int) (-1)=some (V.int z):=(by rw[ehs,aD];exact OI _ _);refine Ε eh8 ez ⟨by simp[pP],?_⟩;have p0:(0:Int)<left+1:=(by lia);split
      .have q0:=cg YJ (jv p0);have q1:=b7 YJ p0;exact⟨p0,⟨p0,FV (n:=700) (by lia) (by lia) (by decide)⟩,fin _ _ q0 (by lia) (λ_=>hvy) λe=>absurd e (by rename_i nz;rw[ehs,List.getLast?_concat];intro e;injection e with e;exact nz (by rw[e]))⟩
      .exact fin left _ lf0 (bA _) (λ_=>hvy) λ_=>rfl
     .rw[ag (by simpa using ci)];exact fin 0 _ (bA _) lf0 (λz=>absurd rfl z) λe=>absurd (by rw[sY];exact bg (mj e)) ci
    .rintro CC σ H8 hCC ⟨s8,ew8,ea8,ek8,eh8,zs,gw,YJ,left,aky,akz,ed8,SK,z0,lf0,lf1,rfl⟩;refine hCC _ _ ?_;walk_at "";refine⟨bN (by simp),λpe ne=>?_⟩;have se:=δ.new (.lst []) ne;refine⟨_,_,.lst (μ.of (se _ _ ek8)) (tH ks),.lst (μ.of ax) .nil,?_,_,rfl,?_⟩
     .have:=rR ks;simp only[PyData.depth,PyData.depthAll]
      lia
     have z0':∀y∈zs,0<=y/\y<(B1:Int):=z0;rw[ah]at SK;have zl:=SK.zl;have NX:=Spk.done g R O r0 r1 NN hv1 SK ndk mk;by_cases ck:ks=[]
     .rw[aj ck]at NX;rw[aj (by rw[ck];rfl)];refine Ε (se _ _ ed8) (lE vr.1 (by lia)) (rX (se _ _ ea8) vr.1 (by rw[ah];lia) (hN _ _ ⟨(s8.trans se).put na0 _,by rw[aO nwa];exact se _ _ ew8,xs.set v.toNat (zs.getD v.toNat 0),zs,gw,_,_,_,_,_,_,_,_,by rw[ax,<-d9],by rw[aO nal.symm];exact se _ _ ed8,NX,?_,z0',rfl⟩));intro x hx;rcases fQ hx with hx|rfl
      .exact x0 x hx
      .rw[List.getD];cases e:zs[v.toNat]? with
       | none=>exact⟨bA _,by show(0:Int)<2^720;decide +kernel⟩
       | some y=>
         have h1:=z0 y (aM e);refine⟨h1.1,Int.lt_trans h1.2 ?_⟩;have h3:B*1000000<2^700*1000000:=(Nat.mul_lt_mul_right (by decide)).mpr bi;have h4:(2:Nat)^700*1000000<=2^720:=(by decide +kernel);rw[show(2:Int)^720=((2^720:Nat):Int)from(lN 2 720).symm]
         lia
     .rw[ag ck]at NX;rw[ag (by intro z;cases ks with|nil=>exact ck rfl|cons a l=>cases z)];exact hN _ _ ⟨s8.trans se,se _ _ ew8,xs,zs,gw,_,_,_,_,_,_,_,_,se _ _ ea8,se _ _ ed8,NX,x0,z0',rfl⟩
 .rintro BB σ H5 Ϩ ⟨s5,ew5,xs,ys,gv,rest,v8,v9,v10,v11,v12,v13,v14,ea5,ed5,NN,x0,y0,rfl⟩;refine Ϩ _ _ (h6 _ _ ?_);walk_at "";refine⟨bN (by simp),λtq nt=>?_⟩;have sn:=δ.new (.tup [V.ref la,V.ref ld]) nt;rw[ah,ql]at NN;exact k tq la ld xs ys _ na0 (s5.trans sn) ax (sn _ _ ea5) NN.xl x0 ⟨gv,NN.fin g R O⟩
def sQ(T:Txt K mg):Sp:=λvs H Q _=>E3 λ(a:Addr)(n:Int)(ns:List Int)=>vs=[.ref a]/\H a=some (.lst ((n::ns).map V.int))/\ns.length<=1000/\∀l H' n',H l=none->δ H H'->H' l=some (.lst ((n'::ns).map V.int))->Q (.ref l) H'
abbrev m5:Stmt:=top 80
theorem Ab:ζ ["numbers","head"] ["numbers"] (aJ m5):=.of
theorem zR(T:Txt K mg)(hq:bU (ψ P w)):Ok P w K mg base "_law_to_twelve" m5 ["numbers"] 1 (sQ T):=λ_ _ D=>by
 refine D.F.ϔ Ab (by walk_at "v") λς A outer s H vs Q E hr h=>?_;obtain⟨a,n,ns,rfl,ha,nl,k⟩:=h;refine⟨_,(ao (ρ 1 (Δ bB (γ 0) az)) (aL (bG (aX Mm (eC (aa (aX dN (aX dN (aX dR (γ 1) az) (aX kH az (aX dR (aX dR (aX eG (γ 1) az) az) az))) (aX kH az (aX eG (γ 1) az))) ay)) (vW yd (γ 0) (vA az) Cd))))),?_⟩;walk_at "s";refine cN λN1 h1=>?_;walk_at "";refine Ε ha (lE (xs:=n::ns) (i:=0) (by decide) (by rw[aE];lia)) (h1 _ _ ?_);unfold tSl Bf Xq;walk_at "";generalize (n::ns).getD (Int.toNat 0) 0=e;refine⟨by decide,⟨by decide,by decide⟩,by decide,by decide,.inl ⟨by decide,by decide⟩,⟨by decide,by decide⟩,.inl ⟨by decide,by decide⟩,bN (by simp),λp np=>?_⟩;generalize e%70+70*(e/70%17%5)+1190*(e/1190)=n';have s1:=δ.new (HO.lst [V.int n']) np;have e1:upd H p (HO.lst [V.int n']) p=some (.lst [V.int n']):=ax;generalize upd H p (HO.lst [V.int n'])=H1 at s1 e1 ⊢;refine⟨a,_,rfl,μ.of (s1 _ _ ha),λl2 n2=>?_⟩;rw[Gz _ (by decide)];have s2:=δ.new (HO.lst (((n::ns).map V.int).drop (1:Int).toNat)) n2;have e2:upd H1 l2 (HO.lst (((n::ns).map V.int).drop (1:Int).toNat)) l2=some (.lst (ns.map V.int)):=ax;have e12:=s2 _ _ e1;generalize upd H1 l2 (HO.lst (((n::ns).map V.int).drop (1:Int).toNat))=H2 at s2 e2 e12 ⊢;refine W2 e12 e2 (bN (by rw[ah];show 1+ns.length<=_;lia)) λl3 n3=>?_;have s3:=δ.new (HO.lst ([V.int n']++ns.map V.int)) n3;exact k l3 _ n' ((s1.trans s2).free n3) ((s1.trans s2).trans s3) ax
def xS(T:Txt K mg):Sp:=λvs H Q _=>E10 λ(dt lo:Addr)(qs:List Addr)(rs:List Road)(t:List Int)(m r cell:Int)(par:Int->Int)(dep:Int->Nat)=>vs=[.ref dt,.ref lo,.int cell]/\ϋ H dt rs/\Good m rs/\ε m rs r par dep/\H lo=some (.lst (qs.map V.ref))/\ω H r par qs (r::t)/\Order m r par t/\t.length+1=m.toNat/\(0<=r/\r<m)/\∀(w:Int)(H':Hp),-(10^60)<=w->w<=10^60->δ H H'->Q (.int w) H'
abbrev qP:Stmt:=top 89
theorem Fk:ζ ["tolls","order","cell","weights","bound","last"] ["tolls","order","cell"] (aJ qP):=.of
theorem Go(T:Txt K mg)(hq:bU (ψ P w))(mW:Cb P w K mg base "_law_bound" oJ ["tolls","order","weights","wanted"] 1 (sR T))(ji:Cb P w K mg base "_law_least" lm ["tolls","order"] 1 (pD T)):Ok P w K mg base "_law_wants" qP ["tolls","order","cell"] 2 (xS T):=λ_ _ D=>by
 refine D.F.ϔ Fk (by walk_at "v") λς A outer s H vs Q E hr h=>?_;obtain⟨dt,lo,qs,rs,t,m,r,cell,par,dep,rfl,ta,g,R,ho,pa,O,tl,⟨r0,r1⟩,k⟩:=h;have m1:=g.m1;have ql:qs.length=(r::t).length:=Paired.length pa;rw[aE]at ql;refine⟨_,(ao (ρ 3 (Θ ji hr hq (aa (γ 0) (aa (γ 1) ay)))) (ao (ρ 4 (Θ mW hr hq (aa (γ 0) (aa (γ 1) (aa (γ 3) (aa az ay)))))) (ao (ρ 5 (aX dN az (aX vL (aX fH (aX fH (aX rh az az) az) (γ 4)) (Δ bB (γ 3) (iL g9 (iL bB (γ 1) az (λ_ _=>rfl)) az (λ_ _=>rfl)))))) (aL (bG (iL bB (eC (aa (aX dN az (aX dR (aX eG (γ 2) az) az)) (aa (dO (nA rfl) T.max (aa az (aa (γ 5) ay))) (aa (dO (nA rfl) T.max (aa az (aa (aX dN (γ 5) az) ay))) (aa az (aa (aX fH az (aX dR (aX eG (γ 2) az) (aX rh az az))) (aa az ay))))))) (aX dR (γ 2) az) (λ_ _=>rfl))))))),?_⟩;walk_at "s";refine cN λN1 h1=>?_;walk_at "";refine⟨dt,lo,qs,rs,t,m,r,par,dep,rfl,ta,g,R,ho,pa,O,tl,λlw H1 nw s1 ew=>h1 _ _ (cN λN2 h2=>?_)⟩;walk_at "";have ew1:=um g R;have lw0:((cM m rs r par dep).length:Int)=m:=by rw[lS];lia
 refine⟨dt,lo,lw,qs,rs,t,_,m,r,1,par,dep,rfl,ta.same s1,g,R,s1 _ _ ho,pa.same s1,O,⟨r0,r1⟩,ew,lw0,ew1,by decide +kernel,λH2 s2=>h2 _ _ (cN λN3 h3=>?_)⟩;walk_at "";obtain⟨q0,v0,e0,f0,f1,f2⟩:=pa.get (i:=0) (x:=V.ref (qs.headD 0)) (by
  cases qs with
  | nil=>simp at ql
  | cons a l=>rfl)
 cases(show v0=r by simpa using f1.symm);have gE:=s1.trans s2;have wb:=gA g R r0 r1;refine⟨⟨by decide,by decide,by decide⟩,Ε (gE _ _ ho) (cq (by decide) (v:=V.ref q0) (by rw[show(0:Int).toNat=0 from rfl,aF,f0];rfl)) (XI (gE _ _ f2) rfl (Ε (s2 _ _ ew) (lE r0 (by rw[lS];lia)) ⟨_,rfl,?_,h3 _ _ ?_⟩))⟩
 .rw[show(cM m rs r par dep).getD r.toNat 0=υ m rs r par dep r from fL r0 r1];exact⟨by lia,FV (n:=481) (by lia) (by lia) (by decide)⟩
 walk_at "";rw[show(cM m rs r par dep).getD r.toNat 0=υ m rs r par dep r from fL r0 r1,show(10:Int)^Int.toNat 12=1000000000000 by decide];have B:=QV g R r0 r1 (w:=1) (by decide) (by decide);have dv:(1000000000000-1-ϱ m rs r par (cM m rs r par dep) 1)/υ m rs r par dep r<=1000000000000:=by
  by_cases c:0<=1000000000000-1-ϱ m rs r par (cM m rs r par dep) 1
  .exact bE (Int.ediv_le_self _ c) (by lia)
  .exact bE (jD (Int.ediv_neg_of_neg_of_pos (by lia) (by lia))) (by decide)
 generalize (1000000000000-1-ϱ m rs r par (cM m rs r par dep) 1)/υ m rs r par dep r=L at dv ⊢;have e50:(0:Int)<10^Int.toNat 50:=by decide
 have e60:(10:Int)^Int.toNat 50<=10^60:=by decide
 have m0:=cg (cell/8) (jv e50);have m1':=b7 (cell/8) e50;have n0:=cg (cell/8) (show(9:Int)≠0 by decide);have n1:=b7 (cell/8) (show(0:Int)<9 by decide);refine⟨⟨by decide,by decide⟩,by decide,_,_,⟨rfl,rfl⟩,_,_,⟨rfl,rfl⟩,⟨by decide,by decide⟩,⟨by decide,by decide,by decide⟩,e50,bN (by simp),λpl npl=>⟨by decide,?_⟩⟩;have s3:=gE.trans (δ.new (HO.lst [V.int (1+cell/8%9),V.int (if 1+L>1 then 1+L else 1),V.int (if 1+L+1>1 then 1+L+1 else 1),V.int 0,V.int (0-cell/8%10^Int.toNat 50),V.int 1]) npl);have c0:=cg cell (show(6:Int)≠0 by decide);have c1:=b7 cell (show(0:Int)<6 by decide);have key:∀x:Int,[1+cell/8%9,if 1+L>1 then 1+L else 1,if 1+L+1>1 then 1+L+1 else 1,0,0-cell/8%10^Int.toNat 50,1][(cell%6).toNat]?=some x->-(10^60)<=x/\x<=10^60:=λx hx=>by
  rcases ar.mp (aM hx)with rfl|h
  .lia
  rcases ar.mp h with rfl|h
  .split<;>lia
  rcases ar.mp h with rfl|h
  .split<;>lia
  rcases ar.mp h with rfl|h
  .lia
  rcases ar.mp h with rfl|h
  .lia
  rw[aB.mp h]
  lia
 obtain⟨x,hx⟩:∃x,[1+cell/8%9,if 1+L>1 then 1+L else 1,if 1+L+1>1 then 1+L+1 else 1,0,0-cell/8%10^Int.toNat 50,1][(cell%6).toNat]?=some x:=⟨_,ap (show(cell%6).toNat<6 by lia)⟩;have hv:[V.int (1+cell/8%9),V.int (if 1+L>1 then 1+L else 1),V.int (if 1+L+1>1 then 1+L+1 else 1),V.int 0,V.int (0-cell/8%10^Int.toNat 50),V.int 1][(cell%6).toNat]?=some (V.int x):=by
  have:=congrArg (Option.map V.int) hx;rw[<-aF]at this;exact this
 exact Ε ax (cq c0 hv) (k x _ (key x hx).1 (key x hx).2 s3)
def zg(T:Txt K mg):Sp:=λvs H Q _=>∃(c:Int),vs=[.int c]/\∀t,2<=t->t<=1000000->Q (.int t) H
abbrev sj:Stmt:=top 78
theorem HD:ζ ["rest"] ["rest"] (aJ sj):=.of
theorem Ib(T:Txt K mg)(hq:bU (ψ P w)):Ok P w K mg base "_law_toll" sj ["rest"] 1 (zg T):=λ_ _ D=>by
 refine D.F.ϔ HD (by walk_at "v") λς A outer s H vs Q E hr h=>?_;obtain⟨c,rfl,k⟩:=h;refine⟨_,(ao (dz (ό gc (aX dR (γ 0) az) az) (aL (bG (aX dN az (aX dR (aX eG (γ 0) az) az)))) ce) (aL (bG (aX dN az (aX dR (aX eG (γ 0) az) az))))),?_⟩;walk_at "s";walk_at "";have a1:=cg (c/8) (show(999999:Int)≠0 by decide);have a2:=b7 (c/8) (show(0:Int)<999999 by decide);have a3:=cg (c/8) (show(3:Int)≠0 by decide);have a4:=b7 (c/8) (show(0:Int)<3 by decide);refine⟨by decide,?_⟩;by_cases z:c%8=0
 .rw[aj z];exact⟨⟨by decide,by decide⟩,by decide,k _ (by lia) (by lia)⟩
 .rw[ag z];exact⟨⟨by decide,by decide⟩,by decide,k _ (by lia) (by lia)⟩
def BI(T:Txt K mg):Sp:=λvs H Q _=>∃(a:Addr)(ns:List Int),vs=[.ref a]/\H a=some (.lst (ns.map V.int))/\25<=ns.length/\ns.length<=1000/\∀(t l:Addr)(m:Int)(ps:List Addr)(rs:List Road)(H':Hp),H t=none->H l=none->δ H H'->H' t=some (.tup [.int m,.ref l])->H' l=some (.lst (ps.map V.ref))->π H' ps rs->Good m rs->Q (.ref t) H'
abbrev q8:Stmt:=top 79
theorem J0:ζ ["numbers","head","many","names","k","roads","rest","near","there","back","road"] ["numbers"] (aJ q8):=.of
theorem tf:ϗ (aJ q8) "range":=.of (by kernel_rfl)
theorem Jx(T:Txt K mg)(hq:bU (ψ P w))(sv:Cb P w K mg base "_law_toll" sj ["rest"] 1 (zg T)):Ok P w K mg base "_law_web" q8 ["numbers"] 2 (BI T):=λ_ _ D=>by
 refine D.F.ϔ J0 (by walk_at "v") λς A outer s H vs Q E hr h=>?_;obtain⟨a,ns,rfl,ha,n25,n1,k⟩:=h;refine⟨_,(ao (ρ 1 (Δ bB (γ 0) az)) (ao (ρ 2 (aX dN az (aX dR (γ 1) az))) (ao (dz (ό gc (aX dR (aX eG (γ 1) az) az) az) (aL (ρ 2 (aX dN az (aX dR (aX eG (γ 1) az) az)))) ce) (ao (ρ 3 (eC ay)) (ao (eZ PassesOwn.never rfl (kZ tf.g T.range (aa (γ 2) ay)) (Φ 4) (aL (dH (jI PySem.F.plainAttrs_list fU PySem.F.type_list_insert xT (γ 3) (aa (aX dR (Δ bB (γ 0) (aX dN (γ 4) az)) (aX dN (γ 4) az)) (aa (γ 4) ay)))))) (ao (ρ 5 (eC ay)) (ao (eZ PassesOwn.never rfl (Mw tf.g T.range (aa az (aa (γ 2) ay))) (Φ 4) (ao (ρ 6 (aX eG (Δ bB (γ 0) (aX dN (γ 4) az)) (aX dN (γ 4) az))) (ao (ρ 7 (iL bB (eC (aa (aX fH (γ 4) az) (aa az (aa (aX dR (γ 6) (γ 4)) (aa (aX dR (γ 6) (γ 4)) ay))))) (aX dR (aX eG (γ 1) az) az) (λ_ _=>rfl))) (ao (ρ 6 (aX eG (γ 6) (γ 4))) (ao (ρ 8 (Θ sv hr hq (aa (γ 6) ay))) (ao (ρ 9 (Θ sv hr hq (aa (aX eG (γ 6) az) ay))) (ao (dz (ό gc (aX dR (aX eG (γ 1) az) az) az) (aL (ρ 9 (γ 8))) ce) (ao (ρ 6 (aX eG (aX eG (γ 6) az) az)) (ao (ρ 10 (gS (aa (Δ bB (γ 3) (γ 7)) (aa (Δ bB (γ 3) (γ 4)) (aa (γ 8) (aa (γ 9) ay)))))) (ao (dz (ό gc (aX dR (γ 6) az) az) (aL (ρ 10 (gS (aa (Δ bB (γ 3) (γ 4)) (aa (Δ bB (γ 3) (γ 7)) (aa (γ 9) (aa (γ 8) ay))))))) ce) (aL (dH (jI PySem.F.plainAttrs_list fU PySem.F.type_list_insert xT (γ 5) (aa (aX dR (aX eG (γ 6) az) (aX dN (dO gO T.len (aa (γ 5) ay)) az)) (aa (γ 10) ay))))))))))))))) (aL (bG (gS (aa (γ 2) (aa (γ 5) ay)))))))))))),?_⟩;walk_at "s";have em:∀(x n:Int),0<n->0<=x%n/\x%n<n:=λx n h=>⟨cg x (jv h),b7 x h⟩;walk_at "";refine Ε ha (lE (by decide) (by lia)) ?_;generalize ns.getD (0:Int).toNat 0=c;refine⟨_,rfl,by decide,_,rfl,⟨by decide,by decide⟩,by decide,?_⟩;have h1:=em c 7 (by decide);have h2:=em (c/70) 17 (by decide);have h3:=em (c/1190) 4 (by decide);apply RA (8+c/70%17) (1+c%7)
 .generalize 1+c%7=m;intro h;exact h
 .exact λh=>⟨_,rfl,⟨by decide,by decide⟩,by decide,h⟩
 intro m hm;have m1:1<=m:=by lia
 have Ζ:m<=24:=by lia
 clear hm;refine⟨by decide,λla nla=>⟨by lia,by lia,?_⟩⟩;refine sA (λi σ H2=>δ H H2/\(∃row,H2 la=some (.lst (row.map V.int))/\ύ i row)/\∃v,σ=[some (V.ref a),some (V.int c),some (V.int m),some (V.ref la),v,none,none,none,none,none,none]) ⟨δ.new _ nla,⟨[],ax,.nil⟩,_,rfl⟩ ?_ ?_
 .rintro i σ H2 N hN hi ⟨s2,⟨row,e2,L⟩,v,rfl⟩;rw[dq];have ll:=L.len;walk_at "";refine⟨oK e2,Ε (s2 _ _ ha) (lE (by lia) (by lia)) ⟨_,rfl,by lia,?_⟩⟩;have q:=em (ns.getD ((i:Int)+1).toNat 0) ((i:Int)+1) (by lia);generalize ns.getD ((i:Int)+1).toNat 0%((i:Int)+1)=w at q ⊢;refine NT e2 q.1 (by rw[ah];lia) (ff (by rw[ah];lia)) ?_;refine hN _ _ ⟨s2.put nla _,⟨_,?_,L.put w.toNat (by lia)⟩,_,rfl⟩;rw[ax,aD,aH,iq,gF]
 .rintro σ H2 ⟨s2,⟨ls,e2,L⟩,v,rfl⟩;walk_at "";have L':ύ m.toNat ls:=L;have ll:=L'.len;refine⟨by decide,λlo nlo=>⟨1,m,⟨rfl,rfl⟩,⟨by decide,by decide,by lia,by lia⟩,?_⟩⟩;have aft:=s2.free nlo;have nll:la≠lo:=λz=>by rw[<-z,e2]at nlo;cases nlo
  refine sA (λi σ H3=>E9 λ(ps:List Addr)(rs:List Road)(rows:List Row)(v4 v6 v7 v8 v9 v10:Option V)=>σ=[some (V.ref a),some (V.int c),some (V.int m),some (V.ref la),v4,some (V.ref lo),v6,v7,v8,v9,v10]/\δ H H3/\H3 la=some (.lst (ls.map V.int))/\H3 lo=some (.lst (ps.map V.ref))/\π H3 ps rs/\Rows i rows/\Put ls rows rs) ⟨[],[],[],_,_,_,_,_,_,rfl,s2.trans (δ.new _ nlo),δ.new _ nlo _ _ e2,ax,.nil,⟨rfl,λi r h=>by cases h⟩,Put.nil _⟩ ?_ ?_
  .rintro i σ H3 N hN hi ⟨ps,rs,rows,v4,v6,v7,v8,v9,v10,rfl,s3,l3,o3,ro3,R,P⟩;have k0:(1:Int)<=1+(i:Int):=(by lia);have k1:1+(i:Int)<m:=(by lia);generalize hk:(1:Int)+(i:Int)=kk at k0 k1 ⊢;have psl:ps.length=rs.length:=Paired.length ro3;have rl:=R.len;have pl:=P.len;walk_at "";refine Ε (s3 _ _ ha) (lE (by lia) (by lia)) ⟨_,rfl,⟨by lia,by lia⟩,by lia,by lia,bN (by simp),λq1 nq1=>⟨⟨by decide,by decide⟩,by decide,?_⟩⟩;generalize ns.getD (kk+1).toNat 0/(kk+1)=w;have hg:=em w kk (by lia);obtain⟨un,hun,u0,u1⟩:∃un:Int,Ϣ [V.int (kk-1),V.int 0,V.int (w%kk),V.int (w%kk)] (c/1190%4)=some (.int un)/\0<=un/\un<kk:=by
    rcases(show c/1190%4=0\/c/1190%4=1\/c/1190%4=2\/c/1190%4=3 by lia)with z|z|z|z
    .exact⟨_,by rw[z];rfl,by lia,by lia⟩
    .exact⟨_,by rw[z];rfl,by lia,by lia⟩
    .exact⟨_,by rw[z];rfl,hg.1,hg.2⟩
    .exact⟨_,by rw[z];rfl,hg.1,hg.2⟩
   have s4:=δ.new (.lst [.int (kk-1),.int 0,.int (w%kk),.int (w%kk)]) nq1;refine Ε ax hun ?_;generalize upd H3 q1 (.lst [.int (kk-1),.int 0,.int (w%kk),.int (w%kk)])=H4 at s4 ⊢;refine⟨⟨by lia,by lia⟩,_,rfl,λth t0 t1=>⟨⟨by decide,by decide⟩,_,rfl,λbk b0 b1=>⟨⟨by decide,by decide⟩,by decide,?_⟩⟩⟩;have gk:Ϣ (ls.map V.int) kk=some (.int (ls.getD kk.toNat 0)):=cq (by lia) (by rw[aF,sO L' (by lia)];rfl);have gu:Ϣ (ls.map V.int) un=some (.int (ls.getD un.toNat 0)):=cq u0 (by rw[aF,sO L' (by lia)];rfl);have l4:=s4 _ _ l3;generalize w/kk/7999992/7999992=rest;have put:∀(H7:Hp)(q:Addr)(row:Row)(v8 v9:Option V),δ H3 H7->row.k=kk->Zo row->H7 q=some (.tup (pT (m9 ls row)))->tyV K "list" (V.ref lo) H7/\Ur rest 2/\∃x,(μ K H7 lo x\/Η K H7 lo x)/\0<(x.length:Int)+1/\X8 (V.ref lo) [V.int (rest/2%((x.length:Int)+1)),V.ref q] H7 λ_ H8=>N [some (V.ref a),some (V.int c),some (V.int m),some (V.ref la),some (V.int kk),some (V.ref lo),some (V.int rest),some (V.int un),v8,v9,some (V.ref q)] H8:=by
    intro H7 q row v8 v9 s7 rk rok hq;have o7:=s7 _ _ o3;have pe:=em (rest/2) (((ps.map V.ref).length:Int)+1) (by lia);refine⟨oK o7,⟨by decide,by decide⟩,ps.map V.ref,.inl (μ.of o7),by lia,NT o7 pe.1 (by lia) (ff (by rw[ah];lia)) ?_⟩;generalize (rest/2%(((ps.map V.ref).length:Int)+1)).toNat=n;have keep:∀{zs:List V}{q:Addr}{r':Road},H7 q=some (.tup (pT r'))->upd H7 lo (.lst zs) q=some (.tup (pT r')):=λ{zs q r'} h=>by rw[aO (hW h o7 (by intro z;cases z))];exact h
    refine hN _ _ ⟨ps.take n++q::ps.drop n,rs.take n++m9 ls row::rs.drop n,rows++[row],_,_,_,_,_,_,rfl,(s3.trans s7).put aft _,by rw[aO nll];exact s7 _ _ l3,by rw[ax,aD,aH,iq,gF],?_,MA R (by lia) rok,P.step row n⟩;exact U1 n (Paired.imp' (λp r h=>keep h) (π.same s7 ro3)) (keep hq)
   have okR:∀(x y z:Int),2<=x->x<=1000000->2<=y->y<=1000000->Zo ⟨kk,un,x,y,z,0⟩:=λx y z a b c d=>⟨u0,u1,a,b,c,d,bA _,by show(0:Int)<kk;lia⟩;have e1:∀x y:Int,pT (m9 ls ⟨kk,un,x,y,1,0⟩)=[V.int (ls.getD un.toNat 0),V.int (ls.getD kk.toNat 0),V.int x,V.int y]:=λx y=>by unfold m9;rw[aj rfl];rfl
   have e2':∀x y:Int,pT (m9 ls ⟨kk,un,x,y,0,0⟩)=[V.int (ls.getD kk.toNat 0),V.int (ls.getD un.toNat 0),V.int x,V.int y]:=λx y=>by unfold m9;rw[ag (show ¬(0:Int)=1 by decide)];rfl
   by_cases y1:c/4760%3=0
   .rw[aj y1];refine⟨⟨by decide,by decide⟩,⟨by decide,by decide⟩,Ε l4 gu (Ε l4 gk ⟨bN (by simp),λq2 nq2=>⟨by decide,?_⟩⟩)⟩;have s5:=s4.trans (δ.new (.tup [V.int (ls.getD un.toNat 0),V.int (ls.getD kk.toNat 0),V.int th,V.int th]) nq2);have l5:=s5 _ _ l3;by_cases y2:rest%2=1
    .rw[aj y2];exact Ε l5 gk (Ε l5 gu ⟨bN (by simp),λq3 nq3=>put _ q3 ⟨kk,un,th,th,0,0⟩ _ _ (s5.trans (δ.new _ nq3)) rfl (okR _ _ _ t0 t1 t0 t1) (by rw[ax,e2'])⟩)
    .rw[ag y2];exact put _ q2 ⟨kk,un,th,th,1,0⟩ _ _ s5 rfl (okR _ _ _ t0 t1 t0 t1) (by rw[ax,e1])
   .rw[ag y1];refine⟨⟨by decide,by decide⟩,⟨by decide,by decide⟩,Ε l4 gu (Ε l4 gk ⟨bN (by simp),λq2 nq2=>⟨by decide,?_⟩⟩)⟩;have s5:=s4.trans (δ.new (.tup [V.int (ls.getD un.toNat 0),V.int (ls.getD kk.toNat 0),V.int th,V.int bk]) nq2);have l5:=s5 _ _ l3;by_cases y2:rest%2=1
    .rw[aj y2];exact Ε l5 gk (Ε l5 gu ⟨bN (by simp),λq3 nq3=>put _ q3 ⟨kk,un,bk,th,0,0⟩ _ _ (s5.trans (δ.new _ nq3)) rfl (okR _ _ _ b0 b1 t0 t1) (by rw[ax,e2'])⟩)
    .rw[ag y2];exact put _ q2 ⟨kk,un,th,bk,1,0⟩ _ _ s5 rfl (okR _ _ _ t0 t1 b0 b1) (by rw[ax,e1])
  .rintro σ H3 ⟨ps,rs,rows,v4,v6,v7,v8,v9,v10,rfl,s3,l3,o3,ro3,R,P⟩;have g:=RH (n:=m.toNat) (by lia) (by lia) L' (by rw[show m.toNat-1=(m-1).toNat by lia];exact R) P;rw[bH (by lia)]at g;walk_at "";refine⟨bN (by simp),λt nt=>?_⟩;have s5:=δ.new (.tup [.int m,.ref lo]) nt;exact k t lo m ps rs _ (s3.free nt) aft (s3.trans s5) ax (s5 _ _ o3) (π.same s5 ro3) g
theorem Hq{m r w B:Int}{rs:List Road}{par:Int->Int}{dep:Int->Nat}{xs:List Int}{pk:Int}{i:Nat}(xl:(xs.length:Int)=m)(il:i<xs.length)(sm:xs.sum=B)(gt:Ϛ m rs r par dep (λv=>xs.getD v.toNat 0) (Ϗ rs par) r<w)(fi:dZ m (uK xs pk i)=true):(¬(pk=1\/pk=2\/pk=3\/pk=4))↔(uK xs pk i).sum=B/\Ϛ m rs r par dep (λv=>(uK xs pk i).getD v.toNat 0) (Ϗ rs par) r<w:=by
 have fl:=JJ fi;have fn:=Dw fi;unfold uK at fl fn ⊢;by_cases c1:pk=1
 .rw[aj c1,Im _ _ _ il];exact⟨λz=>absurd (.inl c1) z,λz=>by have:=z.1;lia⟩
 rw[ag c1]at fl fn ⊢;by_cases c2:pk=2
 .rw[aj c2,kq il]at fl
  lia
 rw[ag c2]at fl fn ⊢;by_cases c3:pk=3
 .rw[aj c3,aP,aE,bd,dj]at fl
  lia
 rw[ag c3]at fl fn ⊢;by_cases c4:pk=4
 .rw[aj c4]at fn;have:=fn (-1) (List.mem_iff_getElem?.mpr ⟨i,by rw[dP il]⟩)
  lia
 rw[ag c4];exact⟨λ_=>⟨sm,gt⟩,λ_=>by lia⟩
theorem Oz{xs:List Int}{pk:Int}{i:Nat}(il:i<xs.length):(uK xs pk i).length<=xs.length+1:=by
 unfold uK;split
 .rw[cP];lia
 split
 .rw[kq il];lia
 split
 .rw[aP,aE,bd,dj];lia
 split
 .rw[cP];lia
 .lia
def Ez(K:PySem.W.Frag):Sp:=λvs H Q _=>∃(a:Addr)(ns:List Int),vs=[.ref a]/\μ K H a (ns.map V.int)/\ns.length<=63/\∀H',Q (.bl true) H'
def Vk(T:Txt K mg):Sp:=Ez K
abbrev oQ:Stmt:=top 90
theorem Sk:ζ ["script","numbers","many","roads","tolls","r","order","web","cells","cell","wanted","need","count","pick","laying","far","number","place","case","call","due"] ["script"] (aJ oQ):=.of
theorem Bs:ϗ (aJ oQ) "Web":=.of (by kernel_rfl)
theorem EN:ϗ (aJ oQ) "range":=.of (by kernel_rfl)
theorem RU(T:Txt K mg)(hq:bU (ψ P w)){f:Addr}{fd:FuncData}(D:Df K mg "law" oQ ["script"] f fd){ξ:Addr}{qb:FuncData}(nW:Y8 K "__init__" "Web.__init__" iY ξ qb)(K6:Binds K qb ["self","many","roads"] [])(KL:Mk K T.Web ξ)(aS:Ω P w K mg base (ψ P w) 3 ξ qb ["self","many","roads"] (pS T))(mW:Cb P w K mg base "_law_bound" oJ ["tolls","order","weights","wanted"] 1 (sR T))(mz:Cb P w K mg base "_law_cell" pC ["script","k"] 1 (uC T))(wn:Cb P w K mg base "_law_down" my ["many","tolls","r"] 1 (yN T))(xI:Cb P w K mg base "_law_due" rB ["pick","many","case","need","count","good"] 1 (AQ T))(ji:Cb P w K mg base "_law_least" lm ["tolls","order"] 1 (pD T))(rO:Cb P w K mg base "_law_numbers" mP ["script","many"] 2 (vf T))(rK:Cb P w K mg base "_law_refusal" jO ["pick","web","case"] 13 (vx T))(tN:Cb P w K mg base "_law_spoilt" p9 ["laying","pick","at"] 1 (wI T))(sS:Cb P w K mg base "_law_spread" ju ["tolls","order","wanted","cell"] 2 (wD T))(p8:Cb P w K mg base "_law_to_twelve" m5 ["numbers"] 1 (sQ T))(uI:Cb P w K mg base "_law_tolls" qU ["roads"] 1 (wZ T))(uH:Cb P w K mg base "_law_wants" qP ["tolls","order","cell"] 2 (xS T))(xw:Cb P w K mg base "_law_web" q8 ["numbers"] 2 (BI T))(lV:Cb P w K mg base "worst_many" lQ ["web","r","wanted"] 12 (rH T)):Ω P w K mg base (ψ P w) 14 f fd ["script"] (Vk T):=by
 refine D.F.ϔ Sk (by walk_at "v") λς A outer s H vs Q E hr h=>?_;obtain⟨a,ns,rfl,ha,hn,k⟩:=h;have hv:=hr.units;have hu:=oS hr;refine⟨_,(ao (ρ 1 (Θ p8 hr hq (aa (Θ rO hr hq (aa (γ 0) (aa az ay))) ay))) (ao (jW (Θ xw hr hq (aa (γ 1) ay)) (jo (n:=2) rfl (bW (Φ 2) (bW (Φ 3) gK)))) (ao (ρ 4 (Θ uI hr hq (aa (γ 3) ay))) (ao (ρ 5 (aX dR (Δ bB (γ 1) az) (γ 2))) (ao (ρ 6 (Θ wn hr hq (aa (γ 2) (aa (γ 4) (aa (γ 5) ay))))) (ao (ρ 7 (yo KL aS (hr.mono (by decide)) Bs.g T.VC K6 .nil (yf hq) (aa (γ 2) (aa (pct nP T.list (aa (γ 3) ay)) ay)) (hdb:=Bs.d))) (ao (ρ 8 (aX Mm (eC (aa az ay)) (vW yd (γ 0) (vA az) (vA az)))) (ao (dz (ό ED (γ 2) az) (aL (ρ 8 (eC (aa (Θ mz hr hq (aa (γ 0) (aa az ay))) ay)))) ce) (ao (eZ PassesOwn.never rfl (hG (γ 8)) (Φ 9) (ao (ρ 10 (Θ uH hr hq (aa (γ 4) (aa (γ 6) (aa (γ 9) ay))))) (ao (ρ 11 (aX dN (Θ mW hr hq (aa (γ 4) (aa (γ 6) (aa (Θ ji hr hq (aa (γ 4) (aa (γ 6) ay))) (aa (dO (nA rfl) T.max (aa az (aa (γ 10) ay))) ay))))) az)) (ao (ρ 12 (Θ lV hr hq (aa (γ 7) (aa (γ 5) (aa (dO (nA rfl) T.max (aa az (aa (γ 10) ay))) ay))))) (ao (ρ 13 (aX dR (aX eG (γ 9) az) az)) (ao (ρ 14 (iL g9 (Θ sS hr hq (aa (γ 4) (aa (γ 6) (aa (dO (nA rfl) T.max (aa az (aa (γ 10) ay))) (aa (aX eG (γ 9) az) ay))))) az (λ_ _=>rfl))) (ao (ρ 14 (Θ tN hr hq (aa (γ 14) (aa (γ 13) (aa (aX dR (aX eG (γ 9) az) (γ 2)) ay))))) (ao (ρ 15 (aX dR (aX eG (γ 9) az) (aX fH (aX rh az az) az))) (ao (ρ 16 (iL bB (eC (aa az (aa (aX fH (γ 12) az) (aa (γ 12) (aa (qM oB az) (aa (γ 15) (aa (aX fH (qM oB az) (γ 15)) ay))))))) (aX dR (aX eG (γ 9) az) az) (λ_ _=>rfl))) (ao (ρ 17 (iL bB (eC (aa (γ 5) (aa (γ 5) (aa (γ 5) (aa (qM oB az) (aa (γ 2) (aa (aX dN (γ 2) (aX dR (γ 15) (aX rh az az))) (aa (aX fH (qM oB az) (aX dR (γ 15) (aX rh az az))) ay)))))))) (aX dR (aX eG (γ 9) az) az) (λ_ _=>rfl))) (ao (ρ 18 (gS (aa (γ 17) (aa (γ 10) (aa (pct nP T.list (aa (γ 14) ay)) (aa (γ 16) ay)))))) (ao (eZ PassesOwn.never rfl (kZ EN.g T.range (aa az ay)) (Φ 19) (ao (ρ 20 (Θ xI hr hq (aa (γ 19) (aa (γ 2) (aa (γ 18) (aa (γ 11) (aa (γ 12) (aa (qJ GH (γ 13) (gS (aa az (aa az (aa az (aa az ay))))) (by with_unfolding_all rfl)) ay)))))))) (aL (dz (sK sG (Θ rK hr hq (aa (γ 19) (aa (γ 7) (aa (γ 18) ay)))) (γ 20) (oC _)) (aL (bG vO)) ce)))) (aL (dz (ό (To hv) (Δ g9 (γ 18) az) (γ 14)) (aL (bG vO)) ce)))))))))))))) (aL (bG vO))))))))))),?_⟩;walk_at "s";unfold tSl Bf;refine cN λN1 h1=>?_;walk_at "";refine⟨a,ns,30,rfl,ha,by decide,by decide,λln nu H1 n1 s1 en nul=>?_⟩;obtain⟨n0,nu,rfl⟩:∃n0 nu',nu=n0::nu':=by
  cases nu with
  | nil=>simp at nul
  | cons x y=>exact⟨x,y,rfl⟩
 rw[aE]at nul;refine⟨ln,n0,nu,rfl,en,by lia,λln2 H1' n0' n1' s1' en'=>h1 _ _ (cN λN2 h2=>?_)⟩;have s1:=s1.trans s1';walk_at "";refine⟨ln2,n0'::nu,rfl,en',by rw[aE];lia,by rw[aE];lia,λt l m ps rs H2 nt nl s2 et el ro g=>?_⟩;have m1:=g.m1;have Ζ:=g.Ζ;have gE:=s1.trans s2;refine⟨t,rfl,_,Η.of et,rfl,_,_,rfl,_,_,rfl,rfl,h2 _ _ (cN λN3 h3=>?_)⟩;walk_at "";refine⟨l,ps,m,rs,rfl,el,ro,g,λd H3 nd s3 ta=>h3 _ _ (cN λN4 h4=>?_)⟩;have s23:=s2.trans s3;have Yl:=gE.trans s3;walk_at "";refine Ε (s23 _ _ en') (lE (by decide) (by rw[aE];lia)) ⟨_,rfl,by lia,?_⟩;have r0:=cg ((n0'::nu).getD (25:Int).toNat 0) (show m≠0 by lia);have r1:=b7 ((n0'::nu).getD (25:Int).toNat 0) (show 0<m by lia);generalize (n0'::nu).getD (25:Int).toNat 0%m=r at r0 r1 ⊢;obtain⟨par,dep,R⟩:=BZ g r0 r1;refine h4 _ _ (cN λN5 h5=>?_);walk_at "";refine⟨d,rs,m,r,rfl,ta,g,⟨r0,r1⟩,par,dep,R,λlo qs tl H4 no s4 eo pa O=>h5 _ _ (cN λN6 h6=>?_)⟩;have Zh:=Yl.trans s4;have ta4:=ta.same s4;have tl1:=O.YK r0 r1;have el4:=(s3.trans s4) _ _ el;have ro4:=π.same (s3.trans s4) ro;clear h1 h2 h3 h4 h5 gE Yl s23 s2 s3 s4 s1 s1' en en' et el ro;walk_at "";refine⟨_,.inl (μ.of el4),λq nq=>?_⟩;have s8:=δ.new (.lst (ps.map V.ref)) nq;refine UH T (c:=true) (μ.of ax) (π.same s8 ro4) g λx tw H8 hx htw s9 W=>h6 _ _ (cN λN9 h9=>?_);have s79:=s8.trans s9;have s18:=Zh.trans s79;have ta8:=ta4.same s79;have eo8:=s79 _ _ eo;have pa8:=ω.same s79 pa;clear h6 Zh s8 s9 s79 ta4 eo pa el4 ro4 nq hx htw;walk_at "";have W8:=W;refine⟨bN (by simp),λp0 np0=>?_⟩;have u0:=δ.new (.lst [V.int 0]) np0;have e0:upd H8 p0 (.lst [V.int 0]) p0=some (.lst [V.int 0]):=ax;generalize upd H8 p0 (.lst [V.int 0])=H9 at u0 e0 ⊢;refine⟨a,_,rfl,δ.seq (s18.trans u0) ha,λp2 np2=>?_⟩;rw[zH];have u2:=δ.new (.lst ((nL ns (some 2) (some 10)).map V.int)) np2;have cl:(nL ns (some 2) (some 10)).length<=63:=aU (Qt _ _ _) hn;refine⟨p0,p2,_,_,rfl,rfl,u2 _ _ e0,ax,bN (by simp;lia),λlc nlc=>h9 _ _ (cN λN10 h10=>?_)⟩;have u3:=u0.trans (u2.trans (δ.new (.lst ([V.int 0]++(nL ns (some 2) (some 10)).map V.int)) nlc));have ec:upd (upd H9 p2 (.lst ((nL ns (some 2) (some 10)).map V.int))) lc (.lst ([V.int 0]++(nL ns (some 2) (some 10)).map V.int)) lc=some (.lst (((0:Int)::nL ns (some 2) (some 10)).map V.int)):=ax;generalize upd (upd H9 p2 (.lst ((nL ns (some 2) (some 10)).map V.int))) lc (.lst ([V.int 0]++(nL ns (some 2) (some 10)).map V.int))=H10 at u3 ec ⊢;generalize (0:Int)::nL ns (some 2) (some 10)=cs at ec ⊢;clear h9 u2 nlc np2 np0 e0 u0 cl;have loop:∀(lc:Addr)(cs:List Int)(H9:Hp),δ H8 H9->H9 lc=some (.lst (cs.map V.int))->N10 [some (V.ref a),some (V.ref ln2),some (V.int m),some (V.ref l),some (V.ref d),some (V.int r),some (V.ref lo),some (V.ref x),some (V.ref lc),none,none,none,none,none,none,none,none,none,none,none,none] H9:=by
  intro lc cs H9 s9 ec;have ta9:=ta8.same s9;have eo9:=s9 _ _ eo8;have pa9:=ω.same s9 pa8;have W9:=W8.same s9;clear ta8 eo8 pa8 W8 W;refine h10 _ _ (cN λN11 h11=>?_);walk_at "";refine⟨⟨_,μ.of ec⟩,?_⟩;refine mh (K:=K) (xs:=cs.map V.int) (λi σ H11=>δ H9 H11/\E12 λ(v9 v10 v11 v12 v13 v14 v15 v16 v17 v18 v19 v20:Option V)=>σ=[some (V.ref a),some (V.ref ln2),some (V.int m),some (V.ref l),some (V.ref d),some (V.int r),some (V.ref lo),some (V.ref x),some (V.ref lc),v9,v10,v11,v12,v13,v14,v15,v16,v17,v18,v19,v20]) ⟨δ.refl _,_,_,_,_,_,_,_,_,_,_,_,_,rfl⟩ (λi σ H11 _ z=>μ.of (z.1 _ _ ec)) ?_ ?_
  .rintro i y σ H11 N BB Ϩ hN hy ⟨s11,v9,v10,v11,v12,v13,v14,v15,v16,v17,v18,v19,v20,rfl⟩;obtain⟨c,hc,rfl⟩:=List.ι hy;have aay:=ta9.same s11;have aaz:=s11 _ _ eo9;have aaA:=ω.same s11 pa9;have W11:=W9.same s11;clear ta9 eo9 pa9 W9;refine Ϩ _ _ (cN λM1 k1=>?_);walk_at "";refine⟨d,lo,qs,rs,tl,m,r,c,par,dep,rfl,aay,g,R,aaz,aaA,O,tl1,⟨r0,r1⟩,λw H12 w1 w2 gE=>k1 _ _ (cN λM2 k2=>?_)⟩;walk_at "";have e16:(10:Int)^60<2^201:=(by decide);obtain⟨wm,ewm⟩:∃wm,(if w>1 then w else 1)=wm:=⟨_,rfl⟩;have wm1:1<=wm:=(by rw[<-ewm];split<;>lia);have wm2:wm<=10^60:=(by rw[<-ewm];split<;>lia);have wmw:1<=w->wm=w:=λh=>by rw[<-ewm];split<;>lia
   have wb:(wm-1).natAbs<2^4000:=aW (show(wm-1).natAbs<2^201 by lia) (bF (by decide) (by decide));refine⟨d,lo,qs,rs,tl,m,r,par,dep,rfl,aay.same gE,g,R,gE _ _ aaz,ω.same gE aaA,O,tl1,λlw H13 nw Yl ew=>⟨1,w,⟨rfl,rfl⟩,?_⟩⟩;have Yl:=gE.trans Yl;rw[ewm];refine⟨d,lo,lw,qs,rs,tl,cM m rs r par dep,m,r,wm,par,dep,rfl,aay.same Yl,g,R,Yl _ _ aaz,ω.same Yl aaA,O,⟨r0,r1⟩,ew,by rw[show(cM m rs r par dep).length=m.toNat from lS];lia,um g R,wb,λH14 Zh=>⟨_,rfl,k2 _ _ (cN λM3 k3=>?_)⟩⟩;have Zh:=Yl.trans Zh;have afw:=aay.same Zh;have afx:=Zh _ _ aaz;have afy:=ω.same Zh aaA;have W14:=W11.same Zh;have t14:=s11.trans Zh;clear ew nw gE Yl Zh aay aaz aaA W11 k1 k2 s11;walk_at "";refine⟨1,w,⟨rfl,rfl⟩,?_⟩;rw[ewm];refine⟨x,tw,m,ps,rs,r,wm,rfl,W14,wm2,λ_ _ _=>⟨par,dep,R,λtr H15 Or et s15=>k3 _ _ (cN λM4 k4=>?_)⟩,λz=>absurd ⟨r0,r1⟩ z,λ_ _ z=>absurd z (by lia)⟩;walk_at "";refine⟨⟨by decide,by decide⟩,by decide,k4 _ _ (cN λM5 k5=>?_)⟩;walk_at "";refine⟨1,w,⟨rfl,rfl⟩,⟨by decide,by decide⟩,?_⟩;rw[ewm];refine⟨d,lo,qs,rs,tl,m,r,wm,_,par,dep,rfl,afw.same s15,g,R,s15 _ _ afx,ω.same s15 afy,O,tl1,⟨r0,r1⟩,wm1,wm2,λtq la ld xs ys H16 na s16 et' ea xl x0 sp=>XI et' rfl (k5 _ _ (cN λM6 k6=>?_))⟩;have s16:=s15.trans s16;have W16:=W14.same s16;have t16:=t14.trans s16;obtain⟨gv,Sp,hly⟩:=sp;have afB:xs.sum=ϱ m rs r par (cM m rs r par dep) wm:=by
    rw[<-MU (show xs.length=m.toNat by lia)];exact Sp.total g R hly r0 r1 et Or
   have afC:Ϛ m rs r par dep (λv=>xs.getD v.toNat 0) (Ϗ rs par) r<wm:=by
    rw[Sp.Ϛ g R hly _ r rfl r0 r1,Sp.rt]
    lia
   clear k3 k4 k5 s15 s16 afw afx afy W14 t14 et' na Sp hly x0;have b0:=cg (c/42) (show m≠0 by lia);have b1:=b7 (c/42) (show 0<m by lia);walk_at "";refine⟨⟨by decide,by decide⟩,by lia,?_⟩;obtain⟨at_,eat⟩:∃n:Nat,c/42%m=n:=⟨(c/42%m).toNat,by lia⟩;rw[eat];refine⟨la,xs,_,at_,rfl,ea,by lia,by lia,λlp H17 np s17 ep=>k6 _ _ (cN λM7 k7=>?_)⟩;have il:at_<xs.length:=(by lia);have sl:=Oz (pk:=c/6%7) il;have sg:=λfi=>Hq (B:=ϱ m rs r par (cM m rs r par dep) wm) (rs:=rs) (r:=r) (w:=wm) (par:=par) (dep:=dep) (pk:=c/6%7) xl il afB afC fi;generalize uK xs (c/6%7) at_=zs at ep sl sg;have W17:=W16.same s17;have t17:=t16.trans s17;clear k6 W16 t16 s17 ea afB afC;walk_at "";have f0:=cg (c/42) (show(10:Int)^Int.toNat 60-1≠0 by decide);refine⟨⟨by decide,by decide⟩,⟨by decide,by decide,by decide⟩,by decide,k7 _ _ (cN λM8 k8=>?_)⟩;generalize c/42%(10^Int.toNat 60-1)=far at f0 ⊢;generalize adw:XE m rs r par dep tr r (wm-1).toNat=count;generalize afD:ϱ m rs r par (cM m rs r par dep) wm+1=need;generalize hpk:c/6%7=pk at sg ⊢;clear k7;walk_at "";refine⟨bN (by simp),λp3 np3=>⟨⟨by decide,by decide⟩,by decide,?_⟩⟩;have a0:=cg (c/42) (show(6:Int)≠0 by decide);have a1:=b7 (c/42) (show(0:Int)<6 by decide);obtain⟨num,afE⟩:∃num,[V.int 0,V.int (count-1),V.int count,V.int (-1),V.int far,V.int (-1-far)][(c/42%6).toNat]?=some (V.int num):=by
    have h6:(c/42%6).toNat<6:=(by lia)
    match (c/42%6).toNat,h6 with
    | 0,_=>exact⟨_,rfl⟩
    | 1,_=>exact⟨_,rfl⟩
    | 2,_=>exact⟨_,rfl⟩
    | 3,_=>exact⟨_,rfl⟩
    | 4,_=>exact⟨_,rfl⟩
    | 5,_=>exact⟨_,rfl⟩
   refine Ε ax (cq a0 afE) (k8 _ _ (cN λM9 k9=>?_));have aaB:=δ.new (.lst [V.int 0,V.int (count-1),V.int count,V.int (-1),V.int far,V.int (-1-far)]) np3;generalize upd H17 p3 (.lst [V.int 0,V.int (count-1),V.int count,V.int (-1),V.int far,V.int (-1-far)])=H18 at aaB ⊢;have W18:=W17.same aaB;have t18:=t17.trans aaB;have afF:=aaB _ _ ep;clear k8 aaB W17 t17 ep afE a0 a1 np3;walk_at "";have e50:(0:Int)<10^Int.toNat 50:=(by decide);have g0:=cg far (jv e50);have c50:NQ 10 50:=⟨by decide,by decide,by decide⟩;generalize far%10^Int.toNat 50=fa at g0 ⊢;refine⟨c50,e50,c50,e50,bN (by simp),λp3 np3=>⟨⟨by decide,by decide⟩,by decide,?_⟩⟩;have a0:=cg (c/252) (show(7:Int)≠0 by decide);have a1:=b7 (c/252) (show(0:Int)<7 by decide);obtain⟨pl,ϡ,plr⟩:∃pl,[V.int r,V.int r,V.int r,V.int (-1),V.int m,V.int (m+fa),V.int (-1-fa)][(c/252%7).toNat]?=some (V.int pl)/\(0<=pl->pl<m->pl=r):=by
    have h6:(c/252%7).toNat<7:=(by lia)
    match (c/252%7).toNat,h6 with
    | 0,_=>exact⟨_,rfl,λ_ _=>rfl⟩
    | 1,_=>exact⟨_,rfl,λ_ _=>rfl⟩
    | 2,_=>exact⟨_,rfl,λ_ _=>rfl⟩
    | 3,_=>exact⟨_,rfl,λ_ _=>by lia⟩
    | 4,_=>exact⟨_,rfl,λ_ _=>by lia⟩
    | 5,_=>exact⟨_,rfl,λ_ _=>by lia⟩
    | 6,_=>exact⟨_,rfl,λ_ _=>by lia⟩
   refine Ε ax (cq a0 ϡ) (k9 _ _ (cN λM10 k10=>?_));have s19:=δ.new (.lst [V.int r,V.int r,V.int r,V.int (-1),V.int m,V.int (m+fa),V.int (-1-fa)]) np3;generalize upd H18 p3 (.lst [V.int r,V.int r,V.int r,V.int (-1),V.int m,V.int (m+fa),V.int (-1-fa)])=H19 at s19 ⊢;have W19:=W18.same s19;have t19:=t18.trans s19;have adx:=s19 _ _ afF;clear k9 s19 W18 t18 afF ϡ a0 a1 np3 c50 e50;walk_at "";refine⟨_,.inl (μ.of adx),λlh nlh=>⟨bN (by simp),λpc XC=>k10 _ _ (cN λM11 k11=>?_)⟩⟩;have u20:=δ.new (.lst (zs.map V.int)) nlh;have e20:upd H19 lh (.lst (zs.map V.int)) lh=some (.lst (zs.map V.int)):=ax;generalize upd H19 lh (.lst (zs.map V.int))=H20 at u20 e20 XC ⊢;have u21:=u20.trans (δ.new (HO.tup [V.int pl,V.int w,V.ref lh,V.int num]) XC);have eh:=δ.new (HO.tup [V.int pl,V.int w,V.ref lh,V.int num]) XC _ _ e20;have eq:upd H20 pc (HO.tup [V.int pl,V.int w,V.ref lh,V.int num]) pc=some (.tup [V.int pl,V.int w,V.ref lh,V.int num]):=ax;generalize upd H20 pc (HO.tup [V.int pl,V.int w,V.ref lh,V.int num])=H21 at u21 eh eq ⊢;have W21:=W19.same u21;have t21:=t19.trans u21;have akP:=u21 _ _ adx;clear k10 W19 t19 u20 u21 e20 adx XC nlh;walk_at "";refine⟨by decide,by decide,?_⟩;have z25:zs.length<=1000:=(by lia);refine Bx (lo:=0) (n:=Int.toNat 4) (λi σ H22=>δ H21 H22/\∃v19 v20:Option V,σ=[some (V.ref a),some (V.ref ln2),some (V.int m),some (V.ref l),some (V.ref d),some (V.int r),some (V.ref lo),some (V.ref x),some (V.ref lc),some (V.int c),some (V.int w),some (V.int need),some (V.int count),some (V.int pk),some (V.ref lp),some (V.int far),some (V.int num),some (V.int pl),some (V.ref pc),v19,v20]) ⟨δ.refl _,_,_,rfl⟩ ?_ ?_
   .rintro i σ H22 N' CC hCC hN' hi ⟨s22,akQ,akR,rfl⟩;have hi4:i<4:=hi;refine hCC _ _ ?_;rw[dq];refine cN λP1 j1=>?_;walk_at "";refine⟨bN (by simp),λp5 np5=>?_⟩;have u23:=s22.trans (δ.new (HO.tup [V.int 1,V.int 2,V.int 3,V.int 4]) np5);have e5:upd H22 p5 (HO.tup [V.int 1,V.int 2,V.int 3,V.int 4]) p5=some (.tup [V.int 1,V.int 2,V.int 3,V.int 4]):=ax;generalize upd H22 p5 (HO.tup [V.int 1,V.int 2,V.int 3,V.int 4])=H23 at u23 e5 ⊢;refine⟨p5,_,rfl,.inr (Η.of e5),rfl,ut [1,2,3,4],?_⟩;have hgd:(if true=true then !inV (V.int pk) [V.int 1,V.int 2,V.int 3,V.int 4]else inV (V.int pk) [V.int 1,V.int 2,V.int 3,V.int 4])=decide (¬(pk=1\/pk=2\/pk=3\/pk=4)):=by
     rw[aj rfl,show inV (V.int pk) [V.int 1,V.int 2,V.int 3,V.int 4]=decide (pk=1\/pk=2\/pk=3\/pk=4)from(sY pk [1,2,3,4]).trans (by simp),decide_not]
    rw[hgd];generalize hgo:decide (¬(pk=1\/pk=2\/pk=3\/pk=4))=good;refine⟨pc,lh,m,zs,_,pl,w,num,need,count,good,dZ m zs,rfl,u23 _ _ eq,u23 _ _ eh,m1,rfl,λH24 s24=>j1 _ _ ?_⟩;have u24:=u23.trans s24;walk_at "";refine⟨x,lh,pc,tw,m,ps,rs,zs,_,pl,w,num,need,count,good,rfl,W21.same u24,u24 _ _ eq,u24 _ _ eh,z25,w2,w1,⟨by lia,by lia⟩,λq0 q1 q2=>?_,λH25 s25=>⟨rfl,?_⟩⟩
    .cases plr q0 q1;cases wmw q2;refine⟨par,dep,R,afD.symm,λtl' O' et'=>?_,λfi=>?_⟩
     .rw[et]at et';cases et';exact adw.symm
     .rw[<-hgo,decide_eq_true_iff];exact sg fi
    .rw[ag (λz=>z rfl)];exact hN' _ _ ⟨u24.trans s25,_,_,rfl⟩
   .rintro CC σ H22 hCC ⟨s22,akQ,akR,rfl⟩;refine hCC _ _ (k11 _ _ ?_);walk_at "";refine XI (s22 _ _ eq) rfl (O1 (s22 _ _ eh) (s22 _ _ akP) ⟨_,rfl,?_⟩);rw[ag (by simp)];exact hN _ _ ⟨t21.trans s22,_,_,_,_,_,_,_,_,_,_,_,_,rfl⟩
  .rintro BB σ H11 Ϩ ⟨s11,v9,v10,v11,v12,v13,v14,v15,v16,v17,v18,v19,v20,rfl⟩;refine Ϩ _ _ (h11 _ _ ?_);walk_at "";exact k _
 walk_at "";by_cases c7:7<m
 .rw[aj c7];refine⟨a,ns,2,rfl,δ.seq (s18.trans u3) ha,by decide,λcc=>⟨bN (by simp),λp1 np1=>loop p1 [cc] _ (u3.trans (δ.new _ np1)) ax⟩⟩
 .rw[ag c7];exact loop lc cs H10 u3 ec
end
theorem Xm:bU CX0:=λ_ _ _ _ _ h=>h
structure FI(K:PySem.W.Frag)(x:Str)(st:Stmt)(f:Addr)(fd:FuncData):Prop where
 a:PySem.W.nsIn K mainGlobals x=some (some (.ref f))
 F:Y8 K x x st f fd
theorem fi{K:PySem.W.Frag}{x:Str}{st:Stmt}{f:Addr}{oc:Value}{od an:Option Addr}{osl:Array (Option Value)}{kV doc pm ς ct:Value}(a:PySem.W.nsIn K mainGlobals x=some (some (.ref f)):=by k_is)(l:K.lookup f=some ⟨oc,od,.func (PySem.W.fnOf x x (iA st) (gM st) (aJ st) .none kV doc pm an ς ct),osl⟩:=by k_is)(c:PySem.W.codeIn K ς x=true:=by k_is)(k:PySem.W.keepIn K (.ref f)=true:=by k_is):FI K x st f (PySem.W.fnOf x x (iA st) (gM st) (aJ st) .none kV doc pm an ς ct):=⟨a,Bk (st:=st) l c k⟩
theorem FI.df1{K:PySem.W.Frag}{h:Heap}{mg:Str->Option Value}{x:Str}{st:Stmt}{f:Addr}{fd:FuncData}(y:FI K x st f fd)(X:K.In h)(G:h.Ns mainGlobals mg)(ps:List Str)(hl:ps.length=1:=by rfl)(hb:∀(kV doc pm:Value) (an:Option Addr) (ς ct u0:Value),bindArgs (PySem.W.fnOf x x (iA st) (gM st) (aJ st) .none kV doc pm an ς ct) ⟨[u0],[]⟩=pure (ps.zip [u0]):=by intros;rfl):Df K mg x st ps f fd:=⟨y.F,br X G y.a,y.F.binds λa b c d e g us z=>by obtain⟨u0,rfl⟩:=us1 (z.trans hl);exact hb a b c d e g u0⟩
theorem FI.XF{K:PySem.W.Frag}{h:Heap}{mg:Str->Option Value}{x:Str}{st:Stmt}{f:Addr}{fd:FuncData}(y:FI K x st f fd)(X:K.In h)(G:h.Ns mainGlobals mg)(ps:List Str)(hl:ps.length=2:=by rfl)(hb:∀(kV doc pm:Value) (an:Option Addr) (ς ct u0 u1:Value),bindArgs (PySem.W.fnOf x x (iA st) (gM st) (aJ st) .none kV doc pm an ς ct) ⟨[u0,u1],[]⟩=pure (ps.zip [u0,u1]):=by intros;rfl):Df K mg x st ps f fd:=⟨y.F,br X G y.a,y.F.binds λa b c d e g us z=>by obtain⟨u0,u1,rfl⟩:=us2 (z.trans hl);exact hb a b c d e g u0 u1⟩
theorem FI.YR{K:PySem.W.Frag}{h:Heap}{mg:Str->Option Value}{x:Str}{st:Stmt}{f:Addr}{fd:FuncData}(y:FI K x st f fd)(X:K.In h)(G:h.Ns mainGlobals mg)(ps:List Str)(hl:ps.length=3:=by rfl)(hb:∀(kV doc pm:Value) (an:Option Addr) (ς ct u0 u1 u2:Value),bindArgs (PySem.W.fnOf x x (iA st) (gM st) (aJ st) .none kV doc pm an ς ct) ⟨[u0,u1,u2],[]⟩=pure (ps.zip [u0,u1,u2]):=by intros;rfl):Df K mg x st ps f fd:=⟨y.F,br X G y.a,y.F.binds λa b c d e g us z=>by obtain⟨u0,u1,u2,rfl⟩:=us3 (z.trans hl);exact hb a b c d e g u0 u1 u2⟩
theorem FI.ZS{K:PySem.W.Frag}{h:Heap}{mg:Str->Option Value}{x:Str}{st:Stmt}{f:Addr}{fd:FuncData}(y:FI K x st f fd)(X:K.In h)(G:h.Ns mainGlobals mg)(ps:List Str)(hl:ps.length=4:=by rfl)(hb:∀(kV doc pm:Value) (an:Option Addr) (ς ct u0 u1 u2 u3:Value),bindArgs (PySem.W.fnOf x x (iA st) (gM st) (aJ st) .none kV doc pm an ς ct) ⟨[u0,u1,u2,u3],[]⟩=pure (ps.zip [u0,u1,u2,u3]):=by intros;rfl):Df K mg x st ps f fd:=⟨y.F,br X G y.a,y.F.binds λa b c d e g us z=>by obtain⟨u0,u1,u2,u3,rfl⟩:=us4 (z.trans hl);exact hb a b c d e g u0 u1 u2 u3⟩
theorem FI.df5{K:PySem.W.Frag}{h:Heap}{mg:Str->Option Value}{x:Str}{st:Stmt}{f:Addr}{fd:FuncData}(y:FI K x st f fd)(X:K.In h)(G:h.Ns mainGlobals mg)(ps:List Str)(hl:ps.length=5:=by rfl)(hb:∀(kV doc pm:Value) (an:Option Addr) (ς ct u0 u1 u2 u3 u4:Value),bindArgs (PySem.W.fnOf x x (iA st) (gM st) (aJ st) .none kV doc pm an ς ct) ⟨[u0,u1,u2,u3,u4],[]⟩=pure (ps.zip [u0,u1,u2,u3,u4]):=by intros;rfl):Df K mg x st ps f fd:=⟨y.F,br X G y.a,y.F.binds λa b c d e g us z=>by obtain⟨u0,u1,u2,u3,u4,rfl⟩:=us5 (z.trans hl);exact hb a b c d e g u0 u1 u2 u3 u4⟩
theorem FI.df6{K:PySem.W.Frag}{h:Heap}{mg:Str->Option Value}{x:Str}{st:Stmt}{f:Addr}{fd:FuncData}(y:FI K x st f fd)(X:K.In h)(G:h.Ns mainGlobals mg)(ps:List Str)(hl:ps.length=6:=by rfl)(hb:∀(kV doc pm:Value) (an:Option Addr) (ς ct u0 u1 u2 u3 u4 u5:Value),bindArgs (PySem.W.fnOf x x (iA st) (gM st) (aJ st) .none kV doc pm an ς ct) ⟨[u0,u1,u2,u3,u4,u5],[]⟩=pure (ps.zip [u0,u1,u2,u3,u4,u5]):=by intros;rfl):Df K mg x st ps f fd:=⟨y.F,br X G y.a,y.F.binds λa b c d e g us z=>by obtain⟨u0,u1,u2,u3,u4,u5,rfl⟩:=us6 (z.trans hl);exact hb a b c d e g u0 u1 u2 u3 u4 u5⟩
theorem all_mk{l:PySem.W.OpenLaw}{w:World}{K:PySem.W.Frag}{h:Heap}{mg:Str->Option Value}{fa:Addr}{fq:Addr}{vP:Addr}{rD:Addr}{tM:Addr}{oM:Addr}{rE:Addr}{rA:Addr}{pE:Addr}{tY:Addr}{vQ:Addr}{uf:Addr}{uo:Addr}{pX:Addr}{iZ:Addr}{Ce KR FS Gx Cf Ej Ht Ek Gj UL QX SD Qf Tj QJ JP BX Mb DS JX B7 Lk G1 Oo JO LG FG JU G8 Kc KJ LZ G6 HZ Ex CP Km P6 HL HJ Kt Ss Rz Kx EL Qp DR Kw DZ Es Hk Ku FN zQ HF CQ Ev FO Fi Bu G0 KH Mo:Addr}{Bi G9 Er D3 AJ Cg F8 Ct Et Ra NV Rn LR Q1 O5 Ia zE KA B6 HN AO J8 Gv Mv HK Kd Ed Hl F7 HM GQ JF EW GG CA BL G5 Lq Fs Gr GY Rf Ng Hh Ef Ls CN GP Dc CZ Fm Hb Eu yy F0 Ar Co D5 Eg zP GI Hy J7:FuncData}{ξ:Addr}{RW Bl:Option Addr}{BA:Array (Option Value)}{Xn AY BG Bp uu BJ:Value}{θ:Addr}{gT yB:Option Addr}{yK:Array (Option Value)}{iD yw yG yI r9 yH:Value}{JT:Addr}{adz LW:Option Addr}{R7:Array (Option Value)}{adA Mz Mc L7 GK LO:Value}{XU:Tok}{Ym:Tok}{YS:Tok}{XG:Tok}(X:K.In h)(G:h.Ns mainGlobals mg)(hfa:mg "law"=some (.ref fa))(EG:PySem.W.nsIn K mainGlobals "TollError"=some (some (.ref fq)))(Me:PySem.W.nsIn K mainGlobals "BadWeb"=some (some (.ref vP)))(K9:PySem.W.nsIn K mainGlobals "NoPlace"=some (some (.ref rD)))(MD:PySem.W.nsIn K mainGlobals "NoRoad"=some (some (.ref tM)))(FM:PySem.W.nsIn K mainGlobals "BadLaying"=some (some (.ref oM)))(KC:PySem.W.nsIn K mainGlobals "BadWish"=some (some (.ref rE)))(J6:PySem.W.nsIn K mainGlobals "TooMany"=some (some (.ref rA)))(GU:PySem.W.nsIn K mainGlobals "NoNumber"=some (some (.ref pE)))(KI:PySem.W.nsIn K mainGlobals "NoWorst"=some (some (.ref tY)))(MK:PySem.W.nsIn K mainGlobals "NoDeed"=some (some (.ref vQ)))(Ky:PySem.W.nsIn K mainGlobals "BadStep"=some (some (.ref uf)))(K7:PySem.W.nsIn K mainGlobals "BadText"=some (some (.ref uo)))(Vj:PySem.W.nsIn K mainGlobals "Web"=some (some (.ref pX)))(Os:PySem.W.nsIn K mainGlobals "Tally"=some (some (.ref iZ)))(uG:acT K fq)(Ad:Ο K fq vP)(ug:Ο K fq rD)(xE:pM K rD)(zq:Ο K fq tM)(Aa:pM K tM)(qT:Ο K fq oM)(uJ:pM K oM)(uc:Ο K fq rE)(wQ:pM K rE)(tV:Ο K fq rA)(xJ:pM K rA)(sH:Ο K fq pE)(ss:pM K pE)(xA:Ο K fq tY)(An:Ο K fq vQ)(xi:Ο K fq uf)(xM:Ο K fq uo)(xnd:[fq,vP,rD,tM,oM,rE,rA,pE,tY,vQ,uf,uo].Nodup)(CI:FI K "check_counts" lW Ce Bi)(J9:FI K "is_place" qa KR G9)(Fd:FI K "check_ends" pI FS Er)(Fh:FI K "other_ends" nF Gx D3)(Cw:FI K "check_joined" oh Cf AJ)(Eo:FI K "check_tolls" kO Ej Cg)(CB:PySem.W.findIn K (.ref pX) "__init__"=some (some (.ref ξ)))(Cu:PySem.W.isFn K (.ref ξ)=true)(Db:K.lookup ξ=some ⟨Xn,RW,.func (PySem.W.fnOf "__init__" "Web.__init__" (iA iY) (gM iY) (aJ iY) .none AY BG Bp Bl uu BJ),BA⟩)(C3:PySem.W.codeIn K uu "Web.__init__"=true)(Cm:PySem.W.keepIn K (.ref ξ)=true)(HP:FI K "_law_tolls" qU Ht F8)(Ea:FI K "check_place" iE Ek Ct)(Gq:FI K "neighbours" pQ Gj Et)(UZ:FI K "kids" vk UL Ra)(Rq:FI K "ahead" sP QX NV)(TW:FI K "down" vB SD Rn)(Nb:FI K "inward" mw Qf LR)(Vs:FI K "toll" qc Tj Q1)(RC:FI K "borne" uR QJ O5)(Kv:FI K "is_heavy" pO JP Ia)(BE:FI K "least_weights" jG BX zE)(Mi:FI K "bearers" qZ Mb KA)(Eb:FI K "differences" jM DS B6)(K1:FI K "value_at" gX JX HN)(CK:FI K "first_values" md B7 AO)(LC:FI K "is_free" pf Lk J8)(GR:FI K "parted_at" oF G1 Gv)(O6:FI K "parted" tE Oo Mv)(JR:FI K "held_for" pB JO HK)(MI:FI K "ways_of" pj LG Kd)(E1:FI K "ways_given" nC FG Ed)(Jy:FI K "rests_of" jc JU Hl)(zT:PySem.W.findIn K (.ref iZ) "__init__"=some (some (.ref θ)))(Ao:PySem.W.isFn K (.ref θ)=true)(Af:K.lookup θ=some ⟨iD,gT,.func (PySem.W.fnOf "__init__" "Tally.__init__" (iA eI) (gM eI) (aJ eI) .none yw yG yI yB r9 yH),yK⟩)(zu:PySem.W.codeIn K r9 "Tally.__init__"=true)(Ap:PySem.W.keepIn K (.ref θ)=true)(Hu:FI K "_law_bound" oJ G8 F7)(KY:FI K "_law_cell" pC Kc HM)(Lb:FI K "_law_down" my KJ GQ)(Lc:FI K "_law_due" rB LZ JF)(Hs:FI K "_law_least" lm G6 EW)(HC:FI K "_law_mixed" qV HZ GG)(D8:FI K "_law_numbers" mP Ex CA)(CJ:FI K "check_wanted" ku CP BL)(JS:FI K "bound_by" pF Km G5)(Qd:FI K "enough" sU P6 Lq)(GS:FI K "is_filled" qS HL Fs)(HW:FI K "laying_of" mT HJ Gr)(JD:FI K "gathered" pG Kt GY)(UI:FI K "most" AA Ss Rf)(QU:FI K "total" yb Rz Ng)(JG:FI K "is_worst" pU Kx Hh)(Gn:FI K "check_told" kG EL Ef)(Ph:FI K "course" qu Qp Ls)(DQ:FI K "last_within" oN DR CN)(Kg:FI K "given_by" sD Kw GP)(Ec:FI K "ways_before" mF DZ Dc)(D4:FI K "handed_down" jR Es CZ)(Hw:FI K "laying_at" qN Hk Fm)(KN:FI K "worst_at" nU Ku Hb)(EV:FI K "worst_many" lQ FN Eu)(zV:FI K "number_beneath" gY zQ yy)(GX:FI K "number_of" oH HF F0)(CL:FI K "worst_number" kz CQ Ar)(D6:FI K "_law_refusal" jO Ev Co)(E2:FI K "_law_spoilt" p9 FO D5)(Gc:FI K "_law_spread" ju Fi Eg)(Bt:FI K "_law_to_twelve" m5 Bu zP)(G4:FI K "_law_wants" qP G0 GI)(Kj:FI K "_law_toll" sj KH Hy)(Lz:FI K "_law_web" q8 Mo J7)(QB:PySem.W.nsIn K mainGlobals "law"=some (some (.ref JT)))(VD:K.lookup JT=some ⟨adA,adz,.func (PySem.W.fnOf "law" "law" (iA oQ) (gM oQ) (aJ oQ) .none Mz Mc L7 LW GK LO),R7⟩)(VO:PySem.W.codeIn K GK "law"=true)(VA:PySem.W.keepIn K (.ref JT)=true)(UF:PySem.W.plainGet K pX Str.empty=true)(Vv:PySem.W.hasDictIn K pX=true)(SG:PySem.W.plainOver K pX=true)(SL:PySem.W.findIn K (.ref pX) "__setattr__"=some (some (.builtin "object.__setattr__")))(Ui:PySem.W.makesIn K pX=true)(SI:PySem.W.keepIn K (.ref pX)=true)(Zi:PySem.W.findIn K (.ref pX) "many"=some none)(YT:PySem.W.findIn K (.ref pX) "roads"=some none)(Nz:PySem.W.plainGet K iZ Str.empty=true)(PM:PySem.W.hasDictIn K iZ=true)(OQ:PySem.W.plainOver K iZ=true)(Pl:PySem.W.findIn K (.ref iZ) "__setattr__"=some (some (.builtin "object.__setattr__")))(Oj:PySem.W.makesIn K iZ=true)(Oa:PySem.W.keepIn K (.ref iZ)=true)(YV:PySem.W.findIn K (.ref iZ) "web"=some none)(Yn:PySem.W.findIn K (.ref iZ) "down"=some none)(Xo:PySem.W.findIn K (.ref iZ) "weights"=some none)(Xp:PySem.W.findIn K (.ref iZ) "bearers"=some none)(Yo:PySem.W.findIn K (.ref iZ) "kids"=some none)(XW:PySem.W.findIn K (.ref iZ) "rests"=some none)(abH:PySem.W.nsIn K mainGlobals "range"=some none)(afJ:PySem.W.nsIn K mainGlobals "zip"=some none)(afK:PySem.W.nsIn K mainGlobals "len"=some none)(Yp:PySem.W.nsIn K mainGlobals "isinstance"=some none)(afL:PySem.W.nsIn K mainGlobals "all"=some none)(afM:PySem.W.nsIn K mainGlobals "int"=some none)(abI:PySem.W.nsIn K mainGlobals "tuple"=some none)(adB:PySem.W.nsIn K mainGlobals "list"=some none)(Zj:PySem.W.nsIn K mainGlobals "reversed"=some none)(aaC:PySem.W.nsIn K mainGlobals "sorted"=some none)(afN:PySem.W.nsIn K mainGlobals "min"=some none)(afO:PySem.W.nsIn K mainGlobals "max"=some none)(YW:PySem.W.nsIn K mainGlobals "enumerate"=some none)(afP:PySem.W.nsIn K mainGlobals "sum"=some none)(afQ:PySem.W.nsIn K mainGlobals "str"=some none)(afR:PySem.W.nsIn K mainGlobals "set"=some none)(Yq:PySem.W.nsIn K mainGlobals "ValueError"=some none)(XX:PySem.W.nsIn K mainGlobals "MOST_PLACES"=some (some (.int 24 XU)))(Yr:PySem.W.nsIn K mainGlobals "LEAST_TOLL"=some (some (.int 2 Ym)))(YX:PySem.W.nsIn K mainGlobals "MOST_TOLL"=some (some (.int 1000000 YS)))(XH:PySem.W.nsIn K mainGlobals "MOST_PEBBLES"=some (some (.int 1000000000000 XG))):∃fd:FuncData,(∀(s:Shared)(v:Value),BindsTo s fd ⟨[v],[]⟩ [("script",v)])/\∀base:Heap,K.In base->base.Ns mainGlobals mg->Ω l.prog w K mg base (ψ l.prog w) 14 fa fd ["script"] (Ez K):=by
 have e:=hfa.symm.trans (br X G QB);cases e
 let T:Txt K mg:=⟨fq,br X G EG,vP,br X G Me,rD,br X G K9,tM,br X G MD,oM,br X G FM,rE,br X G KC,rA,br X G J6,pE,br X G GU,tY,br X G KI,vQ,br X G MK,uf,br X G Ky,uo,br X G K7,pX,br X G Vj,iZ,br X G Os,uG,Ad,ug,xE,zq,Aa,qT,uJ,uc,wQ,tV,xJ,sH,ss,xA,An,xi,xM,xnd,PySem.W.mg_none_of X G abH,PySem.W.mg_none_of X G afJ,PySem.W.mg_none_of X G afK,PySem.W.mg_none_of X G Yp,PySem.W.mg_none_of X G afL,PySem.W.mg_none_of X G afM,PySem.W.mg_none_of X G abI,PySem.W.mg_none_of X G adB,PySem.W.mg_none_of X G Zj,PySem.W.mg_none_of X G aaC,PySem.W.mg_none_of X G afN,PySem.W.mg_none_of X G afO,PySem.W.mg_none_of X G YW,PySem.W.mg_none_of X G afP,PySem.W.mg_none_of X G afQ,PySem.W.mg_none_of X G afR,PySem.W.mg_none_of X G Yq,⟨_,br X G XX⟩,⟨_,br X G Yr⟩,⟨_,br X G YX⟩,⟨_,br X G XH⟩,⟨UF,Vv,SG,SL⟩,Zi,YT,⟨Nz,PM,OQ,Pl⟩,YV,Yn,Xo,Xp,Yo,XW⟩
 have uO:=CI.XF X G ["many","roads"];have B5:=J9.XF X G ["many","number"];have wY:=Fd.XF X G ["many","road"];have xH:=Fh.XF X G ["roads","place"];have uP:=Cw.XF X G ["many","roads"];have wA:=Eo.df1 X G ["road"];have nW:=Bk (st:=iY) Db C3 Cm;have K6:=nW.binds (ps:=["self","many","roads"]) λ_ _ _ _ _ _ us hl=>by obtain⟨u0,u1,u2,rfl⟩:=us3 hl;rfl
 have yV:=HP.df1 X G ["roads"];have wB:=Ea.XF X G ["web","number"];have xP:=Gq.XF X G ["web","a"];have LQ:=UZ.YR X G ["web","place","front"];have Jl:=Rq.XF X G ["web","r"];have LL:=TW.XF X G ["web","r"];have ET:=Nb.XF X G ["web","r"];have MP:=Vs.YR X G ["web","a","b"];have Ig:=RC.ZS X G ["web","weights","place","front"];have Bb:=Kv.ZS X G ["web","weights","place","front"];have ud:=BE.XF X G ["web","r"];have Di:=Mi.XF X G ["web","r"];have wJ:=Eb.df1 X G ["values"];have Bn:=K1.XF X G ["found","at"];have u9:=CK.XF X G ["found","many"];have DL:=LC.YR X G ["tally","place","kid"];have y6:=GR.YR X G ["one","other","at"];have Fv:=O6.XF X G ["one","other"];have Bh:=JR.ZS X G ["tally","place","kid","given"];have Dh:=MI.YR X G ["tally","place","held"];have xF:=E1.ZS X G ["tally","place","kid","given"];have AI:=Jy.XF X G ["tally","place"];have gj:=Bk (st:=eI) Af zu Ap;have nQ:=gj.binds (ps:=["self","web","r"]) λ_ _ _ _ _ _ us hl=>by obtain⟨u0,u1,u2,rfl⟩:=us3 hl;rfl
 have yY:=Hu.ZS X G ["tolls","order","weights","wanted"];have Ax:=KY.XF X G ["script","k"];have AG:=Lb.YR X G ["many","tolls","r"];have Dq:=Lc.df6 X G ["pick","many","case","need","count","good"];have yT:=Hs.XF X G ["tolls","order"];have y7:=HC.XF X G ["cell","k"];have wx:=D8.XF X G ["script","many"];have uU:=CJ.YR X G ["web","r","wanted"];have BH:=JS.ZS X G ["web","r","wanted","weights"];have EU:=Qd.YR X G ["web","r","wanted"];have yZ:=GS.XF X G ["web","numbers"];have zi:=HW.XF X G ["web","numbers"];have Bw:=JD.YR X G ["web","laying","r"];have Ms:=UI.YR X G ["web","laying","r"];have Ix:=QU.df1 X G ["numbers"];have AW:=JG.ZS X G ["web","r","wanted","laying"];have xN:=Gn.YR X G ["web","r","wanted"];have GL:=Ph.ZS X G ["tally","place","at","left"];have wC:=DQ.YR X G ["before","top","number"];have AL:=Kg.df5 X G ["tally","place","at","left","number"];have wE:=Ec.df5 X G ["tally","place","at","left","given"];have ww:=D4.ZS X G ["tally","place","held","number"];have yW:=Hw.YR X G ["tally","held","number"];have BP:=KN.ZS X G ["web","r","wanted","number"];have wU:=EV.YR X G ["web","r","wanted"];have sV:=zV.ZS X G ["tally","place","held","numbers"];have za:=GX.XF X G ["tally","held"];have vE:=CL.ZS X G ["web","r","wanted","laying"];have wF:=D6.YR X G ["pick","web","case"];have wR:=E2.YR X G ["laying","pick","at"];have xG:=Gc.ZS X G ["tolls","order","wanted","cell"];have tX:=Bt.df1 X G ["numbers"];have zh:=G4.YR X G ["tolls","order","cell"];have AX:=Kj.df1 X G ["rest"];have Dn:=Lz.df1 X G ["numbers"];have QE:=Bk (st:=oQ) VD VO VA;have VH:=QE.binds (ps:=["script"]) λ_ _ _ _ _ _ us hl=>by obtain⟨u0,rfl⟩:=us1 hl;rfl
 have VP:Df K mg "law" oQ ["script"] fa _:=⟨QE,br X G QB,VH⟩;refine⟨PySem.W.fnOf "law" "law" (iA oQ) (gM oQ) (aJ oQ) .none Mz Mc L7 LW GK LO,λs v=>.of_eq rfl,λbase _ _=>?_⟩;have KL:Mk K T.Web ξ:=⟨Ui,CB,Cu,SI⟩;have nV:Mk K T.Tally θ:=⟨Oj,zT,Ao,Oa⟩;have qv:=cb uO (BS (P:=l.prog) (w:=w) (base:=base) T bJ _ _ uO);have mC:=cb B5 (HH (P:=l.prog) (w:=w) (base:=base) T bJ _ _ B5);have tK:=cb wY (DX T bJ mC _ _ wY);have lR:=cb xH (DV (P:=l.prog) (w:=w) (base:=base) T bJ _ _ xH);have qk:=cb uP (BO T bJ lR _ _ uP);have rF:=cb wA (B8 (P:=l.prog) (w:=w) (base:=base) T bJ _ _ wA);have aS:=Ba (P:=l.prog) (w:=w) (base:=base) T bJ nW qv tK qk rF;have uI:=cb yV (FR (P:=l.prog) (w:=w) (base:=base) T bJ _ _ yV);have eX:=cb wB (CW T bJ mC _ _ wB);have tT:=cb xP (Em T bJ eX lR _ _ xP);have mG:=cb LQ (RK T bJ tT _ _ LQ);have oj:=cb Jl (NZ T bJ eX mG _ _ Jl);have uZ:=cb LL (QS T bJ oj mG _ _ LL);have jL:=cb ET (Lj T bJ oj uZ _ _ ET);have kD:=cb MP (Rg T bJ eX _ _ MP);have sJ:=cb Ig (Nt T bJ kD _ _ Ig);have og:=cb Bb (Hv T bJ sJ _ _ Bb);have f9:=cb ud (zJ T bJ sJ jL _ _ ud);have xt:=cb Di (Kr T bJ jL og f9 _ _ Di);have jP:=cb wJ (Cz (P:=l.prog) (w:=w) (base:=base) T bJ _ _ wJ);have dy:=cb Bn (G7 (P:=l.prog) (w:=w) (base:=base) T bJ _ _ Bn);have qA:=cb u9 (BN T bJ dy _ _ u9);have kU:=cb DL (KB T bJ og _ _ DL);have mQ:=cb y6 (FU (P:=l.prog) (w:=w) (base:=base) T bJ _ _ y6);have zj:=cb Fv (ML T bJ mQ _ _ Fv);have nZ:=cb Bh (HY T bJ kD _ _ Bh);have kW:=cb Dh (KF T bJ dy _ _ Dh);have ic:=cb xF (El T bJ nZ kW _ _ xF);have wj:=cb AI (Hm T bJ jP qA kU zj ic _ _ AI);have χ:=yD (P:=l.prog) (w:=w) (base:=base) T bJ gj oj xt uZ mG f9 wj;have mW:=cb yY (EH (P:=l.prog) (w:=w) (base:=base) T bJ _ _ yY);have mz:=cb Ax (GW (P:=l.prog) (w:=w) (base:=base) T bJ _ _ Ax);have wn:=cb AG (Hg (P:=l.prog) (w:=w) (base:=base) T bJ _ _ AG);have xI:=cb Dq (K8 (P:=l.prog) (w:=w) (base:=base) T bJ _ _ Dq);have ji:=cb yT (Fp (P:=l.prog) (w:=w) (base:=base) T bJ _ _ yT);have qX:=cb y7 (FP (P:=l.prog) (w:=w) (base:=base) T bJ _ _ y7);have rO:=cb wx (CM T bJ mz qX _ _ wx);have kt:=cb uU (BF T bJ eX _ _ uU);have wu:=cb BH (GZ T bJ kt jL kD _ _ BH);have qF:=cb EU (Ly T bJ wu f9 _ _ EU);have uw:=cb yZ (F5 (P:=l.prog) (w:=w) (base:=base) T bJ _ _ yZ);have mV:=cb zi (Gy T bJ uw _ _ zi);have om:=cb Bw (HQ T bJ jL mV kD _ _ Bw);have FC:=cb Ms (Rx T bJ om _ _ Ms);have Cs:=cb Ix (OJ (P:=l.prog) (w:=w) (base:=base) T bJ _ _ Ix);have nX:=cb AW (HV T bJ qF mV FC Cs _ _ AW);have lP:=cb xN (D9 T bJ qF _ _ xN);have qG:=cb GL (Md T bJ jP dy ic _ _ GL);have rY:=cb wC (Cq T bJ dy _ _ wC);have wf:=cb AL (Hi T bJ qG kU rY _ _ AL);have kP:=cb wE (C7 T bJ qG kU dy _ _ wE);have rV:=cb ww (C2 T bJ wf nZ dy kP _ _ ww);have uA:=cb yW (FD T bJ rV _ _ yW);have vS:=cb BP (HB T bJ gj nQ nV χ lP uA kW _ _ BP);have lV:=cb wU (D0 T bJ gj nQ nV χ kt kW _ _ wU);have oU:=cb sV (yA T bJ kD dy kP _ _ sV);have uL:=cb za (GA T bJ oU _ _ za);have qi:=cb vE (BD T bJ gj nQ nV χ lP om nX uL _ _ vE);have rK:=cb wF (Cv T bJ nX vS lV qi _ _ wF);have tN:=cb wR (Ep (P:=l.prog) (w:=w) (base:=base) T bJ _ _ wR);have sS:=cb xG (Ew T bJ ji _ _ xG);have p8:=cb tX (zR (P:=l.prog) (w:=w) (base:=base) T bJ _ _ tX);have uH:=cb zh (Go T bJ mW ji _ _ zh);have sv:=cb AX (Ib (P:=l.prog) (w:=w) (base:=base) T bJ _ _ AX);have xw:=cb Dn (Jx T bJ sv _ _ Dn);have VE:=RU (P:=l.prog) (w:=w) (base:=base) T bJ VP nW K6 KL aS mW mz wn xI ji rO rK tN sS p8 uI uH xw lV;exact VE
theorem walk{l:PySem.W.OpenLaw}{q:Program}{loose:List Str}{XP:(Str->Option Value)->Heap->Prop}{YP:World->Heap->Prop}{d:DefRec}{K:Params->PySem.W.Frag}(hn:l.most=some 63)(hdf:d.params.defaults=[])(hY:∀(w:World) (h:Heap),YP w h->(K w.params).In h)(F:∀(w:World) (mg:Str->Option Value) (fa:Addr) (h:Heap),(K w.params).In h->h.Ns mainGlobals mg->mg d.name=some (.ref fa)->∃fd:FuncData,(∀(s:Shared) (u:Value),BindsTo s fd ⟨[u],[]⟩ [("script",u)])/\∀base:Heap,(K w.params).In base->base.Ns mainGlobals mg->Ω l.prog w (K w.params) mg base (ψ l.prog w) 14 fa fd ["script"] (Ez (K w.params))):PySem.W.WalkO q loose XP YP l.row.toRowW d [] (λf vs=>PySem.call f vs):=L2.abd (n:=63) (k:=14) (x:="script") (CX:=λw=>(ψ l.prog w)) (sp:=λw=>Ez (K w.params)) hn (by decide) hdf ⟨rfl,by decide,by decide⟩ hY F (λ_ _ a ns hl _ hS=>⟨a,ns,rfl,hS,hl,λ_=>rfl⟩) λ_ _ _ _ _ z=>bJ _ _ _ _ _ z
end Pk
open L2
open PySem PySem.W PyProof.Rows
set_option maxRecDepth 100000 in
set_option maxHeartbeats 0 in
theorem PySem.Challenge.cw_pebbletoll_k47_no_numbers_holds : PySem.Challenge.rw_pebbletoll_k47_no_numbers.Holds := by
 w_on;refine PySem.W.holds_law Hd.ws λarP=>?_
 refine PySem.W.holds_open (q:=Hd.qq) (loose:=[]) (Xt:=(λs=>PySem.W.xlAt Hd.qq [] s&&PySem.W.recOk (PySem.W.RowW.records (PySem.W.OpenRow.toRowW (PySem.Challenge.rw_pebbletoll_k47_no_numbers).row)) s)) (XP:=PySem.W.XL Hd.qq []) (Yf:=PySem.W.Hook.obs (PySem.W.kHook Hd.KK Hd.asK Hd.Ϝ)) (Ya:=PySem.W.Hook.val (PySem.W.kHook Hd.KK Hd.asK Hd.Ϝ)) (YP:=PySem.W.Hook.says (PySem.W.kHook Hd.KK Hd.asK Hd.Ϝ)) (N:=10526) Hd.left (PySem.W.Hook.of (PySem.W.kHook Hd.KK Hd.asK Hd.Ϝ)) (PySem.W.Hook.keeps (PySem.W.kHook Hd.KK Hd.asK Hd.Ϝ)) (λs e=>PySem.W.xl_of s (m8.mp e).1) PySem.W.XL.keeps (by rfl) (by rfl) (by rfl) (λs e=>PySem.W.recFacts_of (m8.mp e).2) (by rfl) (by assumption) (by decide +kernel) ⟨rfl,rfl,rfl,rfl,rfl,by decide +kernel⟩ ?hw ?hc
 (case hw=>w_witness2)
 k_fill
 refine Pk.walk (l:=PySem.Challenge.rw_pebbletoll_k47_no_numbers) rfl rfl (λw h Y=>PySem.W.kIn_of Y) ?F
 case F=>
  intro w mg fa h KX G hmg;refine' Pk.all_mk KX G hmg ?_ ?_ ?_ ?_ ?_ ?_ ?_ ?_ ?_ ?_ ?_ ?_ ?_ ?_ ?_ ?_ ?_ ?_ ?_ ?_ ?_ ?_ ?_ ?_ ?_ ?_ ?_ ?_ ?_ ?_ ?_ ?_ ?_ ?_ ?_ ?_ ?_ ?_ ?_ ?_ ?_ ?_ ?_ ?_ ?_ ?_ ?_ ?_ ?_ ?_ ?_ ?_ ?_ ?_ ?_ ?_ ?_ ?_ ?_ ?_ ?_ ?_ ?_ ?_ ?_ ?_ ?_ ?_ ?_ ?_ ?_ ?_ ?_ ?_ ?_ ?_ ?_ ?_ ?_ ?_ ?_ ?_ ?_ ?_ ?_ ?_ ?_ ?_ ?_ ?_ ?_ ?_ ?_ ?_ ?_ ?_ ?_ ?_ ?_ ?_ ?_ ?_ ?_ ?_ ?_ ?_ ?_ ?_ ?_ ?_ ?_ ?_ ?_ ?_ ?_ ?_ ?_ ?_ ?_ ?_ ?_ ?_ ?_ ?_ ?_ ?_ ?_ ?_ ?_ ?_ ?_ ?_ ?_ ?_ ?_ ?_ ?_ ?_ ?_ ?_ ?_ ?_ ?_ ?_ ?_ ?_ ?_ ?_ ?_ ?_ ?_
  any_goals first|exact Rc (by k_is) (by k_is) (by k_is) (by k_is) (by k_is) (by k_is) (by k_is) (by k_is) (by rfl)|exact QZ (by k_is) (by k_is) (by k_is) (by k_is) (by k_is) (by k_is) (by k_is) (by k_is) (by rfl)|exact Q7 _ _ _ _ _ _ _ _ _ _ _ _ _ _ _ _ (by k_is) (by rfl) (by kernel_rfl) (by k_is) (by kernel_rfl)|exact Pk.fi|k_is|decide
#print axioms PySem.Challenge.cw_pebbletoll_k47_no_numbers_holds