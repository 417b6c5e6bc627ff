import PyProof.Rows.All
import Wide.All
import OpenK.AllK
import Wide.FinOn
import Lean
import PyProof.EqAt
import PyProof.EqKinds
import PyProof.TupleCall
import PyProof.P3Eq
import PyProof.NeData
import PyProof.FitsBits
import PyProof.ZipIter
import PyProof.TupleIter
import KE.KRevIter
import PyProof.TupleOfGen
import PyProof.ListRange
import KE.KIsAll
import PyProof.ExcArgsOwn
import OpenK.KDescr
import PyProof.StationsW
import PyProof.ExcBaseAll.ValueError
import OpenK.KOwn
import PyProof.RulesAs
import PyProof.RulesDel
import PyProof.Rows.SortWalk
import PyProof.CompUse
import KE.KDictSum
import PyProof.WalkInts
import KE.KSortTup
import PyProof.Rows.TupDisplay
import KE.KIntText
import PyProof.JoinWalk
import PyProof.ExcInit
import PyProof.ExcClass2
import KE.KRevSl
import KE.KSetAt
import PyProof.DictUpdate
import PySem.Challenge.RW_pebbletoll_k67_whole_three_roads_to_enou
set_option Elab.async false
set_option linter.all false
set_option maxRecDepth 100000
def gH:=@Array.getElem?_eq_some_iff
def pi:=@Array.length_toList
def bK:=@Bool.and_eq_true
def oJ:=@Bool.and_eq_true_iff
def ip:=@Bool.eq_iff_iff
def jF:=@Bool.false_and
def dI:=@Bool.false_eq_true
def bD:=@Bool.false_ne_true
def oY:=@Bool.false_or
def jS:=@Bool.not_eq_true'
def mG:=@Bool.or_true
def iH:=@Bool.true_and
def lZ:=@PySem.Calls.Name_function_global
def hJ:=@PySem.Calls.spliced_cons
def iu:=@PySem.Calls.spliced_nil
def kT:=@PySem.F.args_tuple_iterator_next_1
def lJ:=@PySem.F.entry_tuple_iterator_next
def gC:=@PySem.F.slot_tuple_iterator_next
def ku:=@PySem.F.slot_zip_next
def aF:=@PySem.Heap.get?_push_of_some
def bc:=@PySem.Heap.get?_push_size
def dJ:=@PySem.Heap.get?_update_other
def fI:=@PySem.Heap.get?_update_self
def aM:=@PySem.Heap.lt_size
def dR:=@PySem.Heap.size_push
def pA:=@Int.add_comm
def dW:=@Int.add_mul
def fC:=@Int.add_mul_ediv_right
def g6:=@Int.add_zero
def eA:=@Int.ediv_eq_zero_of_lt
def ja:=@Int.ediv_nonneg
def de:=@Int.emod_lt_of_pos
def dA:=@Int.emod_nonneg
def iU:=@Int.fdiv_eq_ediv_of_nonneg
def pE:=@Int.le_of_eq
def mC:=@Int.le_of_lt
def bw:=@Int.le_refl
def bW:=@Int.le_trans
def dB:=@Int.mul_add
def gO:=@Int.mul_assoc
def ff:=@Int.mul_comm
def j8:=@Int.mul_ediv_add_emod
def fW:=@Int.mul_le_mul
def bU:=@Int.mul_le_mul_of_nonneg_left
def b9:=@Int.mul_le_mul_of_nonneg_right
def kD:=@Int.mul_le_mul_of_nonpos_left
def dF:=@Int.mul_nonneg
def gB:=@Int.mul_nonpos_of_nonpos_of_nonneg
def fJ:=@Int.mul_one
def eC:=@Int.mul_sub
def o9:=@Int.mul_zero
def jC:=@Int.natAbs_add_le
def kY:=@Int.natAbs_mul
def l9:=@Int.natAbs_natCast
def eL:=@Int.natCast_add
def jc:=@Int.natCast_mul
def kF:=@Int.natCast_sub
def mH:=@Int.ne_of_gt
def jt:=@Int.neg_mul
def gM:=@Int.one_mul
def mU:=@Int.pow_add
def p8:=@Int.pow_pos
def kb:=@Int.sub_zero
def bR:=@Int.toNat_natCast
def bA:=@Int.toNat_of_nonneg
def cM:=@Int.zero_add
def j3:=@Int.zero_mul
def nG:=@List.Perm.append_left
def gL:=@List.all_eq_true
def oh:=@List.any_cons
def cU:=@List.append_assoc
def b7:=@List.append_nil
def j4:=@List.concat_eq_append
def f7:=@List.cons.inj
def jX:=@List.cons_append
def fE:=@List.contains_cons
def kt:=@List.drop_append_of_le_length
def dy:=@List.drop_eq_getElem_cons
def m5:=@List.drop_eq_nil_of_le
def dh:=@List.drop_length
def nA:=@List.drop_of_length_le
def oF:=@List.drop_succ_cons
def fT:=@List.drop_zero
def hV:=@List.eq_nil_iff_forall_not_mem
def j6:=@List.eq_nil_or_concat
def fP:=@List.ext_getElem?
def jd:=@List.filterMap_cons
def cX:=@List.filter_append
def eW:=@List.filter_cons_of_neg
def eV:=@List.filter_cons_of_pos
def oE:=@List.filter_eq_self
def gW:=@List.filter_nil
def gY:=@List.find?_cons
def j5:=@List.findSome?_append
def lA:=@List.findSome?_cons
def oB:=@List.flatMap_append
def c9:=@List.flatMap_cons
def fN:=@List.flatten_cons
def g0:=@List.foldl_cons
def mY:=@List.forIn_cons
def kI:=@List.getD_cons_succ
def bo:=@List.getD_eq_getElem?_getD
def dH:=@List.getElem?_append_left
def dE:=@List.getElem?_append_right
def ji:=@List.getElem?_cons_succ
def ay:=@List.getElem?_eq_getElem
def bO:=@List.getElem?_eq_none
def aD:=@List.getElem?_eq_some_iff
def lS:=@List.getElem?_inj
def aJ:=@List.getElem?_map
def cJ:=@List.getElem?_of_mem
def eR:=@List.getElem?_range
def fX:=@List.getElem?_replicate
def j2:=@List.getElem?_replicate_of_lt
def cw:=@List.getElem?_reverse
def cT:=@List.getElem?_set_ne
def da:=@List.getElem?_set_self
def jf:=@List.getElem?_take_of_lt
def lU:=@List.getElem?_zip_eq_some
def mR:=@List.getElem_cons_drop
def jB:=@List.getElem_map
def eT:=@List.getElem_mem
def kL:=@List.getElem_of_mem
def aX:=@List.length_append
def aR:=@List.length_cons
def gA:=@List.length_drop
def dq:=@List.length_filter_le
def ah:=@List.length_map
def ft:=@List.length_nil
def bG:=@List.length_range
def cC:=@List.length_replicate
def aV:=@List.length_reverse
def b4:=@List.length_set
def bE:=@List.length_take
def jW:=@List.length_zip
def c8:=@List.lookup_cons
def aI:=@List.map_append
def bH:=@List.map_congr_left
def aq:=@List.map_cons
def iG:=@List.map_map
def eP:=@List.map_nil
def gU:=@List.map_replicate
def fQ:=@List.map_reverse
def ee:=@List.map_set
def ba:=@List.mem_append
def bC:=@List.mem_append_left
def bf:=@List.mem_append_right
def aw:=@List.mem_cons
def ap:=@List.mem_cons_of_mem
def aA:=@List.mem_cons_self
def nI:=@List.mem_erase_of_ne
def bx:=@List.mem_filter
def d9:=@List.mem_flatMap
def ke:=@List.mem_iff_getElem
def aU:=@List.mem_map
def d8:=@List.mem_nil_iff
def aO:=@List.mem_of_getElem?
def cL:=@List.mem_of_mem_drop
def iA:=@List.mem_of_mem_take
def iQ:=@List.mem_or_eq_of_mem_set
def cQ:=@List.mem_range
def dZ:=@List.mem_reverse
def aK:=@List.mem_singleton
def iJ:=@List.nil_append
def dU:=@List.nodup_append
def bg:=@List.nodup_cons
def iI:=@List.of_mem_zip
def iV:=@List.pairwise_iff_getElem
def lF:=@List.perm_append_singleton
def df:=@List.range_succ
def cN:=@List.replicate_succ
def nU:=@List.reverse_append
def eI:=@List.reverse_cons
def nF:=@List.reverse_reverse
def aY:=@List.size_toArray
def fB:=@List.sum_append
def aH:=@List.sum_cons
def hG:=@List.take_add_one
def cP:=@List.take_append_drop
def bL:=@List.take_length
def cW:=@List.take_of_length_le
def lV:=@List.take_sublist
def bI:=@List.take_succ
def dY:=@List.take_zero
def mT:=@List.zipWith_cons_cons
def gV:=@Nat.add_le_add
def gm:=@Nat.add_mul
def jE:=@Nat.le_add_right
def oj:=@Nat.le_of_eq
def jG:=@Nat.le_of_lt
def az:=@Nat.le_refl
def gq:=@Nat.le_succ
def aP:=@Nat.le_trans
def oS:=@Nat.log2_lt
def dM:=@Nat.lt_irrefl
def gQ:=@Nat.lt_of_le_of_lt
def aZ:=@Nat.lt_of_lt_of_le
def ig:=@Nat.lt_succ_of_lt
def gw:=@Nat.lt_succ_self
def lQ:=@Nat.lt_trichotomy
def py:=@Nat.mul_add
def jI:=@Nat.mul_comm
def cg:=@Nat.mul_le_mul
def kJ:=@Nat.mul_le_mul_left
def eE:=@Nat.mul_le_mul_right
def fH:=@Nat.ne_of_gt
def aW:=@Nat.ne_of_lt
def mL:=@Nat.not_lt_zero
def o0:=@Nat.one_mul
def fA:=@Nat.pow_add
def iM:=@Nat.pow_le_pow_left
def cj:=@Nat.pow_le_pow_right
def nD:=@Nat.pow_lt_pow_right
def pB:=@Nat.pow_mul
def iC:=@Nat.pow_succ
def dD:=@Nat.sub_self
def eu:=@Nat.sub_zero
def mh:=@Nat.succ.inj
def mm:=@Nat.zero_add
def bB:=@Nat.zero_le
def fe:=@PySem.Obj.data_mapFields
def iq:=@PySem.Obj.isFreed_of_fields
def fK:=@Option.isSome_iff_exists
def hZ:=@Option.isSome_map
def cV:=@Option.map_eq_some_iff
def jR:=@Option.map_some
def bu:=@Option.some.inj
def c7:=@PyProof.Rows.callWith_type1
def mq:=@PySem.F.slot_list_insert
def mS:=@PySem.W.cellsFrom_some
def bN:=@PySem.W.mg_of
def dX:=@PySem.mem_of_lookup
def mX:=@beq_iff_eq
def mi:=@PySem.codeAny_mono
def b8:=@decide_eq_false
def bq:=@decide_eq_true
def bT:=@decide_eq_true_eq
def ag:=@if_neg
def aj:=@if_pos
def bF:=@of_decide_eq_true
def je:=@PySem.wpAny_Call_Name_kw
def ao:=@PySem.wpAny_bind
def jD:=@PySem.wpAny_call_entry
def jU:=@PySem.wpAny_execs_nil
def cZ:=@PySem.wpAny_field
def lm:=@PySem.wpAny_holding
def gI:=@PySem.wpAny_ite_split
def mB:=@PySem.wpAny_letGo
def eB:=@PySem.wpAny_mono
def h9:=@PySem.wpAny_newObj_type
def lC:=@PySem.wpAny_onRaise
def fZ:=@PySem.wpAny_passesOwn
def bi:=@PySem.wpAny_pure
def jg:=@PySem.wpAny_pyIter_list
def j9:=@PySem.wpAny_pyIter_revIter
def lB:=@PySem.wpAny_pyIter_tuple
def eO:=@PySem.wpAny_seqItems
def iZ:=@PySem.wpAny_setField
def f6:=@PySem.wpAny_setField_rec
def mO:=@PySem.wpAny_specialOf
def lg:=@PySem.wpAny_standAt
def dN:=@PySem.wpAny_truthy_bool
def kh:=@PySem.wpAny_updateSeq_pair
namespace Hd
open PySem
def top(i:Nat):Stmt:=PySem.Challenge.pw_pebbletoll_k67_whole_three_roads_to_enou.main.body.getD i (.Pass ⟨0,0,0,0⟩)
def inC(s:Stmt)(j:Nat):Stmt:=match s with
 | .ClassDef _ _ _ b _ _ _ _ _ _ _=>b.getD j (.Pass ⟨0,0,0,0⟩)
 | _=>.Pass ⟨0,0,0,0⟩
def kA(s:Stmt):Arguments:=match s with
 | .FunctionDef _ a _ _ _ _ _ _ _ _=>a
 | _=>{ posonlyargs:=[],args:=[],vararg:=none,kwonlyargs:=[],kw_defaults:=[],kwarg:=none,defaults:=[] }
def kB(s:Stmt):List Stmt:=match s with
 | .FunctionDef _ _ b _ _ _ _ _ _ _=>b
 | _=>[]
def kS(s:Stmt):Scope:=match s with
 | .FunctionDef _ _ _ _ _ _ sc _ _ _=>sc
 | _=>{ kind:=.function,names:=[],isGenerator:=false,isCoroutine:=false }
theorem ws:(PySem.Challenge.rw_pebbletoll_k67_whole_three_roads_to_enou).wellSaid=true:=by kernel_rfl
open PySem.W PySem.Calls PyProof.Rows
def en(P:Params)(s:Str)(t:Tok)(v:Value):DictEntry:=.mk (PyData.keyHash P s) (.str s t) v
def cO(a b:Str)(g e s:Tok)(i m o h d:Int)(r:Value)(p:Bool)(c:Int)(n t l f u:Value)(k j:Int)(q:Tok):Obj:=.mk (.type "code") none (.fields #[.str a g,.str b e,.str "/claim/cut.py" s,.int i 0,.int m 0,.int o 0,.int h 0,.int d 0,r,.bool p,.int c 0,n,t,l,f,u,.int k 0,.int j 0,.str "/claim/cut.py" q]) #[]
def fR(a b:Str)(s:Stmt):Obj:=.mk .none none (.func (.mk a b (kA s) (.stmts (kB s)) (kS s) 0 [] .none .none .none .none none .none .none 0)) #[]
def fO(a b:Str)(s:Stmt)(d c:Value):Obj:=.mk (.type "function") none (.func (PySem.W.fnOf a b (kA s) (kB s) (kS s) .none .none .none d none c .none)) #[]
def tO(a:Array Value):Obj:=.mk (.type "tuple") none (.seq a 0) #[]
def fr(a:Str)(s:Stmt):Obj:=fR a a s
def fo(a:Str)(s:Stmt)(c b:Value):Obj:=fO a a s c b
def cF(a:Str)(t:Nat)(i j k:Int)(n q:Nat):Obj:=cO a a t (t+1) (t+2) i j 0 0 k (.ref n) true 181 (.ref (n+1)) .none (.ref (n+2)) (.ref (n+3)) (.ref (n+4)) q i (q+1)
def sT(t:Nat):List Str->List Value
 | []=>[]
 | s::l=>.str s t::sT (t+1) l
def tS(t:Nat)(l:List Str):Obj:=tO (sT t l).toArray
def tF:List (Int×Nat)->List Value
 | []=>[]
 | (i,a)::l=>.int i 0::.int 0 0::.ref a::tF l
def x0:Obj:=(tO #[])
def x1:Obj:=(.mk .none none (.fields #[]) #[])
def x2:Obj:=(cO "<module>" "<module>" 182 183 184 1 0 0 0 0 (.ref 11) false 181 (.ref 12) .none .none .none .none 185 1 186)
def x3:Obj:=(.mk (.type "frame") none .plain #[(some (.ref 13)),(some (.ref 3)),(some (.ref 3)),none,(some (.str "__main__" 164)),none,(some (.ref 0))])
noncomputable def ha(P:Params):Heap:=.mk (.mk (boot_o_0 P::boot_o_1 P::boot_o_2 P::boot_o_3 P::boot_o_4 P::boot_o_5 P::boot_o_6 P::boot_o_7 P::boot_o_8 P::boot_o_9 P::boot_o_10 P::x0::x1::x2::x3::[])) (.mk [] [] [] 0 [] [] false #[] [] 0 false false false 0 [2000,10,10] false 0 true [] [] 0 false)
noncomputable def hb(P:Params):Heap:=ha P
abbrev st0:List Stmt:=[top 0,top 1,top 2,top 3,top 4,top 5,top 6,top 7,top 8,top 9,top 10,top 11,top 12,top 13]
abbrev st1:List Stmt:=[top 14,top 15,top 16,top 17,top 18,top 19,top 20,top 21,top 22,top 23,top 24,top 25,top 26,top 27,top 28,top 29,top 30,top 31,top 32,top 33,top 34,top 35,top 36,top 37,top 38,top 39,top 40,top 41,top 42,top 43,top 44,top 45,top 46,top 47,top 48,top 49,top 50,top 51,top 52,top 53,top 54,top 55,top 56,top 57,top 58,top 59,top 60,top 61,top 62,top 63,top 64,top 65,top 66,top 67,top 68,top 69,top 70,top 71,top 72]
abbrev st2:List Stmt:=[top 73,top 74,top 75,top 76,top 77,top 78,top 79,top 80,top 81,top 82,top 83,top 84,top 85,top 86,top 87,top 88,top 89,top 90,top 91,top 92,top 93,top 94,top 95,top 96,top 97,top 98,top 99,top 100]
abbrev bb:List Stmt:=st0++(st1++(st2++([])))
def env:Env:={ scope:=PySem.Challenge.pw_pebbletoll_k67_whole_three_roads_to_enou.main.scope,locals:=mainNs,globals:=mainNs,cells:=[],code:=(.ref 13),frame:=some 14 }
abbrev cE:Code:=.body bb env
theorem aya(w:World)(os:OsState):topGo treeTable PySem.Challenge.pw_pebbletoll_k67_whole_three_roads_to_enou w 11 (some (.ref 6)) 12 (Shared.mk (boot_heap w.params) (.mk []) boot_drawn boot_toks os) (topStub PySem.Challenge.pw_pebbletoll_k67_whole_three_roads_to_enou)=some ((Shared.mk (ha w.params) (.mk []) (.mk 0 0 0 0) 187 os),Thread.mk (denote treeTable cE) cE (.mk 0 0 0 0) [topFrame (.mk 0 0 0 0)]):=by kernel_rfl
theorem ZK(w:World)(os:OsState):segRun treeTable PySem.Challenge.pw_pebbletoll_k67_whole_three_roads_to_enou w 11 (some (.ref 6)) 1 1 (Shared.mk (ha w.params) (.mk []) (.mk 0 0 0 0) 187 os) (blockOf bb env cE (.mk 0 0 0 0) [topFrame (.mk 0 0 0 0)])=some (.next,(Shared.mk (hb w.params) (.mk []) (.mk 0 0 0 0) 187 os),cE,(.mk 0 0 0 0)):=by kernel_rfl
def x4(P:Params):Obj:=(.mk (.type "dict") none (.dict #[(en P "__name__" 165 (.str "pebbletoll.webs" 335)),(en P "__doc__" 166 .none),(en P "__package__" 167 .none),(en P "__loader__" 168 (.builtin "__main__.__loader__#opaque")),(en P "__spec__" 169 .none),(en P "__annotations__" 170 (.ref 6)),(en P "__builtins__" 171 (.ref 4)),(en P "__file__" 173 (.str "/claim/cut.py" 172)),(en P "__cached__" 174 .none),(en P "TollError" 206 (.ref 24)),(en P "BadWeb" 222 (.ref 37)),(en P "NoPlace" 238 (.ref 49)),(en P "NoRoad" 254 (.ref 61)),(en P "BadLaying" 270 (.ref 73)),(en P "BadWish" 286 (.ref 85)),(en P "TooMany" 302 (.ref 97)),(en P "NoNumber" 318 (.ref 109)),(en P "NoWorst" 334 (.ref 121)),(en P "MOST_PLACES" 338 (.int 24 337)),(en P "LEAST_TOLL" 340 (.int 2 339)),(en P "MOST_TOLL" 342 (.int 1000000 341))] 21) #[])
def x5:Obj:=(.mk .none none (.fields (tF [(2,20),(4,33),(6,45),(8,57),(10,69),(12,81),(14,93),(16,105),(18,117)]).toArray) #[])
def x6:Obj:=(tO #[(.type "ValueError")])
def x7:Obj:=(.mk (.type "builtin_function_or_method") none (.fields #[(.builtin "type.__prepare__"),(.type "type")]) #[])
def x8(P:Params):Obj:=(.mk (.type "dict") none (.dict #[(en P "__module__" 196 (.str "pebbletoll.errors" 187)),(en P "__qualname__" 198 (.str "TollError" 197)),(en P "__firstlineno__" 200 (.int 2 199)),(en P "__static_attributes__" 201 (.ref 22))] 4) #[])
def x9:Obj:=(cO "TollError" "TollError" 191 192 193 2 0 0 0 0 (.ref 18) false 181 (.ref 19) .none .none .none .none 194 2 195)
def x10:Obj:=(.mk (.type "frame") none .plain #[(some (.ref 20)),(some (.ref 3)),(some (.ref 17)),none,(some (.str "pebbletoll.errors" 187)),none,(some (.ref 0))])
def x11(P:Params):Obj:=(.mk (.type "dict") none (.dict #[(en P "__module__" 196 (.str "pebbletoll.errors" 187)),(en P "__firstlineno__" 200 (.int 2 199)),(en P "__static_attributes__" 201 (.ref 22)),(en P "__weakref__" 203 (.ref 25)),(en P "__doc__" 204 .none)] 3) #[])
def x12:Obj:=(.mk (.type "type") none (.cls (.mk "TollError" [(.type "ValueError")] [(.ref 24),(.type "ValueError"),(.type "Exception"),(.type "BaseException"),(.type "object")] 23 "TollError" true [] [(.ref 37),(.ref 49),(.ref 61),(.ref 73),(.ref 85),(.ref 97),(.ref 109),(.ref 121)] false none false)) #[(some (.ref 15)),none,(some (.str "TollError" 189)),(some (.str "TollError" 197)),(some (.builtin "ValueError.__new__")),(some (.bool true))])
def x13:Obj:=(.mk (.type "getset_descriptor") none (.fields #[(.str "__weakref__" 202),(.ref 24),(.builtin "ExceptionGroup.__weakref__"),.none]) #[])
def x14:Obj:=(.mk (.type "super") none (.fields #[(.ref 24),(.ref 24),(.ref 24)]) #[])
def x15:Obj:=(.mk (.type "builtin_function_or_method") none (.fields #[(.builtin "object.__init_subclass__"),(.ref 24)]) #[])
def x16:Obj:=(tO #[(.ref 24)])
def x17(P:Params):Obj:=(.mk (.type "dict") none (.dict #[(en P "__module__" 214 (.str "pebbletoll.errors" 187)),(en P "__qualname__" 216 (.str "BadWeb" 215)),(en P "__firstlineno__" 218 (.int 4 217)),(en P "__static_attributes__" 219 (.ref 35))] 4) #[])
def x18:Obj:=(cO "BadWeb" "BadWeb" 209 210 211 4 0 0 0 0 (.ref 31) false 181 (.ref 32) .none .none .none .none 212 4 213)
def x19:Obj:=(.mk (.type "frame") none .plain #[(some (.ref 33)),(some (.ref 3)),(some (.ref 30)),none,(some (.str "pebbletoll.errors" 187)),none,(some (.ref 0))])
def x20(P:Params):Obj:=(.mk (.type "dict") none (.dict #[(en P "__module__" 214 (.str "pebbletoll.errors" 187)),(en P "__firstlineno__" 218 (.int 4 217)),(en P "__static_attributes__" 219 (.ref 35)),(en P "__doc__" 220 .none)] 2) #[])
def x21:Obj:=(.mk (.type "type") none (.cls (.mk "BadWeb" [(.ref 24)] [(.ref 37),(.ref 24),(.type "ValueError"),(.type "Exception"),(.type "BaseException"),(.type "object")] 36 "BadWeb" true [] [] false none false)) #[(some (.ref 28)),none,(some (.str "BadWeb" 207)),(some (.str "BadWeb" 215)),(some (.builtin "ValueError.__new__")),(some (.bool true))])
def x22:Obj:=(.mk (.type "super") none (.fields #[(.ref 37),(.ref 37),(.ref 37)]) #[])
def x23:Obj:=(.mk (.type "builtin_function_or_method") none (.fields #[(.builtin "object.__init_subclass__"),(.ref 37)]) #[])
def x24(P:Params):Obj:=(.mk (.type "dict") none (.dict #[(en P "__module__" 230 (.str "pebbletoll.errors" 187)),(en P "__qualname__" 232 (.str "NoPlace" 231)),(en P "__firstlineno__" 234 (.int 6 233)),(en P "__static_attributes__" 235 (.ref 47))] 4) #[])
def x25:Obj:=(cO "NoPlace" "NoPlace" 225 226 227 6 0 0 0 0 (.ref 43) false 181 (.ref 44) .none .none .none .none 228 6 229)
def x26:Obj:=(.mk (.type "frame") none .plain #[(some (.ref 45)),(some (.ref 3)),(some (.ref 42)),none,(some (.str "pebbletoll.errors" 187)),none,(some (.ref 0))])
def x27(P:Params):Obj:=(.mk (.type "dict") none (.dict #[(en P "__module__" 230 (.str "pebbletoll.errors" 187)),(en P "__firstlineno__" 234 (.int 6 233)),(en P "__static_attributes__" 235 (.ref 47)),(en P "__doc__" 236 .none)] 2) #[])
def x28:Obj:=(.mk (.type "type") none (.cls (.mk "NoPlace" [(.ref 24)] [(.ref 49),(.ref 24),(.type "ValueError"),(.type "Exception"),(.type "BaseException"),(.type "object")] 48 "NoPlace" true [] [] false none false)) #[(some (.ref 40)),none,(some (.str "NoPlace" 223)),(some (.str "NoPlace" 231)),(some (.builtin "ValueError.__new__")),(some (.bool true))])
def x29:Obj:=(.mk (.type "super") none (.fields #[(.ref 49),(.ref 49),(.ref 49)]) #[])
def x30:Obj:=(.mk (.type "builtin_function_or_method") none (.fields #[(.builtin "object.__init_subclass__"),(.ref 49)]) #[])
def x31(P:Params):Obj:=(.mk (.type "dict") none (.dict #[(en P "__module__" 246 (.str "pebbletoll.errors" 187)),(en P "__qualname__" 248 (.str "NoRoad" 247)),(en P "__firstlineno__" 250 (.int 8 249)),(en P "__static_attributes__" 251 (.ref 59))] 4) #[])
def x32:Obj:=(cO "NoRoad" "NoRoad" 241 242 243 8 0 0 0 0 (.ref 55) false 181 (.ref 56) .none .none .none .none 244 8 245)
def x33:Obj:=(.mk (.type "frame") none .plain #[(some (.ref 57)),(some (.ref 3)),(some (.ref 54)),none,(some (.str "pebbletoll.errors" 187)),none,(some (.ref 0))])
def x34(P:Params):Obj:=(.mk (.type "dict") none (.dict #[(en P "__module__" 246 (.str "pebbletoll.errors" 187)),(en P "__firstlineno__" 250 (.int 8 249)),(en P "__static_attributes__" 251 (.ref 59)),(en P "__doc__" 252 .none)] 2) #[])
def x35:Obj:=(.mk (.type "type") none (.cls (.mk "NoRoad" [(.ref 24)] [(.ref 61),(.ref 24),(.type "ValueError"),(.type "Exception"),(.type "BaseException"),(.type "object")] 60 "NoRoad" true [] [] false none false)) #[(some (.ref 52)),none,(some (.str "NoRoad" 239)),(some (.str "NoRoad" 247)),(some (.builtin "ValueError.__new__")),(some (.bool true))])
def x36:Obj:=(.mk (.type "super") none (.fields #[(.ref 61),(.ref 61),(.ref 61)]) #[])
def x37:Obj:=(.mk (.type "builtin_function_or_method") none (.fields #[(.builtin "object.__init_subclass__"),(.ref 61)]) #[])
def x38(P:Params):Obj:=(.mk (.type "dict") none (.dict #[(en P "__module__" 262 (.str "pebbletoll.errors" 187)),(en P "__qualname__" 264 (.str "BadLaying" 263)),(en P "__firstlineno__" 266 (.int 10 265)),(en P "__static_attributes__" 267 (.ref 71))] 4) #[])
def x39:Obj:=(cO "BadLaying" "BadLaying" 257 258 259 10 0 0 0 0 (.ref 67) false 181 (.ref 68) .none .none .none .none 260 10 261)
def x40:Obj:=(.mk (.type "frame") none .plain #[(some (.ref 69)),(some (.ref 3)),(some (.ref 66)),none,(some (.str "pebbletoll.errors" 187)),none,(some (.ref 0))])
def x41(P:Params):Obj:=(.mk (.type "dict") none (.dict #[(en P "__module__" 262 (.str "pebbletoll.errors" 187)),(en P "__firstlineno__" 266 (.int 10 265)),(en P "__static_attributes__" 267 (.ref 71)),(en P "__doc__" 268 .none)] 2) #[])
def x42:Obj:=(.mk (.type "type") none (.cls (.mk "BadLaying" [(.ref 24)] [(.ref 73),(.ref 24),(.type "ValueError"),(.type "Exception"),(.type "BaseException"),(.type "object")] 72 "BadLaying" true [] [] false none false)) #[(some (.ref 64)),none,(some (.str "BadLaying" 255)),(some (.str "BadLaying" 263)),(some (.builtin "ValueError.__new__")),(some (.bool true))])
def x43:Obj:=(.mk (.type "super") none (.fields #[(.ref 73),(.ref 73),(.ref 73)]) #[])
def x44:Obj:=(.mk (.type "builtin_function_or_method") none (.fields #[(.builtin "object.__init_subclass__"),(.ref 73)]) #[])
def x45(P:Params):Obj:=(.mk (.type "dict") none (.dict #[(en P "__module__" 278 (.str "pebbletoll.errors" 187)),(en P "__qualname__" 280 (.str "BadWish" 279)),(en P "__firstlineno__" 282 (.int 12 281)),(en P "__static_attributes__" 283 (.ref 83))] 4) #[])
def x46:Obj:=(cO "BadWish" "BadWish" 273 274 275 12 0 0 0 0 (.ref 79) false 181 (.ref 80) .none .none .none .none 276 12 277)
def x47:Obj:=(.mk (.type "frame") none .plain #[(some (.ref 81)),(some (.ref 3)),(some (.ref 78)),none,(some (.str "pebbletoll.errors" 187)),none,(some (.ref 0))])
def x48(P:Params):Obj:=(.mk (.type "dict") none (.dict #[(en P "__module__" 278 (.str "pebbletoll.errors" 187)),(en P "__firstlineno__" 282 (.int 12 281)),(en P "__static_attributes__" 283 (.ref 83)),(en P "__doc__" 284 .none)] 2) #[])
def x49:Obj:=(.mk (.type "type") none (.cls (.mk "BadWish" [(.ref 24)] [(.ref 85),(.ref 24),(.type "ValueError"),(.type "Exception"),(.type "BaseException"),(.type "object")] 84 "BadWish" true [] [] false none false)) #[(some (.ref 76)),none,(some (.str "BadWish" 271)),(some (.str "BadWish" 279)),(some (.builtin "ValueError.__new__")),(some (.bool true))])
def x50:Obj:=(.mk (.type "super") none (.fields #[(.ref 85),(.ref 85),(.ref 85)]) #[])
def x51:Obj:=(.mk (.type "builtin_function_or_method") none (.fields #[(.builtin "object.__init_subclass__"),(.ref 85)]) #[])
def x52(P:Params):Obj:=(.mk (.type "dict") none (.dict #[(en P "__module__" 294 (.str "pebbletoll.errors" 187)),(en P "__qualname__" 296 (.str "TooMany" 295)),(en P "__firstlineno__" 298 (.int 14 297)),(en P "__static_attributes__" 299 (.ref 95))] 4) #[])
def x53:Obj:=(cO "TooMany" "TooMany" 289 290 291 14 0 0 0 0 (.ref 91) false 181 (.ref 92) .none .none .none .none 292 14 293)
def x54:Obj:=(.mk (.type "frame") none .plain #[(some (.ref 93)),(some (.ref 3)),(some (.ref 90)),none,(some (.str "pebbletoll.errors" 187)),none,(some (.ref 0))])
def x55(P:Params):Obj:=(.mk (.type "dict") none (.dict #[(en P "__module__" 294 (.str "pebbletoll.errors" 187)),(en P "__firstlineno__" 298 (.int 14 297)),(en P "__static_attributes__" 299 (.ref 95)),(en P "__doc__" 300 .none)] 2) #[])
def x56:Obj:=(.mk (.type "type") none (.cls (.mk "TooMany" [(.ref 24)] [(.ref 97),(.ref 24),(.type "ValueError"),(.type "Exception"),(.type "BaseException"),(.type "object")] 96 "TooMany" true [] [] false none false)) #[(some (.ref 88)),none,(some (.str "TooMany" 287)),(some (.str "TooMany" 295)),(some (.builtin "ValueError.__new__")),(some (.bool true))])
def x57:Obj:=(.mk (.type "super") none (.fields #[(.ref 97),(.ref 97),(.ref 97)]) #[])
def x58:Obj:=(.mk (.type "builtin_function_or_method") none (.fields #[(.builtin "object.__init_subclass__"),(.ref 97)]) #[])
def x59(P:Params):Obj:=(.mk (.type "dict") none (.dict #[(en P "__module__" 310 (.str "pebbletoll.errors" 187)),(en P "__qualname__" 312 (.str "NoNumber" 311)),(en P "__firstlineno__" 314 (.int 16 313)),(en P "__static_attributes__" 315 (.ref 107))] 4) #[])
def x60:Obj:=(cO "NoNumber" "NoNumber" 305 306 307 16 0 0 0 0 (.ref 103) false 181 (.ref 104) .none .none .none .none 308 16 309)
def x61:Obj:=(.mk (.type "frame") none .plain #[(some (.ref 105)),(some (.ref 3)),(some (.ref 102)),none,(some (.str "pebbletoll.errors" 187)),none,(some (.ref 0))])
def x62(P:Params):Obj:=(.mk (.type "dict") none (.dict #[(en P "__module__" 310 (.str "pebbletoll.errors" 187)),(en P "__firstlineno__" 314 (.int 16 313)),(en P "__static_attributes__" 315 (.ref 107)),(en P "__doc__" 316 .none)] 2) #[])
def x63:Obj:=(.mk (.type "type") none (.cls (.mk "NoNumber" [(.ref 24)] [(.ref 109),(.ref 24),(.type "ValueError"),(.type "Exception"),(.type "BaseException"),(.type "object")] 108 "NoNumber" true [] [] false none false)) #[(some (.ref 100)),none,(some (.str "NoNumber" 303)),(some (.str "NoNumber" 311)),(some (.builtin "ValueError.__new__")),(some (.bool true))])
def x64:Obj:=(.mk (.type "super") none (.fields #[(.ref 109),(.ref 109),(.ref 109)]) #[])
def x65:Obj:=(.mk (.type "builtin_function_or_method") none (.fields #[(.builtin "object.__init_subclass__"),(.ref 109)]) #[])
def x66(P:Params):Obj:=(.mk (.type "dict") none (.dict #[(en P "__module__" 326 (.str "pebbletoll.errors" 187)),(en P "__qualname__" 328 (.str "NoWorst" 327)),(en P "__firstlineno__" 330 (.int 18 329)),(en P "__static_attributes__" 331 (.ref 119))] 4) #[])
def x67:Obj:=(cO "NoWorst" "NoWorst" 321 322 323 18 0 0 0 0 (.ref 115) false 181 (.ref 116) .none .none .none .none 324 18 325)
def x68:Obj:=(.mk (.type "frame") none .plain #[(some (.ref 117)),(some (.ref 3)),(some (.ref 114)),none,(some (.str "pebbletoll.errors" 187)),none,(some (.ref 0))])
def x69(P:Params):Obj:=(.mk (.type "dict") none (.dict #[(en P "__module__" 326 (.str "pebbletoll.errors" 187)),(en P "__firstlineno__" 330 (.int 18 329)),(en P "__static_attributes__" 331 (.ref 119)),(en P "__doc__" 332 .none)] 2) #[])
def x70:Obj:=(.mk (.type "type") none (.cls (.mk "NoWorst" [(.ref 24)] [(.ref 121),(.ref 24),(.type "ValueError"),(.type "Exception"),(.type "BaseException"),(.type "object")] 120 "NoWorst" true [] [] false none false)) #[(some (.ref 112)),none,(some (.str "NoWorst" 319)),(some (.str "NoWorst" 327)),(some (.builtin "ValueError.__new__")),(some (.bool true))])
def x71:Obj:=(.mk (.type "super") none (.fields #[(.ref 121),(.ref 121),(.ref 121)]) #[])
def x72:Obj:=(.mk (.type "builtin_function_or_method") none (.fields #[(.builtin "object.__init_subclass__"),(.ref 121)]) #[])
noncomputable def h0(P:Params):Heap:=.mk (.mk (boot_o_0 P::boot_o_1 P::boot_o_2 P::x4 P::boot_o_4 P::boot_o_5 P::boot_o_6 P::boot_o_7 P::boot_o_8 P::boot_o_9 P::boot_o_10 P::x0::x5::x2::x3::x6::x7::x8 P::x0::x1::x9::x10::x0::x11 P::x12::x13::x14::x15::x16::x7::x17 P::x0::x1::x18::x19::x0::x20 P::x21::x22::x23::x16::x7::x24 P::x0::x1::x25::x26::x0::x27 P::x28::x29::x30::x16::x7::x31 P::x0::x1::x32::x33::x0::x34 P::x35::x36::x37::x16::x7::x38 P::x0::x1::x39::x40::x0::x41 P::x42::x43::x44::x16::x7::x45 P::x0::x1::x46::x47::x0::x48 P::x49::x50::x51::x16::x7::x52 P::x0::x1::x53::x54::x0::x55 P::x56::x57::x58::x16::x7::x59 P::x0::x1::x60::x61::x0::x62 P::x63::x64::x65::x16::x7::x66 P::x0::x1::x67::x68::x0::x69 P::x70::x71::x72::[])) (.mk [] [] [] 0 [] [] false #[] [] 0 false false false 0 [2000,10,10] false 0 true [] [] 0 false)
theorem aja(w:World)(os:OsState):segRun treeTable PySem.Challenge.pw_pebbletoll_k67_whole_three_roads_to_enou w 11 (some (.ref 6)) 1 1936 (Shared.mk (hb w.params) (.mk []) (.mk 0 0 0 0) 187 os) (piecesOf st0 env cE (.mk 0 0 0 0) [topFrame (.mk 0 0 0 0)])=some (.next,(Shared.mk (h0 w.params) (.mk []) (.mk 0 0 0 0) 343 os),cE,(.mk 23 0 23 9)):=by kernel_rfl
def x73(P:Params):Obj:=(.mk (.type "dict") none (.dict #[(en P "__name__" 165 (.str "pebbletoll.worsts" 831)),(en P "__doc__" 166 .none),(en P "__package__" 167 .none),(en P "__loader__" 168 (.builtin "__main__.__loader__#opaque")),(en P "__spec__" 169 .none),(en P "__annotations__" 170 (.ref 6)),(en P "__builtins__" 171 (.ref 4)),(en P "__file__" 173 (.str "/claim/cut.py" 172)),(en P "__cached__" 174 .none),(en P "TollError" 206 (.ref 24)),(en P "BadWeb" 222 (.ref 37)),(en P "NoPlace" 238 (.ref 49)),(en P "NoRoad" 254 (.ref 61)),(en P "BadLaying" 270 (.ref 73)),(en P "BadWish" 286 (.ref 85)),(en P "TooMany" 302 (.ref 97)),(en P "NoNumber" 318 (.ref 109)),(en P "NoWorst" 334 (.ref 121)),(en P "MOST_PLACES" 338 (.int 24 337)),(en P "LEAST_TOLL" 340 (.int 2 339)),(en P "MOST_TOLL" 342 (.int 1000000 341)),(en P "Web" 370 (.ref 138)),(en P "toll" 383 (.ref 149)),(en P "neighbours" 391 (.ref 156)),(en P "check_place" 399 (.ref 163)),(en P "is_place" 407 (.ref 170)),(en P "check_counts" 415 (.ref 177)),(en P "check_ends" 423 (.ref 184)),(en P "check_tolls" 431 (.ref 191)),(en P "check_joined" 443 (.ref 198)),(en P "other_ends" 453 (.ref 205)),(en P "laying_of" 463 (.ref 212)),(en P "is_filled" 469 (.ref 217)),(en P "total" 476 (.ref 224)),(en P "ahead" 491 (.ref 231)),(en P "down" 504 (.ref 238)),(en P "kids" 510 (.ref 243)),(en P "inward" 516 (.ref 248)),(en P "wish_of" 526 (.ref 255)),(en P "standings" 532 (.ref 260)),(en P "handed_on" 542 (.ref 267)),(en P "standing" 552 (.ref 274)),(en P "is_met" 561 (.ref 281)),(en P "needs" 575 (.ref 288)),(en P "always" 583 (.ref 295)),(en P "fails" 589 (.ref 300)),(en P "is_idle" 597 (.ref 307)),(en P "failing" 606 (.ref 314)),(en P "Outlook" 636 (.ref 329)),(en P "idle_load" 645 (.ref 340)),(en P "idle_kids" 656 (.ref 347)),(en P "added" 662 (.ref 352)),(en P "greatest_load" 675 (.ref 359)),(en P "load_by" 687 (.ref 366)),(en P "borne" 699 (.ref 373)),(en P "bound_by" 712 (.ref 380)),(en P "check_wanted" 721 (.ref 387)),(en P "least_weights" 732 (.ref 394)),(en P "enough" 741 (.ref 401)),(en P "worst" 747 (.ref 406)),(en P "bearers" 759 (.ref 413)),(en P "is_heavy" 769 (.ref 420)),(en P "gathered" 783 (.ref 427)),(en P "most" 792 (.ref 434)),(en P "differences" 800 (.ref 439)),(en P "value_at" 812 (.ref 446)),(en P "first_values" 818 (.ref 451)),(en P "parted" 824 (.ref 456)),(en P "parted_at" 830 (.ref 461)),(en P "MOST_PEBBLES" 834 (.int 1000000000000 833)),(en P "is_worst" 846 (.ref 468)),(en P "worst_many" 855 (.ref 475))] 72) #[])
def x74:Obj:=(.mk .none none (.fields (tF [(2,20),(4,33),(6,45),(8,57),(10,69),(12,81),(14,93),(16,105),(18,117),(24,129),(35,148),(44,155),(47,162),(50,169),(52,176),(57,183),(62,190),(66,197),(77,204),(86,211),(90,216),(92,223),(95,230),(106,237),(116,242),(118,247),(122,254),(126,259),(133,266),(137,273),(139,280),(142,287),(147,294),(151,299),(156,306),(158,313),(160,320),(169,339),(173,346),(179,351),(181,358),(190,365),(195,372),(197,379),(203,386),(207,393),(212,400),(214,405),(223,412),(230,419),(233,426),(238,433),(241,438),(248,445),(255,450),(257,455),(259,460),(263,467),(267,474)]).toArray) #[])
def x75(P:Params):Obj:=(.mk (.type "dict") none (.dict #[(en P "__module__" 350 (.str "pebbletoll.webs" 335)),(en P "__qualname__" 352 (.str "Web" 351)),(en P "__firstlineno__" 354 (.int 24 353)),(en P "__init__" 360 (.ref 135)),(en P "__static_attributes__" 363 (.ref 136))] 5) #[])
def x76:Obj:=(.mk .none none (.fields #[(.int 26 0),(.int 4 0),(.ref 134)]) #[])
def x77:Obj:=(cO "Web" "Web" 345 346 347 24 0 0 0 0 (.ref 127) false 181 (.ref 128) .none .none .none .none 348 24 349)
def x78:Obj:=(.mk (.type "frame") none .plain #[(some (.ref 129)),(some (.ref 3)),(some (.ref 126)),none,(some (.str "pebbletoll.webs" 335)),none,(some (.ref 0))])
def x79:Obj:=(fR "__init__" "Web.__init__" (inC (top 14) 0))
def x80:Obj:=(cO "__init__" "Web.__init__" 355 356 357 26 3 0 0 3 (.ref 131) true 181 (.ref 132) .none .none .none (.ref 133) 358 26 359)
def x81:Obj:=(fO "__init__" "Web.__init__" (inC (top 14) 0) (.str "pebbletoll.webs" 335) (.ref 134))
def x82:Obj:=(tS 361 ["many","roads"])
def x83(P:Params):Obj:=(.mk (.type "dict") none (.dict #[(en P "__module__" 350 (.str "pebbletoll.webs" 335)),(en P "__firstlineno__" 354 (.int 24 353)),(en P "__init__" 360 (.ref 135)),(en P "__static_attributes__" 363 (.ref 136)),(en P "__dict__" 365 (.ref 139)),(en P "__weakref__" 367 (.ref 140)),(en P "__doc__" 368 .none)] 4) #[])
def x84:Obj:=(.mk (.type "type") none (.cls (.mk "Web" [(.type "object")] [(.ref 138),(.type "object")] 137 "Web" true [] [] false none false)) #[none,none,(some (.str "Web" 343)),(some (.str "Web" 351)),(some (.builtin "object.__new__")),(some (.bool true))])
def x85:Obj:=(.mk (.type "getset_descriptor") none (.fields #[(.str "__dict__" 364),(.ref 138),(.builtin "function.__dict__"),(.builtin "function.__dict__#set")]) #[])
def x86:Obj:=(.mk (.type "getset_descriptor") none (.fields #[(.str "__weakref__" 366),(.ref 138),(.builtin "ExceptionGroup.__weakref__"),.none]) #[])
def x87:Obj:=(.mk (.type "super") none (.fields #[(.ref 138),(.ref 138),(.ref 138)]) #[])
def x88:Obj:=(.mk (.type "builtin_function_or_method") none (.fields #[(.builtin "object.__init_subclass__"),(.ref 138)]) #[])
def x89:Obj:=(tS 374 ["web","a","b","one","other","there","back"])
def x90:Obj:=(fr "toll" (top 15))
def x91:Obj:=(cF "toll" 371 35 3 3 143 381)
def x92:Obj:=(fo "toll" (top 15) (.str "pebbletoll.webs" 335) (.ref 148))
def x93:Obj:=(tS 387 ["web","a"])
def x94:Obj:=(fr "neighbours" (top 16))
def x95:Obj:=(cF "neighbours" 384 44 2 3 150 389)
def x96:Obj:=(fo "neighbours" (top 16) (.str "pebbletoll.webs" 335) (.ref 155))
def x97:Obj:=(tS 395 ["web","number"])
def x98:Obj:=(fr "check_place" (top 17))
def x99:Obj:=(cF "check_place" 392 47 2 3 157 397)
def RB:Obj:=(fo "check_place" (top 17) (.str "pebbletoll.webs" 335) (.ref 162))
def YB:Obj:=(tS 403 ["many","number"])
def WF:Obj:=(fr "is_place" (top 18))
def Tf:Obj:=(cF "is_place" 400 50 2 3 164 405)
def RT:Obj:=(fo "is_place" (top 18) (.str "pebbletoll.webs" 335) (.ref 169))
def Yb:Obj:=(tS 411 ["many","roads"])
def Ym:Obj:=(fr "check_counts" (top 19))
def T4:Obj:=(cF "check_counts" 408 52 2 3 171 413)
def Tj:Obj:=(fo "check_counts" (top 19) (.str "pebbletoll.webs" 335) (.ref 176))
def Y5:Obj:=(tS 419 ["many","road"])
def YS:Obj:=(fr "check_ends" (top 20))
def Um:Obj:=(cF "check_ends" 416 57 2 3 178 421)
def SV:Obj:=(fo "check_ends" (top 20) (.str "pebbletoll.webs" 335) (.ref 183))
def V7:Obj:=(tS 427 ["road","number"])
def Wl:Obj:=(fr "check_tolls" (top 21))
def Sh:Obj:=(cF "check_tolls" 424 62 1 3 185 429)
def TD:Obj:=(fo "check_tolls" (top 21) (.str "pebbletoll.webs" 335) (.ref 190))
def WQ:Obj:=(tS 435 ["many","roads","reached","waiting","place","end"])
def WO:Obj:=(fr "check_joined" (top 22))
def RJ:Obj:=(cF "check_joined" 432 66 2 3 192 441)
def Ue:Obj:=(fo "check_joined" (top 22) (.str "pebbletoll.webs" 335) (.ref 197))
def WT:Obj:=(tS 447 ["roads","place","ends","road"])
def WY:Obj:=(fr "other_ends" (top 23))
def R9:Obj:=(cF "other_ends" 444 77 2 3 199 451)
def SK:Obj:=(fo "other_ends" (top 23) (.str "pebbletoll.webs" 335) (.ref 204))
def WS:Obj:=(tS 459 ["web","numbers"])
def Xe:Obj:=(fr "laying_of" (top 25))
def RG:Obj:=(cF "laying_of" 456 86 2 3 206 461)
def QS:Obj:=(fo "laying_of" (top 25) (.str "pebbletoll.layings" 454) (.ref 211))
def XV:Obj:=(fr "is_filled" (top 26))
def Sd:Obj:=(cO "is_filled" "is_filled" 464 465 466 90 2 0 0 3 (.ref 213) true 181 (.ref 214) .none .none .none (.ref 215) 467 90 468)
def Q2:Obj:=(fo "is_filled" (top 26) (.str "pebbletoll.layings" 454) (.ref 216))
def VX:Obj:=(tO #[(.str "numbers" 473)])
def W7:Obj:=(fr "total" (top 27))
def Rt:Obj:=(cF "total" 470 92 1 3 218 474)
def TQ:Obj:=(fo "total" (top 27) (.str "pebbletoll.layings" 454) (.ref 223))
def Xy:Obj:=(tS 482 ["web","r","nearer","waiting","place","front","kid"])
def YR:Obj:=(fr "ahead" (top 29))
def Sw:Obj:=(cF "ahead" 479 95 2 3 225 489)
def QT:Obj:=(fo "ahead" (top 29) (.str "pebbletoll.ways" 477) (.ref 230))
def Xu:Obj:=(tS 495 ["web","r","nearer","places","waiting","place","kid"])
def Yo:Obj:=(fr "down" (top 30))
def Q7:Obj:=(cF "down" 492 106 2 3 232 502)
def Q3:Obj:=(fo "down" (top 30) (.str "pebbletoll.ways" 477) (.ref 237))
def Yg:Obj:=(fr "kids" (top 31))
def Up:Obj:=(cO "kids" "kids" 505 506 507 116 3 0 0 3 (.ref 239) true 181 (.ref 240) .none .none .none (.ref 241) 508 116 509)
def Tt:Obj:=(fo "kids" (top 31) (.str "pebbletoll.ways" 477) (.ref 242))
def Zi:Obj:=(fr "inward" (top 32))
def Sy:Obj:=(cO "inward" "inward" 511 512 513 118 2 0 0 3 (.ref 244) true 181 (.ref 245) .none .none .none (.ref 246) 514 118 515)
def SQ:Obj:=(fo "inward" (top 32) (.str "pebbletoll.ways" 477) (.ref 247))
def Xi:Obj:=(tS 522 ["web","numbers"])
def Yx:Obj:=(fr "wish_of" (top 34))
def TC:Obj:=(cF "wish_of" 519 122 2 3 249 524)
def Ut:Obj:=(fo "wish_of" (top 34) (.str "pebbletoll.wishes" 517) (.ref 254))
def W0:Obj:=(fr "standings" (top 35))
def SN:Obj:=(cO "standings" "standings" 527 528 529 126 4 0 0 3 (.ref 256) true 181 (.ref 257) .none .none .none (.ref 258) 530 126 531)
def QX:Obj:=(fo "standings" (top 35) (.str "pebbletoll.wishes" 517) (.ref 259))
def Wa:Obj:=(tS 536 ["web","over","place","front"])
def Xr:Obj:=(fr "handed_on" (top 36))
def Uf:Obj:=(cF "handed_on" 533 133 4 3 261 540)
def Rh:Obj:=(fo "handed_on" (top 36) (.str "pebbletoll.wishes" 517) (.ref 266))
def WW:Obj:=(tS 546 ["web","laying","wish","r"])
def Ws:Obj:=(fr "standing" (top 37))
def SA:Obj:=(cF "standing" 543 137 4 3 268 550)
def Th:Obj:=(fo "standing" (top 37) (.str "pebbletoll.wishes" 517) (.ref 273))
def XN:Obj:=(tS 556 ["web","laying","wish"])
def Y4:Obj:=(fr "is_met" (top 38))
def R7:Obj:=(cF "is_met" 553 139 3 3 275 559)
def Sa:Obj:=(fo "is_met" (top 38) (.str "pebbletoll.wishes" 517) (.ref 280))
def Wr:Obj:=(tS 567 ["web","wish","r","found","place","front"])
def Xp:Obj:=(fr "needs" (top 40))
def RX:Obj:=(cF "needs" 564 142 3 3 282 573)
def Rf:Obj:=(fo "needs" (top 40) (.str "pebbletoll.always" 562) (.ref 287))
def Zj:Obj:=(tS 579 ["web","wish"])
def Zn:Obj:=(fr "always" (top 41))
def SW:Obj:=(cF "always" 576 147 2 3 289 581)
def QH:Obj:=(fo "always" (top 41) (.str "pebbletoll.always" 562) (.ref 294))
def YO:Obj:=(fr "fails" (top 42))
def S6:Obj:=(cO "fails" "fails" 584 585 586 151 2 0 0 3 (.ref 296) true 181 (.ref 297) .none .none .none (.ref 298) 587 151 588)
def TZ:Obj:=(fo "fails" (top 42) (.str "pebbletoll.always" 562) (.ref 299))
def Wk:Obj:=(tS 593 ["web","wish"])
def Zr:Obj:=(fr "is_idle" (top 43))
def TX:Obj:=(cF "is_idle" 590 156 2 3 301 595)
def Sx:Obj:=(fo "is_idle" (top 43) (.str "pebbletoll.always" 562) (.ref 306))
def V4:Obj:=(tS 601 ["web","wish","r"])
def V9:Obj:=(fr "failing" (top 44))
def Se:Obj:=(cF "failing" 598 158 3 3 308 604)
def TM:Obj:=(fo "failing" (top 44) (.str "pebbletoll.always" 562) (.ref 313))
def V3(P:Params):Obj:=(.mk (.type "dict") none (.dict #[(en P "__module__" 614 (.str "pebbletoll.always" 562)),(en P "__qualname__" 616 (.str "Outlook" 615)),(en P "__firstlineno__" 618 (.int 160 617)),(en P "__init__" 624 (.ref 326)),(en P "__static_attributes__" 629 (.ref 327))] 5) #[])
def X4:Obj:=(.mk .none none (.fields #[(.int 162 0),(.int 4 0),(.ref 325)]) #[])
def Zk:Obj:=(cO "Outlook" "Outlook" 609 610 611 160 0 0 0 0 (.ref 318) false 181 (.ref 319) .none .none .none .none 612 160 613)
def Zo:Obj:=(.mk (.type "frame") none .plain #[(some (.ref 320)),(some (.ref 3)),(some (.ref 317)),none,(some (.str "pebbletoll.always" 562)),none,(some (.ref 0))])
def Wb:Obj:=(fR "__init__" "Outlook.__init__" (inC (top 45) 0))
def S8:Obj:=(cO "__init__" "Outlook.__init__" 619 620 621 162 4 0 0 3 (.ref 322) true 181 (.ref 323) .none .none .none (.ref 324) 622 162 623)
def Ud:Obj:=(fO "__init__" "Outlook.__init__" (inC (top 45) 0) (.str "pebbletoll.always" 562) (.ref 325))
def Ze:Obj:=(tS 625 ["idle","kids","needs","web"])
def SI(P:Params):Obj:=(.mk (.type "dict") none (.dict #[(en P "__module__" 614 (.str "pebbletoll.always" 562)),(en P "__firstlineno__" 618 (.int 160 617)),(en P "__init__" 624 (.ref 326)),(en P "__static_attributes__" 629 (.ref 327)),(en P "__dict__" 631 (.ref 330)),(en P "__weakref__" 633 (.ref 331)),(en P "__doc__" 634 .none)] 4) #[])
def Sv:Obj:=(.mk (.type "type") none (.cls (.mk "Outlook" [(.type "object")] [(.ref 329),(.type "object")] 328 "Outlook" true [] [] false none false)) #[none,none,(some (.str "Outlook" 607)),(some (.str "Outlook" 615)),(some (.builtin "object.__new__")),(some (.bool true))])
def Sq:Obj:=(.mk (.type "getset_descriptor") none (.fields #[(.str "__dict__" 630),(.ref 329),(.builtin "function.__dict__"),(.builtin "function.__dict__#set")]) #[])
def RV:Obj:=(.mk (.type "getset_descriptor") none (.fields #[(.str "__weakref__" 632),(.ref 329),(.builtin "ExceptionGroup.__weakref__"),.none]) #[])
def Yy:Obj:=(.mk (.type "super") none (.fields #[(.ref 329),(.ref 329),(.ref 329)]) #[])
def WD:Obj:=(.mk (.type "builtin_function_or_method") none (.fields #[(.builtin "object.__init_subclass__"),(.ref 329)]) #[])
def WM:Obj:=(tS 640 ["outlook","place","front"])
def Wy:Obj:=(fr "idle_load" (top 46))
def SB:Obj:=(cF "idle_load" 637 169 3 3 334 643)
def Ta:Obj:=(fo "idle_load" (top 46) (.str "pebbletoll.always" 562) (.ref 339))
def W8:Obj:=(tS 649 ["outlook","place","left_out","load","kid"])
def XX:Obj:=(fr "idle_kids" (top 47))
def Rz:Obj:=(cF "idle_kids" 646 173 3 3 341 654)
def Sf:Obj:=(fo "idle_kids" (top 47) (.str "pebbletoll.always" 562) (.ref 346))
def XT:Obj:=(fr "added" (top 48))
def Rb:Obj:=(cO "added" "added" 657 658 659 179 2 0 0 3 (.ref 348) true 181 (.ref 349) .none .none .none (.ref 350) 660 179 661)
def Tu:Obj:=(fo "added" (top 48) (.str "pebbletoll.always" 562) (.ref 351))
def WE:Obj:=(tS 666 ["outlook","place","over","room","best","kid","load"])
def Xx:Obj:=(fr "greatest_load" (top 49))
def T7:Obj:=(cF "greatest_load" 663 181 3 3 353 673)
def QZ:Obj:=(fo "greatest_load" (top 49) (.str "pebbletoll.always" 562) (.ref 358))
def Wh:Obj:=(tS 679 ["outlook","place","kid","room","given","over"])
def Yn:Obj:=(fr "load_by" (top 50))
def RC:Obj:=(cF "load_by" 676 190 4 3 360 685)
def Rj:Obj:=(fo "load_by" (top 50) (.str "pebbletoll.always" 562) (.ref 365))
def Xj:Obj:=(tS 693 ["web","weights","place","front"])
def Xw:Obj:=(fr "borne" (top 52))
def Rr:Obj:=(cF "borne" 690 195 4 3 367 697)
def Ry:Obj:=(fo "borne" (top 52) (.str "pebbletoll.enough" 688) (.ref 372))
def WP:Obj:=(tS 703 ["web","r","wanted","weights","bound","place","front"])
def Wm:Obj:=(fr "bound_by" (top 53))
def SD:Obj:=(cF "bound_by" 700 197 4 3 374 710)
def Uq:Obj:=(fo "bound_by" (top 53) (.str "pebbletoll.enough" 688) (.ref 379))
def YQ:Obj:=(tS 716 ["web","r","wanted"])
def WZ:Obj:=(fr "check_wanted" (top 54))
def Ri:Obj:=(cF "check_wanted" 713 203 3 3 381 719)
def TY:Obj:=(fo "check_wanted" (top 54) (.str "pebbletoll.enough" 688) (.ref 386))
def X2:Obj:=(tS 725 ["web","r","weights","place","front"])
def XH:Obj:=(fr "least_weights" (top 55))
def Q1:Obj:=(cF "least_weights" 722 207 2 3 388 730)
def Uo:Obj:=(fo "least_weights" (top 55) (.str "pebbletoll.enough" 688) (.ref 393))
def V1:Obj:=(tS 736 ["web","r","wanted"])
def Zf:Obj:=(fr "enough" (top 56))
def S7:Obj:=(cF "enough" 733 212 3 3 395 739)
def Uh:Obj:=(fo "enough" (top 56) (.str "pebbletoll.enough" 688) (.ref 400))
def W4:Obj:=(fr "worst" (top 57))
def QK:Obj:=(cO "worst" "worst" 742 743 744 214 3 0 0 3 (.ref 402) true 181 (.ref 403) .none .none .none (.ref 404) 745 214 746)
def Rv:Obj:=(fo "worst" (top 57) (.str "pebbletoll.enough" 688) (.ref 405))
def Yp:Obj:=(tS 751 ["web","r","weights","chosen","place","front"])
def WG:Obj:=(fr "bearers" (top 58))
def Rl:Obj:=(cF "bearers" 748 223 2 3 407 757)
def Uc:Obj:=(fo "bearers" (top 58) (.str "pebbletoll.enough" 688) (.ref 412))
def YG:Obj:=(tS 763 ["web","weights","place","front"])
def XS:Obj:=(fr "is_heavy" (top 59))
def Q6:Obj:=(cF "is_heavy" 760 230 4 3 414 767)
def SC:Obj:=(fo "is_heavy" (top 59) (.str "pebbletoll.enough" 688) (.ref 419))
def WX:Obj:=(tS 775 ["web","laying","r","counts","place","front"])
def Yh:Obj:=(fr "gathered" (top 61))
def Te:Obj:=(cF "gathered" 772 233 3 3 421 781)
def SX:Obj:=(fo "gathered" (top 61) (.str "pebbletoll.bringing" 770) (.ref 426))
def YK:Obj:=(tS 787 ["web","laying","r"])
def Yd:Obj:=(fr "most" (top 62))
def Ur:Obj:=(cF "most" 784 238 3 3 428 790)
def RE:Obj:=(fo "most" (top 62) (.str "pebbletoll.bringing" 770) (.ref 433))
def Yw:Obj:=(fr "differences" (top 64))
def RY:Obj:=(cO "differences" "differences" 795 796 797 241 1 0 0 3 (.ref 435) true 181 (.ref 436) .none .none .none (.ref 437) 798 241 799)
def Tp:Obj:=(fo "differences" (top 64) (.str "pebbletoll.polynomials" 793) (.ref 438))
def YM:Obj:=(tS 804 ["found","at","value","choices","k","difference"])
def Wp:Obj:=(fr "value_at" (top 65))
def T5:Obj:=(cF "value_at" 801 248 2 3 440 810)
def Sg:Obj:=(fo "value_at" (top 65) (.str "pebbletoll.polynomials" 793) (.ref 445))
def YA:Obj:=(fr "first_values" (top 66))
def Ru:Obj:=(cO "first_values" "first_values" 813 814 815 255 2 0 0 3 (.ref 447) true 181 (.ref 448) .none .none .none (.ref 449) 816 255 817)
def T8:Obj:=(fo "first_values" (top 66) (.str "pebbletoll.polynomials" 793) (.ref 450))
def Wz:Obj:=(fr "parted" (top 67))
def Tq:Obj:=(cO "parted" "parted" 819 820 821 257 2 0 0 3 (.ref 452) true 181 (.ref 453) .none .none .none (.ref 454) 822 257 823)
def SE:Obj:=(fo "parted" (top 67) (.str "pebbletoll.polynomials" 793) (.ref 455))
def XE:Obj:=(fr "parted_at" (top 68))
def S3:Obj:=(cO "parted_at" "parted_at" 825 826 827 259 3 0 0 3 (.ref 457) true 181 (.ref 458) .none .none .none (.ref 459) 828 259 829)
def R6:Obj:=(fo "parted_at" (top 68) (.str "pebbletoll.polynomials" 793) (.ref 460))
def Yl:Obj:=(tS 838 ["web","r","wanted","laying","least","counts"])
def Yk:Obj:=(fr "is_worst" (top 71))
def Uk:Obj:=(cF "is_worst" 835 263 4 3 462 844)
def TR:Obj:=(fo "is_worst" (top 71) (.str "pebbletoll.worsts" 831) (.ref 467))
def Wv:Obj:=(tS 850 ["web","r","wanted"])
def Wd:Obj:=(fr "worst_many" (top 72))
def Tz:Obj:=(cF "worst_many" 847 267 3 3 469 853)
def Uj:Obj:=(fo "worst_many" (top 72) (.str "pebbletoll.worsts" 831) (.ref 474))
noncomputable def h1(P:Params):Heap:=.mk (.mk (boot_o_0 P::boot_o_1 P::boot_o_2 P::x73 P::boot_o_4 P::boot_o_5 P::boot_o_6 P::boot_o_7 P::boot_o_8 P::boot_o_9 P::boot_o_10 P::x0::x74::x2::x3::x6::x7::x8 P::x0::x1::x9::x10::x0::x11 P::x12::x13::x14::x15::x16::x7::x17 P::x0::x1::x18::x19::x0::x20 P::x21::x22::x23::x16::x7::x24 P::x0::x1::x25::x26::x0::x27 P::x28::x29::x30::x16::x7::x31 P::x0::x1::x32::x33::x0::x34 P::x35::x36::x37::x16::x7::x38 P::x0::x1::x39::x40::x0::x41 P::x42::x43::x44::x16::x7::x45 P::x0::x1::x46::x47::x0::x48 P::x49::x50::x51::x16::x7::x52 P::x0::x1::x53::x54::x0::x55 P::x56::x57::x58::x16::x7::x59 P::x0::x1::x60::x61::x0::x62 P::x63::x64::x65::x16::x7::x66 P::x0::x1::x67::x68::x0::x69 P::x70::x71::x72::x0::x7::x75 P::x0::x76::x77::x78::x0::x1::x79::x80::x81::x82::x83 P::x84::x85::x86::x87::x88::x0::x1::x89::x0::x90::x91::x92::x0::x1::x93::x0::x94::x95::x96::x0::x1::x97::x0::x98::x99::RB::x0::x1::YB::x0::WF::Tf::RT::x0::x1::Yb::x0::Ym::T4::Tj::x0::x1::Y5::x0::YS::Um::SV::x0::x1::V7::x0::Wl::Sh::TD::x0::x1::WQ::x0::WO::RJ::Ue::x0::x1::WT::x0::WY::R9::SK::x0::x1::WS::x0::Xe::RG::QS::x0::x1::XV::Sd::Q2::x0::x1::VX::x0::W7::Rt::TQ::x0::x1::Xy::x0::YR::Sw::QT::x0::x1::Xu::x0::Yo::Q7::Q3::x0::x1::Yg::Up::Tt::x0::x1::Zi::Sy::SQ::x0::x1::Xi::x0::Yx::TC::Ut::x0::x1::W0::SN::QX::x0::x1::Wa::x0::Xr::Uf::Rh::x0::x1::WW::x0::Ws::SA::Th::x0::x1::XN::x0::Y4::R7::Sa::x0::x1::Wr::x0::Xp::RX::Rf::x0::x1::Zj::x0::Zn::SW::QH::x0::x1::YO::S6::TZ::x0::x1::Wk::x0::Zr::TX::Sx::x0::x1::V4::x0::V9::Se::TM::x0::x7::V3 P::x0::X4::Zk::Zo::x0::x1::Wb::S8::Ud::Ze::SI P::Sv::Sq::RV::Yy::WD::x0::x1::WM::x0::Wy::SB::Ta::x0::x1::W8::x0::XX::Rz::Sf::x0::x1::XT::Rb::Tu::x0::x1::WE::x0::Xx::T7::QZ::x0::x1::Wh::x0::Yn::RC::Rj::x0::x1::Xj::x0::Xw::Rr::Ry::x0::x1::WP::x0::Wm::SD::Uq::x0::x1::YQ::x0::WZ::Ri::TY::x0::x1::X2::x0::XH::Q1::Uo::x0::x1::V1::x0::Zf::S7::Uh::x0::x1::W4::QK::Rv::x0::x1::Yp::x0::WG::Rl::Uc::x0::x1::YG::x0::XS::Q6::SC::x0::x1::WX::x0::Yh::Te::SX::x0::x1::YK::x0::Yd::Ur::RE::x0::x1::Yw::RY::Tp::x0::x1::YM::x0::Wp::T5::Sg::x0::x1::YA::Ru::T8::x0::x1::Wz::Tq::SE::x0::x1::XE::S3::R6::x0::x1::Yl::x0::Yk::Uk::TR::x0::x1::Wv::x0::Wd::Tz::Uj::[])) (.mk [] [] [] 0 [] [] false #[] [] 0 false false false 0 [2000,10,10] false 0 true [] [] 0 false)
theorem ZY(w:World)(os:OsState):segRun treeTable PySem.Challenge.pw_pebbletoll_k67_whole_three_roads_to_enou w 11 (some (.ref 6)) 1 1993 (Shared.mk (h0 w.params) (.mk []) (.mk 0 0 0 0) 343 os) (piecesOf st1 env cE (.mk 23 0 23 9) [topFrame (.mk 0 0 0 0)])=some (.next,(Shared.mk (h1 w.params) (.mk []) (.mk 0 0 0 0) 856 os),cE,(.mk 267 0 269 48)):=by kernel_rfl
def YX(P:Params):Obj:=(.mk (.type "dict") none (.dict #[(en P "__name__" 165 (.str "law_pebbletoll_k67_whole_three_roads_to_enou" 1065)),(en P "__doc__" 166 .none),(en P "__package__" 167 .none),(en P "__loader__" 168 (.builtin "__main__.__loader__#opaque")),(en P "__spec__" 169 .none),(en P "__annotations__" 170 (.ref 6)),(en P "__builtins__" 171 (.ref 4)),(en P "__file__" 173 (.str "/claim/cut.py" 172)),(en P "__cached__" 174 .none),(en P "TollError" 206 (.ref 24)),(en P "BadWeb" 222 (.ref 37)),(en P "NoPlace" 238 (.ref 49)),(en P "NoRoad" 254 (.ref 61)),(en P "BadLaying" 270 (.ref 73)),(en P "BadWish" 286 (.ref 85)),(en P "TooMany" 302 (.ref 97)),(en P "NoNumber" 318 (.ref 109)),(en P "NoWorst" 334 (.ref 121)),(en P "MOST_PLACES" 338 (.int 24 337)),(en P "LEAST_TOLL" 340 (.int 2 339)),(en P "MOST_TOLL" 342 (.int 1000000 341)),(en P "Web" 370 (.ref 138)),(en P "toll" 383 (.ref 149)),(en P "neighbours" 391 (.ref 156)),(en P "check_place" 399 (.ref 163)),(en P "is_place" 407 (.ref 170)),(en P "check_counts" 415 (.ref 177)),(en P "check_ends" 423 (.ref 184)),(en P "check_tolls" 431 (.ref 191)),(en P "check_joined" 443 (.ref 198)),(en P "other_ends" 453 (.ref 205)),(en P "laying_of" 463 (.ref 212)),(en P "is_filled" 469 (.ref 217)),(en P "total" 476 (.ref 224)),(en P "ahead" 491 (.ref 231)),(en P "down" 504 (.ref 238)),(en P "kids" 510 (.ref 243)),(en P "inward" 516 (.ref 248)),(en P "wish_of" 526 (.ref 255)),(en P "standings" 532 (.ref 260)),(en P "handed_on" 542 (.ref 267)),(en P "standing" 552 (.ref 274)),(en P "is_met" 561 (.ref 281)),(en P "needs" 575 (.ref 288)),(en P "always" 583 (.ref 295)),(en P "fails" 589 (.ref 300)),(en P "is_idle" 597 (.ref 307)),(en P "failing" 606 (.ref 314)),(en P "Outlook" 636 (.ref 329)),(en P "idle_load" 645 (.ref 340)),(en P "idle_kids" 656 (.ref 347)),(en P "added" 662 (.ref 352)),(en P "greatest_load" 675 (.ref 359)),(en P "load_by" 687 (.ref 366)),(en P "borne" 699 (.ref 373)),(en P "bound_by" 712 (.ref 380)),(en P "check_wanted" 721 (.ref 387)),(en P "least_weights" 732 (.ref 394)),(en P "enough" 741 (.ref 401)),(en P "worst" 747 (.ref 406)),(en P "bearers" 759 (.ref 413)),(en P "is_heavy" 769 (.ref 420)),(en P "gathered" 783 (.ref 427)),(en P "most" 792 (.ref 434)),(en P "differences" 800 (.ref 439)),(en P "value_at" 812 (.ref 446)),(en P "first_values" 818 (.ref 451)),(en P "parted" 824 (.ref 456)),(en P "parted_at" 830 (.ref 461)),(en P "MOST_PEBBLES" 834 (.int 1000000000000 833)),(en P "is_worst" 846 (.ref 468)),(en P "worst_many" 855 (.ref 475)),(en P "worst_at" 866 (.ref 482)),(en P "worst_number" 876 (.ref 489)),(en P "check_told" 885 (.ref 496)),(en P "Tally" 917 (.ref 511)),(en P "rests_of" 923 (.ref 520)),(en P "is_free" 932 (.ref 527)),(en P "ways_of" 941 (.ref 534)),(en P "ways_given" 951 (.ref 541)),(en P "held_for" 961 (.ref 548)),(en P "laying_at" 974 (.ref 555)),(en P "handed_down" 990 (.ref 562)),(en P "given_by" 1002 (.ref 569)),(en P "last_within" 1014 (.ref 576)),(en P "ways_before" 1025 (.ref 583)),(en P "course" 1039 (.ref 590)),(en P "number_of" 1049 (.ref 597)),(en P "number_beneath" 1064 (.ref 604)),(en P "_law_drawn" 1077 (.ref 611)),(en P "_law_toll" 1084 (.ref 618)),(en P "_law_roads" 1099 (.ref 625)),(en P "_law_web" 1109 (.ref 632)),(en P "_law_tolls" 1121 (.ref 639)),(en P "_law_down" 1135 (.ref 646)),(en P "_law_most" 1148 (.ref 653)),(en P "_law_numbers_right" 1161 (.ref 660)),(en P "_law_right" 1176 (.ref 667)),(en P "law" 1190 (.ref 674))] 99) #[])
def aMa:Obj:=(.mk .none none (.fields (tF [(2,20),(4,33),(6,45),(8,57),(10,69),(12,81),(14,93),(16,105),(18,117),(24,129),(35,148),(44,155),(47,162),(50,169),(52,176),(57,183),(62,190),(66,197),(77,204),(86,211),(90,216),(92,223),(95,230),(106,237),(116,242),(118,247),(122,254),(126,259),(133,266),(137,273),(139,280),(142,287),(147,294),(151,299),(156,306),(158,313),(160,320),(169,339),(173,346),(179,351),(181,358),(190,365),(195,372),(197,379),(203,386),(207,393),(212,400),(214,405),(223,412),(230,419),(233,426),(238,433),(241,438),(248,445),(255,450),(257,455),(259,460),(263,467),(267,474),(270,481),(276,488),(281,495),(284,502),(295,519),(307,526),(309,533),(311,540),(313,547),(315,554),(324,561),(335,568),(342,575),(352,582),(356,589),(363,596),(368,603),(378,610),(387,617),(391,624),(406,631),(412,638),(418,645),(428,652),(434,659),(445,666),(459,673)]).toArray) #[])
def apa:Obj:=(tS 859 ["web","r","wanted","number","tally"])
def aOa:Obj:=(fr "worst_at" (top 73))
def X9:Obj:=(cF "worst_at" 856 270 4 3 476 864)
def Y3:Obj:=(fo "worst_at" (top 73) (.str "pebbletoll.worsts" 831) (.ref 481))
def Z0:Obj:=(tS 870 ["web","r","wanted","laying"])
def ZV:Obj:=(fr "worst_number" (top 74))
def YJ:Obj:=(cF "worst_number" 867 276 4 3 483 874)
def Yc:Obj:=(fo "worst_number" (top 74) (.str "pebbletoll.worsts" 831) (.ref 488))
def ZT:Obj:=(tS 880 ["web","r","wanted"])
def aka:Obj:=(fr "check_told" (top 75))
def Xn:Obj:=(cF "check_told" 877 281 3 3 490 883)
def WN:Obj:=(fo "check_told" (top 75) (.str "pebbletoll.worsts" 831) (.ref 495))
def axa(P:Params):Obj:=(.mk (.type "dict") none (.dict #[(en P "__module__" 893 (.str "pebbletoll.worsts" 831)),(en P "__qualname__" 895 (.str "Tally" 894)),(en P "__firstlineno__" 897 (.int 284 896)),(en P "__init__" 903 (.ref 508)),(en P "__static_attributes__" 910 (.ref 509))] 5) #[])
def aca:Obj:=(.mk .none none (.fields #[(.int 286 0),(.int 4 0),(.ref 507)]) #[])
def ava:Obj:=(cO "Tally" "Tally" 888 889 890 284 0 0 0 0 (.ref 500) false 181 (.ref 501) .none .none .none .none 891 284 892)
def ZS:Obj:=(.mk (.type "frame") none .plain #[(some (.ref 502)),(some (.ref 3)),(some (.ref 499)),none,(some (.str "pebbletoll.worsts" 831)),none,(some (.ref 0))])
def aEa:Obj:=(fR "__init__" "Tally.__init__" (inC (top 76) 0))
def Yi:Obj:=(cO "__init__" "Tally.__init__" 898 899 900 286 3 0 0 3 (.ref 504) true 181 (.ref 505) .none .none .none (.ref 506) 901 286 902)
def Zp:Obj:=(fO "__init__" "Tally.__init__" (inC (top 76) 0) (.str "pebbletoll.worsts" 831) (.ref 507))
def aHa:Obj:=(tS 904 ["bearers","down","kids","rests","web","weights"])
def XZ(P:Params):Obj:=(.mk (.type "dict") none (.dict #[(en P "__module__" 893 (.str "pebbletoll.worsts" 831)),(en P "__firstlineno__" 897 (.int 284 896)),(en P "__init__" 903 (.ref 508)),(en P "__static_attributes__" 910 (.ref 509)),(en P "__dict__" 912 (.ref 512)),(en P "__weakref__" 914 (.ref 513)),(en P "__doc__" 915 .none)] 4) #[])
def Yj:Obj:=(.mk (.type "type") none (.cls (.mk "Tally" [(.type "object")] [(.ref 511),(.type "object")] 510 "Tally" true [] [] false none false)) #[none,none,(some (.str "Tally" 886)),(some (.str "Tally" 894)),(some (.builtin "object.__new__")),(some (.bool true))])
def XY:Obj:=(.mk (.type "getset_descriptor") none (.fields #[(.str "__dict__" 911),(.ref 511),(.builtin "function.__dict__"),(.builtin "function.__dict__#set")]) #[])
def Zb:Obj:=(.mk (.type "getset_descriptor") none (.fields #[(.str "__weakref__" 913),(.ref 511),(.builtin "ExceptionGroup.__weakref__"),.none]) #[])
def aua:Obj:=(.mk (.type "super") none (.fields #[(.ref 511),(.ref 511),(.ref 511)]) #[])
def Z2:Obj:=(.mk (.type "builtin_function_or_method") none (.fields #[(.builtin "object.__init_subclass__"),(.ref 511)]) #[])
def aNa:Obj:=(fr "rests_of" (top 77))
def Yv:Obj:=(cO "rests_of" "rests_of" 918 919 920 295 2 0 0 3 (.ref 516) true 181 (.ref 517) .none .none .none (.ref 518) 921 295 922)
def Wj:Obj:=(fo "rests_of" (top 77) (.str "pebbletoll.worsts" 831) (.ref 519))
def ZP:Obj:=(tS 927 ["tally","place","kid"])
def aUa:Obj:=(fr "is_free" (top 78))
def X8:Obj:=(cF "is_free" 924 307 3 3 521 930)
def VZ:Obj:=(fo "is_free" (top 78) (.str "pebbletoll.worsts" 831) (.ref 526))
def ZQ:Obj:=(tS 936 ["tally","place","held"])
def aLa:Obj:=(fr "ways_of" (top 79))
def Xf:Obj:=(cF "ways_of" 933 309 3 3 528 939)
def XO:Obj:=(fo "ways_of" (top 79) (.str "pebbletoll.worsts" 831) (.ref 533))
def Z4:Obj:=(tS 945 ["tally","place","kid","given"])
def aFa:Obj:=(fr "ways_given" (top 80))
def XQ:Obj:=(cF "ways_given" 942 311 4 3 535 949)
def Zh:Obj:=(fo "ways_given" (top 80) (.str "pebbletoll.worsts" 831) (.ref 540))
def aia:Obj:=(tS 955 ["tally","place","kid","given"])
def ana:Obj:=(fr "held_for" (top 81))
def XU:Obj:=(cF "held_for" 952 313 4 3 542 959)
def Y2:Obj:=(fo "held_for" (top 81) (.str "pebbletoll.worsts" 831) (.ref 547))
def ZJ:Obj:=(tS 965 ["tally","held","number","counts","waiting","place","own"])
def Z1:Obj:=(fr "laying_at" (top 82))
def Xq:Obj:=(cF "laying_at" 962 315 3 3 549 972)
def Wg:Obj:=(fo "laying_at" (top 82) (.str "pebbletoll.worsts" 831) (.ref 554))
def Z7:Obj:=(tS 978 ["tally","place","held","number","found","left","at","kid","given","ways_behind"])
def ZO:Obj:=(fr "handed_down" (top 83))
def Y7:Obj:=(cF "handed_down" 975 324 4 3 556 988)
def Yq:Obj:=(fo "handed_down" (top 83) (.str "pebbletoll.worsts" 831) (.ref 561))
def awa:Obj:=(tS 994 ["tally","place","at","left","number","kid"])
def aaa:Obj:=(fr "given_by" (top 84))
def Zd:Obj:=(cF "given_by" 991 335 5 3 563 1000)
def Wc:Obj:=(fo "given_by" (top 84) (.str "pebbletoll.worsts" 831) (.ref 568))
def ZX:Obj:=(tS 1006 ["before","top","number","low","high","middle"])
def ada:Obj:=(fr "last_within" (top 85))
def X1:Obj:=(cF "last_within" 1003 342 3 3 570 1012)
def Wo:Obj:=(fo "last_within" (top 85) (.str "pebbletoll.worsts" 831) (.ref 575))
def aoa:Obj:=(tS 1018 ["tally","place","at","left","given"])
def aGa:Obj:=(fr "ways_before" (top 86))
def X5:Obj:=(cF "ways_before" 1015 352 5 3 577 1023)
def Yu:Obj:=(fo "ways_before" (top 86) (.str "pebbletoll.worsts" 831) (.ref 582))
def aAa:Obj:=(tS 1029 ["tally","place","at","left","kid","before","given","ways_behind"])
def aha:Obj:=(fr "course" (top 87))
def Wi:Obj:=(cF "course" 1026 356 4 3 584 1037)
def YF:Obj:=(fo "course" (top 87) (.str "pebbletoll.worsts" 831) (.ref 589))
def aPa:Obj:=(tS 1043 ["tally","held","numbers","place"])
def ZM:Obj:=(fr "number_of" (top 88))
def YT:Obj:=(cF "number_of" 1040 363 2 3 591 1047)
def Zl:Obj:=(fo "number_of" (top 88) (.str "pebbletoll.worsts" 831) (.ref 596))
def ZN:Obj:=(tS 1053 ["tally","place","held","numbers","number","left","at","kid","given"])
def ara:Obj:=(fr "number_beneath" (top 89))
def YU:Obj:=(cF "number_beneath" 1050 368 4 3 598 1062)
def WC:Obj:=(fo "number_beneath" (top 89) (.str "pebbletoll.worsts" 831) (.ref 603))
def Z6:Obj:=(tS 1070 ["script","k","cell","near","far"])
def ZW:Obj:=(fr "_law_drawn" (top 91))
def YI:Obj:=(cF "_law_drawn" 1067 378 2 3 605 1075)
def Y6:Obj:=(fo "_law_drawn" (top 91) (.str "law_pebbletoll_k67_whole_three_roads_to_enou" 1065) (.ref 610))
def ZU:Obj:=(tO #[(.str "part" 1081)])
def Z9:Obj:=(fr "_law_toll" (top 92))
def YC:Obj:=(cF "_law_toll" 1078 387 1 3 612 1082)
def YH:Obj:=(fo "_law_toll" (top 92) (.str "law_pebbletoll_k67_whole_three_roads_to_enou" 1065) (.ref 617))
def aCa:Obj:=(tS 1088 ["script","many","shape","roads","k","part","to","there","back"])
def afa:Obj:=(fr "_law_roads" (top 93))
def XB:Obj:=(cF "_law_roads" 1085 391 3 3 619 1097)
def Y1:Obj:=(fo "_law_roads" (top 93) (.str "law_pebbletoll_k67_whole_three_roads_to_enou" 1065) (.ref 624))
def asa:Obj:=(tS 1103 ["script","reach","head","many"])
def aJa:Obj:=(fr "_law_web" (top 94))
def XW:Obj:=(cF "_law_web" 1100 406 2 3 626 1107)
def WR:Obj:=(fo "_law_web" (top 94) (.str "law_pebbletoll_k67_whole_three_roads_to_enou" 1065) (.ref 631))
def aTa:Obj:=(tS 1113 ["roads","tolls","one","other","there","back"])
def ala:Obj:=(fr "_law_tolls" (top 95))
def Wf:Obj:=(cF "_law_tolls" 1110 412 1 3 633 1119)
def XI:Obj:=(fo "_law_tolls" (top 95) (.str "law_pebbletoll_k67_whole_three_roads_to_enou" 1065) (.ref 638))
def aBa:Obj:=(tS 1125 ["tolls","many","r","order","at","place","above","kid"])
def aIa:Obj:=(fr "_law_down" (top 96))
def WK:Obj:=(cF "_law_down" 1122 418 3 3 640 1133)
def Xm:Obj:=(fo "_law_down" (top 96) (.str "law_pebbletoll_k67_whole_three_roads_to_enou" 1065) (.ref 645))
def ata:Obj:=(tS 1139 ["tolls","many","laying","r","held","place","above"])
def aga:Obj:=(fr "_law_most" (top 97))
def YD:Obj:=(cF "_law_most" 1136 428 4 3 647 1146)
def X7:Obj:=(fo "_law_most" (top 97) (.str "law_pebbletoll_k67_whole_three_roads_to_enou" 1065) (.ref 652))
def ZL:Obj:=(tS 1152 ["web","r","wanted","due","last","number","laying"])
def aza:Obj:=(fr "_law_numbers_right" (top 98))
def XA:Obj:=(cF "_law_numbers_right" 1149 434 4 3 654 1159)
def X6:Obj:=(fo "_law_numbers_right" (top 98) (.str "law_pebbletoll_k67_whole_three_roads_to_enou" 1065) (.ref 659))
def aea:Obj:=(tS 1165 ["web","tolls","r","wanted","wish","due","one","other","laying"])
def aSa:Obj:=(fr "_law_right" (top 99))
def YZ:Obj:=(cF "_law_right" 1162 445 4 3 661 1174)
def Wx:Obj:=(fo "_law_right" (top 99) (.str "law_pebbletoll_k67_whole_three_roads_to_enou" 1065) (.ref 666))
def Z3:Obj:=(tS 1180 ["script","many","roads","web","tolls","k","part","wanted"])
def ZR:Obj:=(fr "law" (top 100))
def Zm:Obj:=(cF "law" 1177 459 1 3 668 1188)
def Y0:Obj:=(fo "law" (top 100) (.str "law_pebbletoll_k67_whole_three_roads_to_enou" 1065) (.ref 673))
noncomputable def h2(P:Params):Heap:=.mk (.mk (boot_o_0 P::boot_o_1 P::boot_o_2 P::YX P::boot_o_4 P::boot_o_5 P::boot_o_6 P::boot_o_7 P::boot_o_8 P::boot_o_9 P::boot_o_10 P::x0::aMa::x2::x3::x6::x7::x8 P::x0::x1::x9::x10::x0::x11 P::x12::x13::x14::x15::x16::x7::x17 P::x0::x1::x18::x19::x0::x20 P::x21::x22::x23::x16::x7::x24 P::x0::x1::x25::x26::x0::x27 P::x28::x29::x30::x16::x7::x31 P::x0::x1::x32::x33::x0::x34 P::x35::x36::x37::x16::x7::x38 P::x0::x1::x39::x40::x0::x41 P::x42::x43::x44::x16::x7::x45 P::x0::x1::x46::x47::x0::x48 P::x49::x50::x51::x16::x7::x52 P::x0::x1::x53::x54::x0::x55 P::x56::x57::x58::x16::x7::x59 P::x0::x1::x60::x61::x0::x62 P::x63::x64::x65::x16::x7::x66 P::x0::x1::x67::x68::x0::x69 P::x70::x71::x72::x0::x7::x75 P::x0::x76::x77::x78::x0::x1::x79::x80::x81::x82::x83 P::x84::x85::x86::x87::x88::x0::x1::x89::x0::x90::x91::x92::x0::x1::x93::x0::x94::x95::x96::x0::x1::x97::x0::x98::x99::RB::x0::x1::YB::x0::WF::Tf::RT::x0::x1::Yb::x0::Ym::T4::Tj::x0::x1::Y5::x0::YS::Um::SV::x0::x1::V7::x0::Wl::Sh::TD::x0::x1::WQ::x0::WO::RJ::Ue::x0::x1::WT::x0::WY::R9::SK::x0::x1::WS::x0::Xe::RG::QS::x0::x1::XV::Sd::Q2::x0::x1::VX::x0::W7::Rt::TQ::x0::x1::Xy::x0::YR::Sw::QT::x0::x1::Xu::x0::Yo::Q7::Q3::x0::x1::Yg::Up::Tt::x0::x1::Zi::Sy::SQ::x0::x1::Xi::x0::Yx::TC::Ut::x0::x1::W0::SN::QX::x0::x1::Wa::x0::Xr::Uf::Rh::x0::x1::WW::x0::Ws::SA::Th::x0::x1::XN::x0::Y4::R7::Sa::x0::x1::Wr::x0::Xp::RX::Rf::x0::x1::Zj::x0::Zn::SW::QH::x0::x1::YO::S6::TZ::x0::x1::Wk::x0::Zr::TX::Sx::x0::x1::V4::x0::V9::Se::TM::x0::x7::V3 P::x0::X4::Zk::Zo::x0::x1::Wb::S8::Ud::Ze::SI P::Sv::Sq::RV::Yy::WD::x0::x1::WM::x0::Wy::SB::Ta::x0::x1::W8::x0::XX::Rz::Sf::x0::x1::XT::Rb::Tu::x0::x1::WE::x0::Xx::T7::QZ::x0::x1::Wh::x0::Yn::RC::Rj::x0::x1::Xj::x0::Xw::Rr::Ry::x0::x1::WP::x0::Wm::SD::Uq::x0::x1::YQ::x0::WZ::Ri::TY::x0::x1::X2::x0::XH::Q1::Uo::x0::x1::V1::x0::Zf::S7::Uh::x0::x1::W4::QK::Rv::x0::x1::Yp::x0::WG::Rl::Uc::x0::x1::YG::x0::XS::Q6::SC::x0::x1::WX::x0::Yh::Te::SX::x0::x1::YK::x0::Yd::Ur::RE::x0::x1::Yw::RY::Tp::x0::x1::YM::x0::Wp::T5::Sg::x0::x1::YA::Ru::T8::x0::x1::Wz::Tq::SE::x0::x1::XE::S3::R6::x0::x1::Yl::x0::Yk::Uk::TR::x0::x1::Wv::x0::Wd::Tz::Uj::x0::x1::apa::x0::aOa::X9::Y3::x0::x1::Z0::x0::ZV::YJ::Yc::x0::x1::ZT::x0::aka::Xn::WN::x0::x7::axa P::x0::aca::ava::ZS::x0::x1::aEa::Yi::Zp::aHa::XZ P::Yj::XY::Zb::aua::Z2::x0::x1::aNa::Yv::Wj::x0::x1::ZP::x0::aUa::X8::VZ::x0::x1::ZQ::x0::aLa::Xf::XO::x0::x1::Z4::x0::aFa::XQ::Zh::x0::x1::aia::x0::ana::XU::Y2::x0::x1::ZJ::x0::Z1::Xq::Wg::x0::x1::Z7::x0::ZO::Y7::Yq::x0::x1::awa::x0::aaa::Zd::Wc::x0::x1::ZX::x0::ada::X1::Wo::x0::x1::aoa::x0::aGa::X5::Yu::x0::x1::aAa::x0::aha::Wi::YF::x0::x1::aPa::x0::ZM::YT::Zl::x0::x1::ZN::x0::ara::YU::WC::x0::x1::Z6::x0::ZW::YI::Y6::x0::x1::ZU::x0::Z9::YC::YH::x0::x1::aCa::x0::afa::XB::Y1::x0::x1::asa::x0::aJa::XW::WR::x0::x1::aTa::x0::ala::Wf::XI::x0::x1::aBa::x0::aIa::WK::Xm::x0::x1::ata::x0::aga::YD::X7::x0::x1::ZL::x0::aza::XA::X6::x0::x1::aea::x0::aSa::YZ::Wx::x0::x1::Z3::x0::ZR::Zm::Y0::[])) (.mk [] [] [] 0 [] [] false #[] [] 0 false false false 0 [2000,10,10] false 0 true [] [] 0 false)
theorem Z5(w:World)(os:OsState):segRun treeTable PySem.Challenge.pw_pebbletoll_k67_whole_three_roads_to_enou w 11 (some (.ref 6)) 1 1104 (Shared.mk (h1 w.params) (.mk []) (.mk 0 0 0 0) 856 os) (piecesOf st2 env cE (.mk 267 0 269 48) [topFrame (.mk 0 0 0 0)])=some (.next,(Shared.mk (h2 w.params) (.mk []) (.mk 0 0 0 0) 1191 os),cE,(.mk 459 0 468 15)):=by kernel_rfl
noncomputable def hf(P:Params):Heap:=h2 P
theorem aDa(w:World)(os:OsState):topRun treeTable PySem.Challenge.pw_pebbletoll_k67_whole_three_roads_to_enou w 11 (some (.ref 6)) 2 (Shared.mk (h2 w.params) (.mk []) (.mk 0 0 0 0) 1191 os) (restOf [] env cE (.mk 459 0 468 15) [topFrame (.mk 0 0 0 0)])=some (Shared.mk (hf w.params) (.mk []) (.mk 0 0 0 0) 1191 os):=by kernel_rfl
theorem run(w:World)(os:OsState):topRun treeTable PySem.Challenge.pw_pebbletoll_k67_whole_three_roads_to_enou w 11 (some (.ref 6)) (12+(1+(1936+(1993+(1104+(2)))))) (Shared.mk (boot_heap w.params) (.mk []) boot_drawn boot_toks os) (topStub PySem.Challenge.pw_pebbletoll_k67_whole_three_roads_to_enou)=some (Shared.mk (hf w.params) (.mk []) (.mk 0 0 0 0) 1191 os):=go_top (aya w os) (piece_block (ZK w os) (piece_app (aja w os) (piece_app (ZY w os) (piece_app (Z5 w os) (aDa w os)))))
theorem opn:∀w:World,(fencedOpening treeTable PySem.Challenge.pw_pebbletoll_k67_whole_three_roads_to_enou w 10186).map (λs=>(s.heap,s.gens,s.drawn,s.toks))=some (boot_heap w.params,Array.mk [],boot_drawn,boot_toks):=boot_open (by kernel_rfl) (by decide) λs=>by kernel_rfl
theorem siz(w:World):((boot_heap w.params).isNs mainGlobals&&(Array.mk ([]:List GenState)).size==0,(boot_heap w.params).objs.size,(boot_heap w.params).nsMap mainGlobals "__annotations__")=(true,11,(some (.ref 6))):=by kernel_rfl
noncomputable def KK:Params->Frag:=λP=>
 (nat_lit 2,boot_o_2 P)::(nat_lit 3,YX P)::(nat_lit 23,x11 P)::(nat_lit 24,x12)::(nat_lit 25,x13)::(nat_lit 36,x20 P)::(nat_lit 37,x21)::(nat_lit 48,x27 P)::(nat_lit 49,x28)::(nat_lit 60,x34 P)::(nat_lit 61,x35)::(nat_lit 72,x41 P)::(nat_lit 73,x42)::(nat_lit 84,x48 P)::(nat_lit 85,x49)::(nat_lit 96,x55 P)::(nat_lit 97,x56)::(nat_lit 108,x62 P)::(nat_lit 109,x63)::(nat_lit 120,x69 P)::(nat_lit 121,x70)::(nat_lit 134,x80)::(nat_lit 135,x81)::(nat_lit 137,x83 P)::(nat_lit 138,x84)::(nat_lit 139,x85)::(nat_lit 140,x86)::(nat_lit 148,x91)::(nat_lit 149,x92)::(nat_lit 155,x95)::(nat_lit 156,x96)::(nat_lit 162,x99)::(nat_lit 163,RB)::(nat_lit 169,Tf)::(nat_lit 170,RT)::(nat_lit 176,T4)::(nat_lit 177,Tj)::(nat_lit 183,Um)::(nat_lit 184,SV)::(nat_lit 190,Sh)::(nat_lit 191,TD)::(nat_lit 197,RJ)::(nat_lit 198,Ue)::(nat_lit 204,R9)::(nat_lit 205,SK)::(nat_lit 211,RG)::(nat_lit 212,QS)::(nat_lit 216,Sd)::(nat_lit 217,Q2)::(nat_lit 223,Rt)::(nat_lit 224,TQ)::(nat_lit 230,Sw)::(nat_lit 231,QT)::(nat_lit 237,Q7)::(nat_lit 238,Q3)::(nat_lit 242,Up)::(nat_lit 243,Tt)::(nat_lit 247,Sy)::(nat_lit 248,SQ)::(nat_lit 254,TC)::(nat_lit 255,Ut)::(nat_lit 259,SN)::(nat_lit 260,QX)::(nat_lit 266,Uf)::(nat_lit 267,Rh)::(nat_lit 273,SA)::(nat_lit 274,Th)::(nat_lit 280,R7)::(nat_lit 281,Sa)::(nat_lit 287,RX)::(nat_lit 288,Rf)::(nat_lit 294,SW)::(nat_lit 295,QH)::(nat_lit 299,S6)::(nat_lit 300,TZ)::(nat_lit 306,TX)::(nat_lit 307,Sx)::(nat_lit 313,Se)::(nat_lit 314,TM)::(nat_lit 325,S8)::(nat_lit 326,Ud)::(nat_lit 328,SI P)::(nat_lit 329,Sv)::(nat_lit 330,Sq)::(nat_lit 331,RV)::(nat_lit 339,SB)::(nat_lit 340,Ta)::(nat_lit 346,Rz)::(nat_lit 347,Sf)::(nat_lit 351,Rb)::(nat_lit 352,Tu)::(nat_lit 358,T7)::(nat_lit 359,QZ)::(nat_lit 365,RC)::(nat_lit 366,Rj)::(nat_lit 372,Rr)::(nat_lit 373,Ry)::(nat_lit 379,SD)::(nat_lit 380,Uq)::(nat_lit 386,Ri)::(nat_lit 387,TY)::(nat_lit 393,Q1)::(nat_lit 394,Uo)::(nat_lit 400,S7)::(nat_lit 401,Uh)::(nat_lit 405,QK)::(nat_lit 406,Rv)::(nat_lit 412,Rl)::(nat_lit 413,Uc)::(nat_lit 419,Q6)::(nat_lit 420,SC)::(nat_lit 426,Te)::(nat_lit 427,SX)::(nat_lit 433,Ur)::(nat_lit 434,RE)::(nat_lit 438,RY)::(nat_lit 439,Tp)::(nat_lit 445,T5)::(nat_lit 446,Sg)::(nat_lit 450,Ru)::(nat_lit 451,T8)::(nat_lit 455,Tq)::(nat_lit 456,SE)::(nat_lit 460,S3)::(nat_lit 461,R6)::(nat_lit 467,Uk)::(nat_lit 468,TR)::(nat_lit 474,Tz)::(nat_lit 475,Uj)::(nat_lit 481,X9)::(nat_lit 482,Y3)::(nat_lit 488,YJ)::(nat_lit 489,Yc)::(nat_lit 495,Xn)::(nat_lit 496,WN)::(nat_lit 507,Yi)::(nat_lit 508,Zp)::(nat_lit 510,XZ P)::(nat_lit 511,Yj)::(nat_lit 512,XY)::(nat_lit 513,Zb)::(nat_lit 519,Yv)::(nat_lit 520,Wj)::(nat_lit 526,X8)::(nat_lit 527,VZ)::(nat_lit 533,Xf)::(nat_lit 534,XO)::(nat_lit 540,XQ)::(nat_lit 541,Zh)::(nat_lit 547,XU)::(nat_lit 548,Y2)::(nat_lit 554,Xq)::(nat_lit 555,Wg)::(nat_lit 561,Y7)::(nat_lit 562,Yq)::(nat_lit 568,Zd)::(nat_lit 569,Wc)::(nat_lit 575,X1)::(nat_lit 576,Wo)::(nat_lit 582,X5)::(nat_lit 583,Yu)::(nat_lit 589,Wi)::(nat_lit 590,YF)::(nat_lit 596,YT)::(nat_lit 597,Zl)::(nat_lit 603,YU)::(nat_lit 604,WC)::(nat_lit 610,YI)::(nat_lit 611,Y6)::(nat_lit 617,YC)::(nat_lit 618,YH)::(nat_lit 624,XB)::(nat_lit 625,Y1)::(nat_lit 631,XW)::(nat_lit 632,WR)::(nat_lit 638,Wf)::(nat_lit 639,XI)::(nat_lit 645,WK)::(nat_lit 646,Xm)::(nat_lit 652,YD)::(nat_lit 653,X7)::(nat_lit 659,XA)::(nat_lit 660,X6)::(nat_lit 666,YZ)::(nat_lit 667,Wx)::(nat_lit 673,Zm)::(nat_lit 674,Y0)::[]
abbrev qq:Program:=PySem.W.view PySem.Challenge.pw_pebbletoll_k67_whole_three_roads_to_enou [1,2,3,4,5,6,7,8,9,11,12,13,14,15,16,17,18,19,20,21,22,23,25,26,27,29,30,31,32,34,35,36,37,38,40,41,42,43,44,45,46,47,48,49,50,52,53,54,55,56,57,58,59,61,62,64,65,66,67,68,70,71,72,73,74,75,76,77,78,79,80,81,82,83,84,85,86,87,88,89,91,92,93,94,95,96,97,98,99,100]
abbrev asK:List Addr:=[2,3,23,24,25,36,37,48,49,60,61,72,73,84,85,96,97,108,109,120,121,134,135,137,138,139,140,148,149,155,156,162,163,169,170,176,177,183,184,190,191,197,198,204,205,211,212,216,217,223,224,230,231,237,238,242,243,247,248,254,255,259,260,266,267,273,274,280,281,287,288,294,295,299,300,306,307,313,314,325,326,328,329,330,331,339,340,346,347,351,352,358,359,365,366,372,373,379,380,386,387,393,394,400,401,405,406,412,413,419,420,426,427,433,434,438,439,445,446,450,451,455,456,460,461,467,468,474,475,481,482,488,489,495,496,507,508,510,511,512,513,519,520,526,527,533,534,540,541,547,548,554,555,561,562,568,569,575,576,582,583,589,590,596,597,603,604,610,611,617,618,624,625,631,632,638,639,645,646,652,653,659,660,666,667,673,674]
theorem Ϣ:∀P,asK=(KK P).map (·.1):=λ_=>by kernel_rfl
theorem ZD(w:World):(λos=>((staticsOk (importedModules PySem.Challenge.pw_pebbletoll_k67_whole_three_roads_to_enou.main.body) (boot_heap w.params) (hf w.params)&&namesBound PySem.Challenge.pw_pebbletoll_k67_whole_three_roads_to_enou (hf w.params)&&gensDone (Shared.mk (Hd.hf w.params) (.mk []) (.mk 0 0 0 0) 1191 os)&&laidKept (boot_heap w.params) (hf w.params)),openSeen qq [] (importedModules PySem.Challenge.pw_pebbletoll_k67_whole_three_roads_to_enou.main.body) (λs=>PySem.W.xlAt Hd.qq [] s&&PySem.W.recOk (PySem.W.RowW.records (PySem.W.OpenRow.toRowW (PySem.Challenge.rw_pebbletoll_k67_whole_three_roads_to_enou).row)) s) true (Shared.mk (Hd.hf w.params) (.mk []) (.mk 0 0 0 0) 1191 os),Hook.obs (PySem.W.kHook Hd.KK Hd.asK Hd.Ϣ) (Shared.mk (Hd.hf w.params) (.mk []) (.mk 0 0 0 0) 1191 os)))=λ_=>(true,openGood qq [],Hook.val (PySem.W.kHook Hd.KK Hd.asK Hd.Ϣ) w):=by kernel_rfl
theorem left:PySem.W.LeftO (PySem.Challenge.rw_pebbletoll_k67_whole_three_roads_to_enou).row.prog qq [] (λs=>PySem.W.xlAt Hd.qq [] s&&PySem.W.recOk (PySem.W.RowW.records (PySem.W.OpenRow.toRowW (PySem.Challenge.rw_pebbletoll_k67_whole_three_roads_to_enou).row)) s) (PySem.W.Hook.obs (PySem.W.kHook Hd.KK Hd.asK Hd.Ϣ)) (PySem.W.Hook.val (PySem.W.kHook Hd.KK Hd.asK Hd.Ϣ)) 10186:=LeftO.of_pieces opn siz run (by decide) ZD
end Hd
abbrev g8:=Int->Int->Int
abbrev gJ:=List (Int×Nat×Int)
abbrev gy:=List PySem.Str
abbrev gx:=PySem.Str->Option PySem.Value
abbrev gg:=List PySem.Value
abbrev gf:=List PySem.Addr
abbrev f5:=List (PySem.Addr×PySem.Obj)
abbrev f3:=PySem.W.Frag
abbrev fz:=PySem.Value->PySem.Shared->Prop
abbrev fv:=Int->Nat
abbrev fm:=Int->Int
abbrev fc:=List Int
namespace L2
open PySem PySem.Spec PyProof.Rows
abbrev Key:=Sum Int Str
def zM:Key->Value->Bool
 | .inl k,v=>Value.isInt k v
 | .inr x,v=>Value.isStrOf x v
def aQa(w:World):Key->Int
 | .inl k=>hashInt k
 | .inr x=>hashStr w x
theorem j0:∀{k:Key}{v:Value},zM k v=true->(∃i t,k=Sum.inl i/\v=Value.int i t)\/(∃x t,k=Sum.inr x/\v=Value.str x t)
 | .inl i,v,h=>by
   obtain⟨t,e⟩:=Value.isInt_shape (k:=i) (v:=v) h;exact .inl ⟨i,t,rfl,e⟩
 | .inr x,v,h=>by
   obtain⟨t,e⟩:=Value.isStrOf_shape (x:=x) (v:=v) h;exact .inr ⟨x,t,rfl,e⟩
theorem Qy(i:Int)(t:Tok):zM (.inl i) (.int i t)=true:=by simp[zM,Value.isInt]
theorem Qu(x:Str)(t:Tok):zM (.inr x) (.str x t)=true:=by simp[zM,Value.isStrOf]
theorem Xo(a b:Int):decide ((Sum.inl a:Key)=Sum.inl b)=(a==b):=by
 by_cases e:a=b
 .subst e;simp
 .have h:¬(Sum.inl a:Key)=Sum.inl b:=λq=>e (Sum.inl.inj q);rw[b8 h];exact(beq_eq_false_iff_ne.mpr e).symm
theorem WV(a b:Str):decide ((Sum.inr a:Key)=Sum.inr b)=decide (a=b):=by
 by_cases e:a=b
 .subst e;simp
 .have h:¬(Sum.inr a:Key)=Sum.inr b:=λq=>e (Sum.inr.inj q);rw[b8 h,b8 e]
theorem WH(a:Int)(b:Str):decide ((Sum.inl a:Key)=Sum.inr b)=false:=b8 (λq=>nomatch q)
theorem Wu(a:Str)(b:Int):decide ((Sum.inr a:Key)=Sum.inl b)=false:=b8 (λq=>nomatch q)
def iX(prog:Program)(w:World):PySem.KeyKind prog w Key where
 is:=zM
 hash:=aQa w
 inj:=λv a b c hb=>by
  rcases j0 c with⟨i,t,rfl,rfl⟩|⟨x,t,rfl,rfl⟩
  .rcases j0 hb with⟨j,u,rfl,e⟩|⟨y,u,rfl,e⟩
   .injection e with e1 _;rw[e1]
   .exact nomatch e
  .rcases j0 hb with⟨j,u,rfl,e⟩|⟨y,u,rfl,e⟩
   .exact nomatch e
   .injection e with e1 _;rw[e1]
 byValue:=λk v h=>by
  rcases j0 h with⟨i,t,rfl,rfl⟩|⟨x,t,rfl,rfl⟩<;>rfl
 pyHash:=λhv h=>by
  rcases j0 hv with⟨i,t,rfl,rfl⟩|⟨x,t,rfl,rfl⟩
  .exact wpAny_pyHash_int h
  .exact wpAny_pyHash_str h
 eqBool:=λd hv h=>by
  rcases j0 d with⟨i,t,rfl,rfl⟩|⟨x,t,rfl,rfl⟩
  .rcases j0 hv with⟨j,u,rfl,rfl⟩|⟨y,u,rfl,rfl⟩
   .rw[Xo]at h;exact wpAny_eqBool_int h
   .rw[WH]at h;exact SeqAt.EqAt.int_str i t y u _ _ _ _ h
  .rcases j0 hv with⟨j,u,rfl,rfl⟩|⟨y,u,rfl,rfl⟩
   .rw[Wu]at h;exact SeqAt.EqAt.str_int x t j u _ _ _ _ h
   .rw[WV]at h;exact wpAny_eqBool_str h
 «strs»:=λk x t v h=>by
  rcases j0 h with⟨i,u,rfl,e⟩|⟨y,u,rfl,e⟩
  .exact nomatch e
  .injection e with e1 _
   subst e1;cases v<;>rfl
theorem KS(a:Program)(w:World)(i:Int)(t:Tok):(iX a w).is (.inl i) (.int i t)=true:=Qy i t
theorem Kt(a:Program)(w:World)(x:Str)(t:Tok):(iX a w).is (.inr x) (.str x t)=true:=Qu x t
inductive V where
 | ο|bl (b:Bool)|int (i:Int)|str (x:Str)|byt (b:Array UInt8)|flt (b:UInt64)|ref (a:Addr)|ty (n:String)
 deriving DecidableEq
def RelV:V->Value->Prop
 | .ο,u=>u=Value.none
 | .bl b,u=>u=Value.bool b
 | .int i,u=>∃t,u=Value.int i t
 | .str x,u=>∃t,u=Value.str x t
 | .byt b,u=>∃t,u=Value.bytes b t
 | .flt b,u=>∃t,u=Value.float b t
 | .ref a,u=>u=Value.ref a
 | .ty n,u=>u=Value.type n
abbrev Vals:List V->List Value->Prop:=Paired RelV
theorem Vals.length{a:List V}{b:gg}(r:Vals a b):a.length=b.length:=Paired.length r
theorem Vals.get:∀{b:List V}{a:gg}{i:Nat}{x:V},Vals b a->b[i]?=some x->∃u,a[i]?=some u/\RelV x u
 | _,_,_,_,.nil,e=>by simp at e
 | _,_,0,_,.cons r _,e=>by simp at e;subst e;exact⟨_,rfl,r⟩
 | _,_,i+1,x,.cons _ t,e=>by
   obtain⟨u,d,c⟩:=Vals.get (i:=i) (x:=x) t (by simpa using e);exact⟨u,by simpa using d,c⟩
theorem Vals.set{x:V}{u:Value}(r:RelV x u):∀{b:List V}{a:gg}(i:Nat),Vals b a->Vals (b.set i x) (a.set i u)
 | _,_,_,.nil=>.nil
 | _,_,0,.cons _ t=>.cons r t
 | _,_,i+1,.cons q t=>.cons q (Vals.set r i t)
theorem Vals.append:∀{a b:List V}{c d:gg},Vals a c->Vals b d->Vals (a++b) (c++d)
 | _,_,_,_,.nil,s=>s
 | _,_,_,_,.cons r t,s=>.cons r (Vals.append t s)
theorem Vals.take:∀{a:List V}{b:gg}(n:Nat),Vals a b->Vals (a.take n) (b.take n)
 | _,_,0,_=>.nil
 | _,_,_+1,.nil=>.nil
 | _,_,n+1,.cons r t=>.cons r (Vals.take n t)
theorem Vals.drop:∀{a:List V}{b:gg}(n:Nat),Vals a b->Vals (a.drop n) (b.drop n)
 | _,_,0,r=>r
 | _,_,_+1,.nil=>.nil
 | _,_,n+1,.cons _ t=>Vals.drop n t
def BV:Option V->Option Value->Prop
 | some v,some u=>RelV v u
 | none,none=>True
 | _,_=>False
def KV{a:Type}:List (a×V)->List (a×Value)->Prop:=Paired λ(p:a×V)(q:a×Value)=>p.1=q.1/\RelV p.2 q.2
def kV:Key->V
 | .inl i=>.int i
 | .inr x=>.str x
inductive HO where
 /-- a list -/
 | lst (xs:List V)
 /-- a tuple (never changes) -/
 | tup (xs:List V)
 /-- a dict aeZ keys are ints and texts;one aeZ keys are tuples of ints and texts (aS empty one is both) -/
 | dK (η:List (Key×V))|dT (η:List (List Key×V))
 /-- a set of ints: its members,its size -/
 | set (S:Int->Bool) (n:Nat)
 /-- an instance of aS class at C,its dict at dx,its attributes -/
 | ins (C dx:Addr) (fs:List (Str×V))
 /-- aS dict of aS instance at x -/
 | own (x:Addr)
 /-- aS dict of an exception -/
 | xd (fs:List (Str×V))
 /-- a bound method,f of x -/
 | met (f x:Addr)
 /-- a range object lo,lo+1,.. bM hi -/
 | Ι (lo hi:Int)
 /-- a thing adB is known to aS object (aS script;a dict while a loop walks it): read,never written while it is so -/
 | frz (o:Obj) (u:HO)
 /-- a code ahd table -/
 | tbl (ps:Array Value)
 /-- any other thing,by acb is true of its one object (a def of aom own: arD a S n:=HO.ext λh=>..) -/
 | ext (φ:Heap->Prop)
abbrev Hp:=Addr->Option HO
def upd(H:Hp)(a:Addr)(o:HO):Hp:=λb=>if b=a then some o else H b
theorem aE{H:Hp}{a:Addr}{o:HO}:upd H a o a=some o:=by unfold upd;rw[aj rfl]
theorem aN{H:Hp}{a b:Addr}{o:HO}(h:b≠a):upd H a o b=H b:=by unfold upd;rw[ag h]
theorem uC{H:Hp}{a:Addr}{o u:HO}:upd (upd H a o) a u=upd H a u:=by
 funext b;unfold upd;split<;>rfl
theorem fM{H:Hp}{a b:Addr}{o u:HO}(h:H a=some o)(c:H b=some u)(d:o≠u):a≠b:=by
 intro e;subst e;rw[h]at c;exact d (bu c)
theorem cG{H:Hp}{a b:Addr}{o:HO}(h:H a=some o)(c:H b=none):a≠b:=by
 intro e;subst e;rw[h]at c;cases c
section
variable(P:Program)(w:World)
def Ν(H:Hp)(h:Heap)(a:Addr):HO->Prop
 | .lst c=>c.length<=sizeLine/\∃(b:gg)(n:Nat),Vals c b/\h.get? a=some { cls:=.type "list",data:=.seq b.toArray n }
 | .tup c=>c.length<=sizeLine/\∃b:List Value,Vals c b/\IsTup h a b.toArray
 | .dK η=>η.length<=sizeLine/\(a==sysModules)=false/\∃e,KV η e/\h.DictOf (iX P w) a e
 | .dT η=>η.length<=sizeLine/\(a==sysModules)=false/\∃c:List (List Key×Addr×Value),Paired (λ(p:List Key×V)(q:List Key×Addr×Value)=>p.1=q.1/\H q.2.1=some (.tup (p.1.map kV))/\RelV p.2 q.2.2) η c/\∃o g k,h.get? a=some o/\o.ExactDict/\o.data=.dict g k/\g.toList=c.map (entryOfKey (tupleKind (iX P w)))/\(c.map (·.1)).Nodup
 | .set S n=>h.SetOf (intKind P w) a S n
 | .ins C dx fs=>H dx=some (.own a)/\fs.length<=1000/\dx≠a/\h.get? a=some (PySem.W.instObj C dx)/\∃d,h.Ns1 dx d/\(∀f,BV (fs.lookup f) (d f))/\PySem.Within d (fs.map (·.1))
 | .own _=>∃o,h.get? a=some o
 | .xd fs=>∃d,h.Ns1 a d/\∀f,BV (fs.lookup f) (d f)
 | .Ι lo hi=>∃t u v,h.get? a=some { cls:=.type "range",data:=.fields #[.int lo t,.int hi u,.int 1 v] }
 | .frz o u=>h.get? a=some o/\Ν H h a u
 | .tbl ps=>h.get? a=some { cls:=.none,data:=.fields ps }
 | .met f x=>h.get? a=some (PySem.W.methodObj (.ref f) (.ref x))
 | .ext φ=>φ h/\(∃o,h.get? a=some o)/\∀i j:Heap,φ i->(∀o,i.get? a=some o->j.get? a=some o)->φ j
def ϭ(H:Hp)(h:Heap):Prop:=∀a o,H a=some o->Ν P w H h a o
end
section
variable{P:Program}{w:World}{H g:Hp}{h h':Heap}{a:Addr}{o:HO}
theorem Ν.lt(x:Ν P w H h a o):a<h.objs.size:=by
 cases o with
 | lst xs=>obtain⟨_,_,_,_,e⟩:=x;exact aM e
 | tup xs=>obtain⟨_,_,_,p⟩:=x;exact p.lt
 | dK η=>obtain⟨_,_,_,_,o,_,_,e,_⟩:=x;exact aM e
 | dT η=>obtain⟨_,_,_,_,o,_,_,e,_⟩:=x;exact aM e
 | set S n=>obtain⟨o,_,_,_,e,_⟩:=x;exact aM e
 | ins C dx fs=>obtain⟨_,_,_,e,_⟩:=x;exact aM e
 | own y=>obtain⟨_,e⟩:=x;exact aM e
 | xd fs=>obtain⟨_,⟨_,_,_,e,_⟩,_⟩:=x;exact aM e
 | Ι lo hi=>obtain⟨_,_,_,e⟩:=x;exact aM e
 | frz ob u=>obtain⟨e,_⟩:=x;exact aM e
 | tbl ps=>exact aM (show h.get? a=some _ from x)
 | met f y=>exact aM (show h.get? a=some _ from x)
 | ext φ=>obtain⟨_,⟨_,e⟩,_⟩:=x;exact aM e
theorem Paired.aep{i e:Type}{F G:i->e->Prop}:∀{d:List i}{c:List e},Paired F d c->(∀a b,F a b->G a b)->Paired G d c
 | _,_,.nil,_=>.nil
 | _,_,.cons r t,f=>.cons (f _ _ r) (Paired.aep t f)
theorem Paired.imp'{i e:Type}{F G:i->e->Prop}(f:∀a b,F a b->G a b){d:List i}{c:List e}(r:Paired F d c):Paired G d c:=Paired.aep r f
theorem Ν.iF(x:Ν P w H h a o)(k:∀b u,(b=a\/H b=some (.own a))->h.get? b=some u->h'.get? b=some u)(E:∀b,H b=some (.own a)->g b=some (.own a))(G:∀b s,H b=some (.tup s)->g b=some (.tup s)):Ν P w g h' a o:=by
 induction o with
 | lst s=>obtain⟨z,m,n,r,e⟩:=x;exact⟨z,m,n,r,k _ _ (.inl rfl) e⟩
 | tup s=>obtain⟨z,m,r,i,e,c⟩:=x;exact⟨z,m,r,i,k _ _ (.inl rfl) e,c⟩
 | dK η=>obtain⟨z,y,D,r,i,j,l,e,c⟩:=x;exact⟨z,y,D,r,i,j,l,k _ _ (.inl rfl) e,c⟩
 | dT η=>
   obtain⟨z,y,s,r,i,j,l,e,c⟩:=x;exact⟨z,y,s,Paired.aep r λp q z=>⟨z.1,G _ _ z.2.1,z.2.2⟩,i,j,l,k _ _ (.inl rfl) e,c⟩
 | set S n=>obtain⟨i,j,l,t,e,c⟩:=x;exact⟨i,j,l,t,k _ _ (.inl rfl) e,c⟩
 | ins C dx fs=>
   obtain⟨d,z,ne,e,A,⟨B,j,l,F,c⟩,r⟩:=x;exact⟨E _ d,z,ne,k _ _ (.inl rfl) e,A,⟨B,j,l,k _ _ (.inr d) F,c⟩,r⟩
 | own y=>obtain⟨i,e⟩:=x;exact⟨i,k _ _ (.inl rfl) e⟩
 | xd fs=>obtain⟨A,⟨B,j,l,e,c⟩,r⟩:=x;exact⟨A,⟨B,j,l,k _ _ (.inl rfl) e,c⟩,r⟩
 | Ι lo hi=>obtain⟨t,u,v,e⟩:=x;exact⟨t,u,v,k _ _ (.inl rfl) e⟩
 | frz i u ih=>obtain⟨e,q⟩:=x;exact⟨k _ _ (.inl rfl) e,ih q⟩
 | tbl ps=>
   have e:h.get? a=some { cls:=.none,data:=.fields ps }:=x;show h'.get? a=some { cls:=.none,data:=.fields ps };exact k a _ (.inl rfl) e
 | met f y=>
   have e:h.get? a=some (PySem.W.methodObj (.ref f) (.ref y)):=x;show h'.get? a=some (PySem.W.methodObj (.ref f) (.ref y));exact k a _ (.inl rfl) e
 | ext φ=>obtain⟨p,⟨o,e⟩,st⟩:=x;exact⟨st _ _ p λo q=>k _ _ (.inl rfl) q,⟨o,k _ _ (.inl rfl) e⟩,st⟩
theorem ϭ.lt(x:ϭ P w H h)(e:H a=some o):a<h.objs.size:=(x a o e).lt
theorem ϭ.fresh(x:ϭ P w H h)(e:h.objs.size<=a):H a=none:=by
 cases q:H a with
 | none=>rfl
 | some u=>exact absurd (aZ (x.lt q) e) (dM _)
theorem ϭ.kept(x:ϭ P w H h)(k:∀b u,h.get? b=some u->h'.get? b=some u):ϭ P w H h':=λa o e=>
 (x a o e).iF (λb u _ q=>k b u q) (λ_ q=>q) λ_ _ q=>q
theorem ϭ.laid(x:ϭ P w H h)(k:∀b u,h.get? b=some u->h'.get? b=some u)(j:h.objs.size<=a)(d:Ν P w (upd H a o) h' a o):ϭ P w (upd H a o) h':=λb u e=>by
 have f:=x.fresh j;by_cases i:b=a
 .subst i;rw[aE]at e;cases e;exact d
 .rw[aN i]at e;exact(x b u e).iF (λc v _ q=>k c v q) (λc q=>by rw[aN (cG q f)];exact q) λc l q=>by rw[aN (cG q f)];exact q
end
def Rd(H:Hp)(a:Addr)(u:HO):Prop:=H a=some u\/∃o,H a=some (.frz o u)
theorem Rd.ok{P:Program}{w:World}{H:Hp}{h:Heap}{a:Addr}{u:HO}(r:Rd H a u)(x:ϭ P w H h):Ν P w H h a u:=by
 rcases r with r|⟨o,r⟩
 .exact x a u r
 .obtain⟨_,q⟩:=x a _ r;exact q
def Mut:Option HO->Prop
 | some (.lst _)=>True
 | some (.dK _)=>True
 | some (.dT _)=>True
 | some (.set _ _)=>True
 | some (.ins _ _ _)=>True
 | some (.ext _)=>True
 | _=>False
section
variable{P:Program}{w:World}{H:Hp}{h a:Heap}{x e:Addr}{d:HO}
theorem ϭ.write(t:ϭ P w H h)(j:Mut (H x))(p:e=x\/H e=some (.own x))(k:∀b u,b≠e->h.get? b=some u->a.get? b=some u)(n:∃u,a.get? e=some u)(m:Ν P w (upd H x d) a x d):ϭ P w (upd H x d) a:=λb u q=>by
 have g:∀c y,H c=some (.own y)->c≠x:=λc y r z=>by subst z;rw[r]at j;exact j
 have o:∀c i,H c=some (.tup i)->c≠x:=λc i r z=>by subst z;rw[r]at j;exact j
 by_cases l:b=x
 .subst l;rw[aE]at q;cases q;exact m
 .rw[aN l]at q;by_cases f:b=e
  .have q':H b=some (.own x):=by
    rcases p with z|z
    .exact absurd (f.trans z) l
    .rw[f];exact z
   rw[q]at q';cases q';obtain⟨v,s⟩:=n;exact⟨v,by rw[f];exact s⟩
  .refine(t b u q).iF (λc v hc r=>k c v ?_ r) (λc r=>by rw[aN (g c b r)];exact r) λc i r=>by rw[aN (o c i r)];exact r
   rcases hc with rfl|hc
   .exact f
   .rintro rfl;rcases p with z|z
    .exact g c b hc z
    .rw[hc]at z;cases z;exact l rfl
end
structure Un(fs ex:gf)(H H':Hp)(h h':Heap):Prop where
 keep:∀b o,h.get? b=some o->H b=none->b∉fs->b∉ex->h'.get? b=some o
 slot:∀b o,h.get? b=some o->H b=none->b∈fs->b∉ex->∃sl,h'.get? b=some { o with slots:=sl }
 free:∀b o,h.get? b=some o->H b=none->b∉ex->H' b=none
 there:∀b o,h.get? b=some o->b∉ex->∃o',h'.get? b=some o'
 Ge:∀b xs,H b=some (.tup xs)->H' b=some (.tup xs)
 iN:∀b o u,H b=some (.frz o u)->H' b=some (.frz o u)
 Io:∀b ps,H b=some (.tbl ps)->∃more,H' b=some (.tbl (ps++more))
section
variable{d i c g:gf}{H j m:Hp}{h f l h':Heap}{a x e:Addr}{o:HO}
theorem Un.any(u:Un d c H j h f){b:Addr}{k:Obj}(q:h.get? b=some k)(n:H b=none)(p:b∉c):∃s,f.get? b=some { k with slots:=s }:=by
 by_cases r:b∈d
 .exact u.slot b k q n r p
 .exact⟨k.slots,u.keep b k q n r p⟩
theorem Un.kept(k:∀b u,h.get? b=some u->h'.get? b=some u):Un d c H H h h':=⟨λb p q _ _ _=>k b p q,λb p q _ _ _=>⟨p.slots,k b p q⟩,λ_ _ _ n _=>n,λb p q _=>⟨p,k b p q⟩,λ_ _ q=>q,λ_ _ _ q=>q,λ_ r q=>⟨#[],by rw[q];simp⟩⟩
theorem Un.refl:Un d c H H h h:=Un.kept λ_ _ q=>q
theorem Un.laid(k:∀b u,h.get? b=some u->h'.get? b=some u)(r:h.objs.size<=a)(hn:H a=none):Un d c H (upd H a o) h h' where
 keep:=λb u q _ _ _=>k b u q
 slot:=λb u q _ _ _=>⟨u.slots,k b u q⟩
 free:=λb u q n _=>by rw[aN (aW (aZ (aM q) r))];exact n
 there:=λb u q _=>⟨u,k b u q⟩
 Ge:=λb p q=>by rw[aN (cG q hn)];exact q
 iN:=λb u p q=>by rw[aN (cG q hn)];exact q
 Io:=λb s q=>⟨#[],by rw[aN (cG q hn),q];simp⟩
theorem Un.write(s:Mut (H x))(B:e=x\/H e=some (.own x))(k:∀b u,b≠e->h.get? b=some u->h'.get? b=some u)(v:∃u,h'.get? e=some u):Un d c H (upd H x o) h h':=by
 have w:∀b,H b=none->b≠x:=λb n z=>by subst z;rw[n]at s;exact s
 have y:∀b,H b=none->b≠e:=λb n z=>by
  subst z;rcases B with r|r
  .exact w b n r
  .rw[n]at r;cases r
 have t:∀b u,H b=some u->¬Mut (some u)->b≠x:=λb u q C z=>by subst z;rw[q]at s;exact C s
 refine⟨λb u q n _ _=>k b u (y b n) q,λb u q n _ _=>⟨u.slots,k b u (y b n) q⟩,λb u q n _=>by rw[aN (w b n)];exact n,λb u q _=>?_,λb A q=>by rw[aN (t b _ q λz=>z)];exact q,λb u A q=>by rw[aN (t b _ q λz=>z)];exact q,λb D q=>⟨#[],by rw[aN (t b _ q λz=>z),q];simp⟩⟩
 by_cases p:b=e
 .subst p;exact v
 .exact⟨u,k b u p q⟩
end
def trk(h:Heap)(H:Hp):List Addr:=(List.range h.objs.size).filter λa=>(H a).isSome
def xW(h:Heap)(H:Hp):Heap:=PySem.W.hideAll h (trk h H)
theorem Pw(h:Heap)(H:Hp):(xW h H).objs.size=h.objs.size:=PySem.W.hideAll_size _ _
theorem RR{h:Heap}{H:Hp}{b:Addr}{o:Obj}(e:h.get? b=some o)(n:H b=none):(xW h H).get? b=some o:=PySem.W.hideAll_get _ e λa=>by
 have q:(H b).isSome=true:=(bx.mp a).2;rw[n]at q;simp at q
theorem UL{h:Heap}{H:Hp}{b:Addr}{o:Obj}(e:(xW h H).get? b=some o):h.get? b=some o/\H b=none:=by
 have a:h.get? b=some o:=PySem.W.of_hideAll (trk h H) e;refine⟨a,?_⟩;cases q:H b with
 | none=>rfl
 | some x=>
   have c:b∈trk h H:=bx.mpr ⟨cQ.mpr (aM a),by simp[q]⟩;have z:(xW h H).get? b=none:=PySem.W.hideAll_none (trk h H) c;rw[z]at e;cases e
def U5(g h:Heap)(L:Addr):List (Addr×Obj):=(List.range h.objs.size).filterMap λa=>if a=L\/(g.get? a).isSome=true then none else(h.get? a).map λo=>(a,o)
def rest(g h:Heap)(L d:Addr):List (Addr×Obj):=(U5 g h L).filter λp=>decide (p.1≠d)
structure Mod(K:f3)(mg:gx)(base:Heap):Prop where
 kin:K.In base
 glob:base.Ns mainGlobals mg
 blt:∃mb,base.Ns builtinsNs mb/\∀x:Str,x≠"__name__"->mb x=bootBuiltins x
 nolimit:base.NoLimit
structure Cx where
 prog:Program
 w:World
 K:PySem.W.Frag
 mg:Str->Option Value
 base:Heap
 A:Around
 N:List Str
 s₀:Shared
 H₀:Hp
 env:Env
 outer:List Env
 stack:List Env
 ex:List Addr
 fn:Str->Bool
 calm:Bool
 pn:List (Addr×Obj)
 xe:Value->Shared->Prop
def Ϯ(l:List Env):List Addr:=l.filterMap (·.frame)
abbrev Cx.fs(X:Cx):List Addr:=Ϯ X.outer
def Vis(a:Scope)(x:Str):Prop:=a.names.lookup x=some .local\/a.names.lookup x=some .cell\/a.names.lookup x=some .free
def Loc(a:Scope)(x:Str):Prop:=a.names.lookup x=some .local\/a.names.lookup x=some .cell
def Z8(a:Env)(h:Heap)(m:gx)(x:Str)(u:Value):Prop:=(a.kindOf x=some .local/\m x=some u)\/((a.kindOf x=some .cell\/a.kindOf x=some .free)/\∃c,a.cells.lookup x=some c/\h.IsCell c (some u))
structure Cx.Ok(X:Cx):Prop where
 mod:Mod X.K X.mg X.base
 kind:X.env.scope.kind=.function
 glob:X.env.globals=mainGlobals
 blt:X.env.builtins=builtinsNs
 above:X.s₀.heap.objs.size<=X.env.locals
 inj:∀x y c,X.env.cells.lookup x=some c->X.env.cells.lookup y=some c->x=y
 has:∀x,(X.env.kindOf x=some .cell\/X.env.kindOf x=some .free)->∃c,X.env.cells.lookup x=some c
 cab:∀x c,X.fn x=true->X.env.cells.lookup x=some c->X.s₀.heap.objs.size<=c
 hd:X.calm=true->X.A.handled=none
 frames:X.A.frames=some X.stack
 stk:X.stack=X.outer\/(X.stack=X.env::X.outer/\X.env.frame=some X.env.locals)
 exf:∀b∈X.ex,b≠X.env.locals/\∀x c,X.env.cells.lookup x=some c->c≠b
 bs:∀b o,X.base.get? b=some o->X.s₀.heap.get? b=some o/\X.H₀ b=none
 bsz:X.base.objs.size<=X.s₀.heap.objs.size
 acW:∀b o,X.base.get? b=some o->b∉X.ex
 acd:∀b∈X.ex,b∉X.fs
 Le:X.s₀.heap.FunFrames X.base X.outer
 frf:∀b∈X.fs,X.H₀ b=none
structure Inv(X:Cx)(pins:f5)(σ:List (Option V))(H:Hp)(s:Shared):Prop where
 ok:X.Ok
 os:s.os=X.s₀.os
 bare:AllBare s.gens
 base:Un X.fs X.ex X.H₀ H X.s₀.heap s.heap
 loc:∃m,s.heap.Ns X.env.locals m/\∀(i:Nat)(x:Str)(v:V),X.N[i]?=some x->σ[i]?=some (some v)->Vis X.env.scope x->∃u,RelV v u/\Z8 X.env s.heap m x u
 cell:∀x c,X.env.cells.lookup x=some c->∃v,s.heap.IsCell c v
 free:H X.env.locals=none
 Ϟ:∀x c,X.env.cells.lookup x=some c->H c=none
 pin:∀p∈X.pn++pins,s.heap.get? p.1=some p.2/\H p.1=none/\p.1≠X.env.locals/\p.1∉X.fs/\∀v,p.2.data≠.cell v
 Β:ϭ X.prog X.w H s.heap
 len:σ.length=X.N.length
section
variable{X:Cx}{f:f5}{g:List (Option V)}{H B:Hp}{s:Shared}{h':Heap}
theorem Cx.Ok.aly(a:X.Ok){b:Addr}{o:Obj}(e:X.base.get? b=some o):b∉X.fs:=λc=>by
 have:=(a.Le.mem c).1;rw[e]at this;cases this
theorem Inv.bs(I:Inv X f g H s):∀b o,X.base.get? b=some o->s.heap.get? b=some o/\H b=none:=λb o e=>
 ⟨I.base.keep b o (I.ok.bs b o e).1 (I.ok.bs b o e).2 (I.ok.aly e) (I.ok.acW b o e),I.base.free b o (I.ok.bs b o e).1 (I.ok.bs b o e).2 (I.ok.acW b o e)⟩
theorem Inv.bk(I:Inv X f g H s):∀b o,X.base.get? b=some o->s.heap.get? b=some o:=λb o e=>(I.bs b o e).1
theorem Inv.mod(I:Inv X f g H s):Mod X.K X.mg X.base:=I.ok.mod
theorem Inv.kIn(I:Inv X f g H s):X.K.In s.heap:=I.ok.mod.kin.keeps I.bk
theorem Inv.lt(I:Inv X f g H s):X.env.locals<s.heap.objs.size:=let ⟨_,hn,_⟩:=I.loc;hn.lt
theorem Inv.sz(I:Inv X f g H s):X.s₀.heap.objs.size<=s.heap.objs.size:=aP I.ok.above (jG I.lt)
theorem Inv.alz(I:Inv X f g H s){a:Addr}(h:s.heap.objs.size<=a):a∉X.fs:=λc=>by
 obtain⟨_,o,b,_⟩:=I.ok.Le.mem c;exact absurd (aZ (aM b) (aP I.sz h)) (dM _)
theorem Inv.cne(I:Inv X f g H s):∀x c,X.env.cells.lookup x=some c->c≠X.env.locals:=λx c e z=>by
 obtain⟨v,o,d,h⟩:=I.cell x c e;obtain⟨m,⟨j,i,k,a,b,_⟩,_⟩:=I.loc;rw[z,a]at d;cases d;rw[b]at h;cases h
theorem Inv.Le(I:Inv X f g H s):s.heap.FunFrames X.base X.outer:=by
 have h:∀(l:List Env),(∀b∈Ϯ l,b∈X.fs)->X.s₀.heap.FunFrames X.base l->s.heap.FunFrames X.base l:=by
  intro l
  induction l with
  | nil=>intro _ _;trivial
  | cons env r ih=>
    intro i k;obtain⟨j,⟨L,o,a,q,p,m⟩,n⟩:=k;have c:L∈X.fs:=i L (by unfold Ϯ;rw[jd,a];exact aA);obtain⟨t,e⟩:=I.base.slot L o p (I.ok.frf L c) c λz=>I.ok.acd L z c;exact⟨j,⟨L,_,a,q,e,m⟩,ih (λb d=>i b (by unfold Ϯ;rw[jd,a];exact ap _ d)) n⟩
 exact h X.outer (λ_ d=>d) I.ok.Le
theorem Inv.stack(I:Inv X f g H s):s.heap.FunFrames X.base X.stack:=by
 rcases I.ok.stk with e|⟨e,b⟩
 .rw[e];exact I.Le
 .rw[e];obtain⟨m,a,_⟩:=I.loc;refine .cons (by rw[I.ok.kind];decide) b a ?_ I.Le;exact Heap.get?_none_of_le (aP I.ok.bsz I.ok.above)
theorem Inv.acf(I:Inv X f g H s):∀b∈Ϯ X.stack,b∈X.env.locals::X.fs:=λb a=>by
 rcases I.ok.stk with e|⟨e,c⟩
 .rw[e]at a;exact ap _ a
 .rw[e]at a;unfold Ϯ at a;rw[jd,c]at a;exact a
theorem Inv.aav(I:Inv X f g H s):∀b∈Ϯ X.stack,H b=none:=λb hb=>by
 rcases aw.mp (I.acf b hb)with e|hb
 .rw[e];exact I.free
 .obtain⟨_,o,ho,_⟩:=I.ok.Le.mem hb;exact I.base.free b o ho (I.ok.frf b hb) λz=>I.ok.acd b z hb
theorem Inv.step{g':Array GenState}{t':Nat}{d':Drawn}{ch:gf}(I:Inv X f g H s)(h:∀b∈ch,(b∈X.ex\/X.s₀.heap.objs.size<=b)/\b≠X.env.locals/\(∀x c,X.env.cells.lookup x=some c->c≠b)/\∀p∈X.pn++f,p.1≠b)(keep:∀b o,b≠X.env.locals->b∉X.fs->b∉ch->s.heap.get? b=some o->H b=none->h'.get? b=some o)(slot:∀b o,b≠X.env.locals->b∈X.fs->b∉ch->s.heap.get? b=some o->H b=none->∃O,h'.get? b=some { o with slots:=O })(free:∀b o,b∉ch->s.heap.get? b=some o->H b=none->B b=none)(there:∀b o,b∉ch->s.heap.get? b=some o->∃F,h'.get? b=some F)(Ge:∀b C,H b=some (.tup C)->B b=some (.tup C))(iN:∀b o u,H b=some (.frz o u)->B b=some (.frz o u))(Io:∀b L,H b=some (.tbl L)->∃G,B b=some (.tbl (L++G)))(S:∀m,s.heap.Ns X.env.locals m->h'.Ns X.env.locals m)(T:ϭ X.prog X.w B h')(U:AllBare g'):Inv X f g B { s with heap:=h',gens:=g',drawn:=d',toks:=t' }:=by
 have K:∀b o,X.s₀.heap.get? b=some o->b≠X.env.locals:=λb o e=>aW (aZ (aM e) I.ok.above);have A:∀b o,X.s₀.heap.get? b=some o->b∉X.ex->b∉ch:=λb o e a D=>by
  rcases(h b D).1 with z|z
  .exact a z
  .exact absurd (aZ (aM e) z) (dM _)
 have t:∀x c,X.env.cells.lookup x=some c->∀v,s.heap.IsCell c v->h'.IsCell c v:=λx c e v ⟨o,E,M⟩=>by
  have j:c∉ch:=λz=>(h c z).2.2.1 x c e rfl;by_cases P:c∈X.fs
  .obtain⟨O,q⟩:=slot c o (I.cne x c e) P j E (I.Ϟ x c e);exact⟨_,q,M⟩
  .exact⟨o,keep c o (I.cne x c e) P j E (I.Ϟ x c e),M⟩
 refine⟨I.ok,I.os,U,⟨λb o e n D a=>?_,λb o e n D a=>?_,λb o e n a=>?_,λb o e a=>?_,λb C e=>Ge b C (I.base.Ge b C e),λb o C e=>iN b o C (I.base.iN b o C e),λb L e=>?_⟩,?_,λx c e=>?_,?_,λx c e=>?_,λp Q=>?_,T,I.len⟩
 .exact keep b o (K b o e) D (A b o e a) (I.base.keep b o e n D a) (I.base.free b o e n a)
 .obtain⟨O,y⟩:=I.base.slot b o e n D a;obtain⟨N,J⟩:=slot b _ (K b o e) D (A b o e a) y (I.base.free b o e n a);exact⟨N,J⟩
 .obtain⟨F,y⟩:=I.base.there b o e a;exact free b F (A b o e a) y (I.base.free b o e n a)
 .obtain⟨F,y⟩:=I.base.there b o e a;exact there b F (A b o e a) y
 .obtain⟨m1,y⟩:=I.base.Io b L e;obtain⟨R,J⟩:=Io b _ y;exact⟨m1++R,by rw[J,Array.append_assoc]⟩
 .obtain⟨m,hn,hl⟩:=I.loc;refine⟨m,S m hn,λi x v y J V=>?_⟩;obtain⟨u,r,l⟩:=hl i x v y J V;refine⟨u,r,?_⟩;rcases l with l|⟨k,c,e,z⟩
  .exact .inl l
  .exact .inr ⟨k,c,e,t x c e _ z⟩
 .obtain⟨v,z⟩:=I.cell x c e;exact⟨v,t x c e v z⟩
 .obtain⟨m,⟨o,_,_,E,_⟩,_⟩:=I.loc;exact free _ o (λz=>(h _ z).2.1 rfl) E I.free
 .obtain⟨v,o,E,M⟩:=I.cell x c e;exact free c o (λz=>(h c z).2.2.1 x c e rfl) E (I.Ϟ x c e)
 .obtain⟨e,n,ne,nf,d⟩:=I.pin p Q;have j:p.1∉ch:=λz=>(h p.1 z).2.2.2 p Q rfl;exact⟨keep p.1 p.2 ne nf j e n,free p.1 p.2 j e n,ne,nf,d⟩
theorem Inv.un{t':Nat}(I:Inv X f g H s)(u:Un X.fs [] H B s.heap h')(p:ϭ X.prog X.w B h'):Inv X f g B { s with heap:=h',toks:=t' }:=by
 obtain⟨m,⟨o,t,x,i,r⟩,_⟩:=id I.loc;obtain⟨y,l⟩:=u.any i I.free (by simp);exact I.step (g':=s.gens) (d':=s.drawn) (ch:=[]) (λ_ z=>nomatch z) (λb o _ c _ e n=>u.keep b o e n c (by simp)) (λb o _ c _ e n=>u.slot b o e n c (by simp)) (λb o _ e n=>u.free b o e n (by simp)) (λb o _ e=>u.there b o e (by simp)) u.Ge u.iN u.Io (λv j=>by
  obtain⟨q,d,h,a,k⟩:=j;rw[i]at a;cases a;exact⟨_,d,h,l,k⟩) p I.bare
theorem Inv.call{g':Array GenState}{t':Nat}{d':Drawn}{ch:gf}(I:Inv X f g H s)(u:Un (Ϯ X.stack) ch H B s.heap h')(v:ϭ X.prog X.w B h')(A:AllBare g')(h:∀b∈ch,(b∈X.ex\/X.s₀.heap.objs.size<=b)/\b≠X.env.locals/\(∀x c,X.env.cells.lookup x=some c->c≠b)/\∀p∈X.pn++f,p.1≠b):Inv X f g B { s with heap:=h',gens:=g',drawn:=d',toks:=t' }:=by
 obtain⟨m,⟨o,D,F,l,r⟩,_⟩:=id I.loc;obtain⟨G,i⟩:=u.any l I.free λz=>(h _ z).2.1 rfl;exact I.step (ch:=ch) h (λb o i y a e n=>u.keep b o e n (λz=>(aw.mp (I.acf b z)).elim i y) a) (λb o _ _ a e n=>u.any e n a) (λb o a e n=>u.free b o e n a) (λb o a e=>u.there b o e a) u.Ge u.iN u.Io (λE q=>by
  obtain⟨C,j,k,d,t⟩:=q;rw[l]at d;cases d;exact⟨_,j,k,i,t⟩) v A
theorem Inv.turned{t':Nat}{it:Addr}(I:Inv X f g H s)(k:∀b o,b≠it->s.heap.get? b=some o->h'.get? b=some o)(t:H it=none)(h:it≠X.env.locals)(j:it∈X.ex\/X.s₀.heap.objs.size<=it)(w:∀x c,X.env.cells.lookup x=some c->c≠it)(y:∀p∈X.pn++f,p.1≠it):Inv X f g H { s with heap:=h',toks:=t' }:=by
 have d:∀b u,H b=some u->b≠it:=λb u e z=>by rw[z,t]at e;cases e
 refine I.step (g':=s.gens) (d':=s.drawn) (ch:=[it]) (λb l=>?_) (λb o _ _ a e _=>k b o (λz=>a (by simp[z])) e) (λb o _ _ a e _=>⟨o.slots,k b o (λz=>a (by simp[z])) e⟩) (λ_ _ _ _ n=>n)
  (λb o a e=>⟨o,k b o (λz=>a (by simp[z])) e⟩) (λ_ _ e=>e) (λ_ _ _ e=>e) (λb A e=>⟨#[],by rw[e];simp⟩) (λm i=>?_) (λb u e=>?_) I.bare
 .have e:b=it:=by simpa using l
  subst e;exact⟨j,h,w,y⟩
 .obtain⟨o,es,ep,ho,r⟩:=i;exact⟨o,es,ep,k _ o (Ne.symm h) ho,r⟩
 .refine(I.Β b u e).iF (λc v a q=>k c v ?_ q) (λ_ q=>q) λ_ _ q=>q;rcases a with z|z
  .rw[z];exact d b u e
  .exact d c _ z
theorem Inv.tok(I:Inv X f g H s)(t:Nat):Inv X f g H { s with toks:=t }:=I.un (h':=s.heap) (t':=t) Un.refl I.Β
theorem Inv.kept{t':Nat}(I:Inv X f g H s)(k:∀b u,s.heap.get? b=some u->h'.get? b=some u):Inv X f g H { s with heap:=h',toks:=t' }:=I.un (Un.kept k) (I.Β.kept k)
theorem Inv.laid{a:Addr}{o:HO}{t':Nat}(I:Inv X f g H s)(k:∀b u,s.heap.get? b=some u->h'.get? b=some u)(d:s.heap.objs.size<=a)(c:Ν X.prog X.w (upd H a o) h' a o):Inv X f g (upd H a o) { s with heap:=h',toks:=t' }:=I.un (Un.laid k d (I.Β.fresh d)) (I.Β.laid k d c)
theorem Inv.write{x e:Addr}{o:HO}{i:Nat}(I:Inv X f g H s)(d:Mut (H x))(h:e=x\/H e=some (.own x))(k:∀b u,b≠e->s.heap.get? b=some u->h'.get? b=some u)(a:∃u,h'.get? e=some u)(c:Ν X.prog X.w (upd H x o) h' x o):Inv X f g (upd H x o) { s with heap:=h',toks:=i }:=I.un (Un.write d h k a) (I.Β.write d h k a c)
theorem Inv.acE{a:f5}(I:Inv X f g H s)(h:∀p∈a,s.heap.get? p.1=some p.2/\H p.1=none/\p.1≠X.env.locals/\p.1∉X.fs/\∀v,p.2.data≠.cell v):Inv X a g H s:=⟨I.ok,I.os,I.bare,I.base,I.loc,I.cell,I.free,I.Ϟ,λp b=>(ba.mp b).elim (λz=>I.pin p (bC _ z)) (h p),I.Β,I.len⟩
theorem Hj{N:gy}(d:N.Nodup){i j:Nat}{x:Str}(a:N[i]?=some x)(b:N[j]?=some x):i=j:=by
 obtain⟨k,e⟩:=aD.mp a;obtain⟨h,c⟩:=aD.mp b;exact(List.getElem_inj d).mp (e.trans c.symm)
theorem FG{M:Model}{A:Around}{E:fz}{i:Nat}{x:Str}{v:V}{u:Value}{Q:Unit->Shared->Prop}(I:Inv X f g H s)(hN:X.N.Nodup)(J:X.N[i]?=some x)(D:Loc X.env.scope x)(r:RelV v u)(h:∀T,Inv X f (g.set i (some v)) H T->(∃a,Heap.SameBut a s.heap T.heap/\(a=X.env.locals\/X.env.cells.lookup x=some a))->Q () T)(hf:X.fn x=true\/X.env.scope.names.lookup x=some .local:=by first|exact .inl rfl|exact .inr rfl|assumption):wpAny M A (storeName X.env x u) Q E s:=by
 obtain⟨m,hn,hl⟩:=id I.loc;have Z:(X.env.scope.kind==.class||(X.env.scope.kind==.module&&X.env.locals != X.env.globals))=false:=by rw[I.ok.kind];rfl
 have K:i<g.length:=by rw[I.len];exact(aD.mp J).1
 have cne:=I.cne;have C:∀{a:Addr}{h':Heap},(∃o,s.heap.get? a=some o/\H a=none)->Heap.SameBut a s.heap h'->ϭ X.prog X.w H h':=λ{a h'} ha l b ob e=>by
  obtain⟨_,_,P⟩:=ha;refine(I.Β b ob e).iF (λc R hc q=>(l.2 c ?_).trans q) (λ_ q=>q) λ_ _ q=>q;rintro rfl;rcases hc with rfl|hc
  .rw[P]at e;cases e
  .rw[P]at hc;cases hc
 rcases D with hk|hk
 .refine wpAny_storeName_local hk hn (λh' ab l=>?_) Z;obtain⟨oL,_,_,U,_⟩:=id hn;refine h _ ⟨I.ok,I.os,I.bare,⟨λb o e n G D=>?_,λb o e n G D=>?_,I.base.free,λb o e D=>?_,I.base.Ge,I.base.iN,I.base.Io⟩,⟨_,ab,λj y W t F e3=>?_⟩,λy c e=>?_,I.free,I.Ϟ,λp hp=>?_,C ⟨oL,U,I.free⟩ l,by simpa using I.len⟩ ⟨_,l,.inl rfl⟩
  .exact(l.2 b (aW (aZ (aM e) I.ok.above))).trans (I.base.keep b o e n G D)
  .obtain⟨sl,t⟩:=I.base.slot b o e n G D;exact⟨sl,(l.2 b (aW (aZ (aM e) I.ok.above))).trans t⟩
  .obtain⟨o',t⟩:=I.base.there b o e D;exact⟨o',(l.2 b (aW (aZ (aM e) I.ok.above))).trans t⟩
  .by_cases hj:j=i
   .subst hj;rw[J]at t;cases t;rw[da K]at F;cases F;exact⟨u,r,.inl ⟨hk,by simp⟩⟩
   .rw[cT (Ne.symm hj)]at F;obtain⟨u',Y,q⟩:=hl j y W t F e3;refine⟨u',Y,?_⟩;rcases q with⟨k,e⟩|⟨k,c,e,z⟩
    .refine .inl ⟨k,?_⟩;have:y≠x:=λe=>hj (Hj hN t (e▸J));simp[this,e]
    .exact .inr ⟨k,c,e,z.sameBut l (cne y c e)⟩
  .obtain⟨R,z⟩:=I.cell y c e;exact⟨R,z.sameBut l (cne y c e)⟩
  .obtain⟨e,n,ne,nf,d⟩:=I.pin p hp;exact⟨(l.2 p.1 ne).trans e,n,ne,nf,d⟩
 .have hfn:X.fn x=true:=by
   rcases hf with z|z
   .exact z
   .rw[z]at hk;cases hk
  obtain⟨c,hc⟩:=I.ok.has x (.inl hk);obtain⟨R,z⟩:=I.cell x c hc;refine wpAny_storeName_cell I.ok.kind hk hc z (λh' O l=>?_);obtain⟨oc,L,ai⟩:=id z;refine h { s with heap:=h' } ⟨I.ok,I.os,I.bare,⟨λb o e n G D=>?_,λb o e n G D=>?_,I.base.free,λb o e D=>?_,I.base.Ge,I.base.iN,I.base.Io⟩,⟨m,hn.sameBut l (Ne.symm (cne x c hc)),λj y W t F e3=>?_⟩,λy S e=>?_,I.free,I.Ϟ,λp hp=>?_,C ⟨oc,L,I.Ϟ x c hc⟩ l,by simpa using I.len⟩ ⟨c,l,.inr hc⟩
  .exact(l.2 b (aW (aZ (aM e) (I.ok.cab x c hfn hc)))).trans (I.base.keep b o e n G D)
  .obtain⟨sl,t⟩:=I.base.slot b o e n G D;exact⟨sl,(l.2 b (aW (aZ (aM e) (I.ok.cab x c hfn hc)))).trans t⟩
  .obtain⟨o',t⟩:=I.base.there b o e D;exact⟨o',(l.2 b (aW (aZ (aM e) (I.ok.cab x c hfn hc)))).trans t⟩
  .by_cases hj:j=i
   .subst hj;rw[J]at t;cases t;rw[da K]at F;cases F;exact⟨u,r,.inr ⟨.inl hk,c,hc,O⟩⟩
   .rw[cT (Ne.symm hj)]at F;obtain⟨u',Y,q⟩:=hl j y W t F e3;refine⟨u',Y,?_⟩;rcases q with q|⟨k,S,e,z'⟩
    .exact .inl q
    .refine .inr ⟨k,S,e,z'.sameBut l ?_⟩;rintro rfl;exact hj (Hj hN t (I.ok.inj _ _ _ e hc▸J))
  .by_cases hcc:S=c
   .subst hcc;exact⟨_,O⟩
   .obtain⟨w2,z2⟩:=I.cell y S e;exact⟨w2,z2.sameBut l hcc⟩
  .obtain⟨e,n,ne,nf,d⟩:=I.pin p hp;refine⟨(l.2 p.1 ?_).trans e,n,ne,nf,d⟩;intro q;rw[q,L]at e;have q':oc=p.2:=bu e;exact d R (by rw[<-q'];exact ai)
theorem BI{M:Model}{A:Around}{E:fz}{i:Nat}{x:Str}{v:V}{u:Value}{Q:Unit->Shared->Prop}(I:Inv X f g H s)(d:X.N.Nodup)(b:X.N[i]?=some x)(c:Loc X.env.scope x)(r:RelV v u)(h:∀a,Inv X f (g.set i (some v)) H a->Q () a)(e:X.fn x=true\/X.env.scope.names.lookup x=some .local:=by first|exact .inl rfl|exact .inr rfl|assumption):wpAny M A (storeName X.env x u) Q E s:=FG I d b c r (λa j _=>h a j) e
theorem Inv.afe{s':Shared}{ch:gf}(I:Inv X f g H s)(i:s'.os=s.os)(u:Un (Ϯ X.stack) ch H B s.heap s'.heap)(j:ϭ X.prog X.w B s'.heap)(d:AllBare s'.gens)(a:∀b∈ch,(b∈X.ex\/X.s₀.heap.objs.size<=b)/\b≠X.env.locals/\(∀x c,X.env.cells.lookup x=some c->c≠b)/\∀p∈X.pn++f,p.1≠b):Inv X f g B s':=by
 obtain⟨h',g',d',t',h⟩:=s';have e:h=s.os:=i;subst e;exact I.call (g':=g') (t':=t') (d':=d') u j d a
end
abbrev XK:=Value->Option Addr->Hp->Prop
abbrev St:=List (Option V)
abbrev VK:=V->Hp->Prop
abbrev TE:=St->Hp->VK->Prop
abbrev TT:=St->Hp->(Bool->Hp->Prop)->Prop
abbrev TA:=St->Hp->(List V->Hp->Prop)->Prop
structure Ends where
 nx:St->Hp->Prop
 rt:VK
 bk:St->Hp->Prop:=λ_ _=>False
 ct:St->Hp->Prop:=λ_ _=>False
abbrev TS:=Ends->St->Hp->Prop
def EP(X:Cx)(a:f5)(d:St)(Q:VK)(u:Value)(c:Shared):Prop:=∃v b,Inv X a d b c/\RelV v u/\Q v b
def TP(X:Cx)(a:f5)(e:St)(Q:Bool->Hp->Prop)(b:Bool)(d:Shared):Prop:=∃c,Inv X a e c d/\Q b c
def AP(X:Cx)(a:f5)(f:St)(Q:List V->Hp->Prop)(d:gg)(e:Shared):Prop:=∃c b,Inv X a f b e/\Vals c d/\Q c b
def SP(X:Cx)(b:f5)(D:Ends)(f:Flow)(d:Shared):Prop:=match f with
 | .next=>∃a c,Inv X b a c d/\D.nx a c
 | .brk=>∃a c,Inv X b a c d/\D.bk a c
 | .cont=>∃a c,Inv X b a c d/\D.ct a c
 | .ret u=>∃v a c,Inv X b a c d/\RelV v u/\D.rt v c
def PE(X:Cx)(e:Expr)(t:TE):Prop:=∀(a:f5)(s:Shared)(b:St)(H:Hp)(Q:VK),Inv X a b H s->t b H Q->wpAny (model X.prog X.w) X.A (eval e X.env) (EP X a b Q) X.xe s
def PT(X:Cx)(e:Expr)(t:TT):Prop:=∀(a:f5)(s:Shared)(b:St)(H:Hp)(Q:Bool->Hp->Prop),Inv X a b H s->t b H Q->wpAny (model X.prog X.w) X.A (isTrue e X.env (eval e X.env)) (TP X a b Q) X.xe s
def PW(X:Cx)(e:Expr)(t:TT):Prop:=∀(b:Sem Value)(a:f5)(s:Shared)(c:St)(H:Hp)(Q:Bool->Hp->Prop),Inv X a c H s->t c H Q->wpAny (model X.prog X.w) X.A (isTrue e X.env b) (TP X a c Q) X.xe s
theorem PW.pt{X:Cx}{e:Expr}{t:TT}(h:PW X e t):PT X e t:=h _
def PA(X:Cx)(d:List Expr)(t:TA):Prop:=∀(c:Pos)(a:f5)(s:Shared)(b:St)(H:Hp)(Q:List V->Hp->Prop),Inv X a b H s->t b H Q->wpAny (model X.prog X.w) X.A (spliced (backTo c (starEach d X.env))) (AP X a b Q) X.xe s
def PS(X:Cx)(st:Stmt)(t:TS):Prop:=∀(a:f5)(s:Shared)(b:St)(H:Hp)(D:Ends),Inv X a b H s->t D b H->wpAny (model X.prog X.w) X.A (exec st X.env) (SP X a D) X.xe s
def PSs(X:Cx)(st:List Stmt)(t:TS):Prop:=∀(a:f5)(s:Shared)(b:St)(H:Hp)(D:Ends),Inv X a b H s->t D b H->wpAny (model X.prog X.w) X.A (execs st X.env) (SP X a D) X.xe s
theorem ϔ{c:Type}{t:Sem c}{Q b:c->Shared->Prop}{M:Model}{A:Around}{E:fz}{s:Shared}(h:wpAny M A t Q E s)(d:∀a s,Q a s->b a s):wpAny M A t b E s:=eB h d λ_ _ x=>x
theorem eJ{t:Sem Value}{X:Cx}{a:f5}{c:St}{Q:VK}{b:fz}{M:Model}{A:Around}{E:fz}{s:Shared}(h:wpAny M A t (EP X a c Q) E s)(d:∀u s v H,Inv X a c H s->RelV v u->Q v H->b u s):wpAny M A t b E s:=ϔ h λu s ⟨v,H,I,r,q⟩=>d u s v H I r q
theorem vN{t:Sem (List Value)}{X:Cx}{a:f5}{c:St}{Q:List V->Hp->Prop}{b:List Value->Shared->Prop}{M:Model}{A:Around}{E:fz}{s:Shared}(h:wpAny M A t (AP X a c Q) E s)(d:∀u s v H,Inv X a c H s->Vals v u->Q v H->b u s):wpAny M A t b E s:=ϔ h λu s ⟨v,H,I,r,q⟩=>d u s v H I r q
theorem BC{t:Sem Bool}{X:Cx}{a:f5}{c:St}{Q:Bool->Hp->Prop}{b:Bool->Shared->Prop}{M:Model}{A:Around}{E:fz}{s:Shared}(h:wpAny M A t (TP X a c Q) E s)(d:∀u s H,Inv X a c H s->Q u H->b u s):wpAny M A t b E s:=ϔ h λu s ⟨H,I,q⟩=>d u s H I q
section
variable{X:Cx}
def yZ(i:Nat):TE:=λa H Q=>∃v,a[i]?=some (some v)/\Q v H
def tC(v:V):TE:=λ_ H Q=>Q v H
theorem HK{i:Nat}{x:Str}{g:Pos}(n:X.N[i]?=some x)(j:Vis X.env.scope x)(d:(x==("__debug__":Str))=false:=by decide)(f:(x==("__classdict__":Str))=false:=by decide):PE X (.Name x g) (yZ i):=by
 intro b s p H Q I h;obtain⟨v,e,h⟩:=h;obtain⟨m,o,k⟩:=I.loc;obtain⟨u,r,l⟩:=k i x v n e j;have a:EP X b p Q u s:=⟨v,H,I,r,h⟩;rcases l with⟨hk,hm⟩|⟨hk,c,hc,Ϻ⟩
 .exact wpAny_Name (wpAny_loadName_local I.ok.kind hk o hm a) d
 .rcases hk with hk|hk
  .exact wpAny_Name (wpAny_loadName_cell I.ok.kind hk hc Ϻ a) d
  .exact wpAny_Name (wpAny_loadName_free I.ok.kind hk hc Ϻ a f) d
theorem aQ{i j pos}:PE X (.Constant (.int i) j pos) (tC (.int i)):=λ_ _ _ H _ I h=>wpAny_Constant_int ⟨.int i,H,I.tok _,⟨_,rfl⟩,h⟩
theorem sU{b j pos}:PE X (.Constant (.bool b) j pos) (tC (.bl b)):=λ_ _ _ H _ I h=>Constant_bool ⟨.bl b,H,I,rfl,h⟩
theorem uP{j pos}:PE X (.Constant .none j pos) (tC .ο):=λ_ _ _ H _ I h=>Constant_none ⟨.ο,H,I,rfl,h⟩
theorem rh{x j pos}:PE X (.Constant (.str x) j pos) (tC (.str x)):=λ_ _ _ H _ I h=>Calls.Constant_str ⟨.str x,H,I.tok _,⟨_,rfl⟩,h⟩
def Gl(X:Cx)(x:Str):Prop:=X.env.kindOf x=some .globalImplicit
theorem Ag{E:fz}{a:f5}{s:Shared}{e:St}{H:Hp}{x:Str}{u:Value}{b:Pos}{Q:fz}(I:Inv X a e H s)(c:Gl X x)(d:X.mg x=some u)(h:Q u s)(f:(x==("__debug__":Str))=false:=by decide):wpAny (model X.prog X.w) X.A (eval (.Name x b) X.env) Q E s:=lZ I.ok.kind c (Calls.loadGlobal_global (by rw[I.ok.glob];exact I.mod.glob.keeps I.bk) d h) f
theorem rD{E:fz}{a:f5}{s:Shared}{k:St}{H:Hp}{x:Str}{u:Value}{b:Pos}{Q:fz}(I:Inv X a k H s)(g:Gl X x)(c:X.mg x=none)(d:bootBuiltins x=some u)(h:Q u s)(i:x≠"__name__":=by decide)(e:(x==("__debug__":Str))=false:=by decide):wpAny (model X.prog X.w) X.A (eval (.Name x b) X.env) Q E s:=by
 obtain⟨l,f,j⟩:=I.mod.blt;exact lZ I.ok.kind g (Calls.loadGlobal_builtin (by rw[I.ok.glob];exact I.mod.glob.keeps I.bk) c (by rw[I.ok.blt];exact f.keeps I.bk) ((j x i).trans d) h) e
theorem VF{x:Str}{v:V}{u:Value}{a:Pos}(b:Gl X x)(c:X.mg x=some u)(r:RelV v u)(d:(x==("__debug__":Str))=false:=by decide):PE X (.Name x a) (tC v):=λ_ _ _ H _ I h=>Ag I b c ⟨v,H,I,r,h⟩ d
variable{a b:Expr}{g o:TE}{pos:Pos}
def PC(X:Cx)(h:CmpOp)(a b:Expr)(t:TE):Prop:=∀(c:f5)(s:Shared)(f:St)(H:Hp)(Q:VK),Inv X c f H s->t f H Q->wpAny (model X.prog X.w) X.A (eval a X.env) (λv e=>wpAny (model X.prog X.w) X.A (eval b X.env) (λu d=>wpAny (model X.prog X.w) X.A (compareOp h v u) (EP X c f Q) X.xe d) X.xe e) X.xe s
theorem QN(b:Expr){c:CmpOp}(h:c≠.In)(d:c≠.NotIn):behindInMarks c b=false:=by
 have f:(c==CmpOp.In)=false:=by cases c<;>first|rfl|exact absurd rfl h
 have e:(c==CmpOp.NotIn)=false:=by cases c<;>first|rfl|exact absurd rfl d
 cases b<;>simp[behindInMarks,f,e]
def QP(g:TE):TE:=λc H Q=>g c H λx d=>Q (.bl (decide (x=.ο))) d
def N9(g:TE):TE:=λc H Q=>g c H λx d=>Q (.bl (!decide (x=.ο))) d
theorem RelV.abF{x:V}{v:Value}(r:RelV x v):(v==Value.none)=decide (x=.ο):=by
 cases x with
 | ο=>cases r;rfl
 | bl _=>cases r;rfl
 | int _=>obtain⟨t,rfl⟩:=r;rfl
 | str _=>obtain⟨t,rfl⟩:=r;rfl
 | byt _=>obtain⟨t,rfl⟩:=r;rfl
 | flt _=>obtain⟨t,rfl⟩:=r;rfl
 | ref _=>cases r;rfl
 | ty _=>cases r;rfl
theorem Wt{j pos'}(ha:PE X a g):PC X .Is a (.Constant .none j pos') (QP g):=by
 intro c s f H Q I h;refine eJ (ha c s f H _ I h) λv l x k i e d=>?_;exact Constant_none (is_none_gen ⟨.bl _,k,i,by rw[e.abF];rfl,d⟩)
theorem Ve{j pos'}(ha:PE X a g):PC X .IsNot a (.Constant .none j pos') (N9 g):=by
 intro c s f H Q I h;refine eJ (ha c s f H _ I h) λv l x k i e d=>?_;exact Constant_none (isnot_none_gen ⟨.bl _,k,i,by rw[e.abF];rfl,d⟩)
def tB(t:TE):TT:=λd H Q=>t d H λx e=>∃c,x=.bl c/\Q c e
theorem De{f:CmpOp}{t:TE}(h:PC X f a b t)(i:behindInMarks f b=false:=by first|exact QN _ (by decide) (by decide)|rfl):PT X (.Compare a [f] [b] pos) (tB t):=by
 intro e s p H Q I m;refine wpAny_isTrue_Compare1 (ϔ (h e s p H _ I m) λv w i=>ϔ i λu y l=>ϔ l λc z ⟨x,r,n,k,j⟩=>?_) i;obtain⟨d,rfl,q⟩:=j;cases k;exact dN ⟨r,n,q⟩
theorem kR{e:Expr}{t:TE}(h:PE X e t)(j:∀c,isTrue e X.env c=(do let v <-c;standAt e.pos;holding [v] (truthy v)):=by intro _;rfl):PT X e (tB t):=by
 intro f s n H Q I l;refine isTrue_plain (eJ (h f s n H _ I l) λv r x p m k i=>?_) (j _);obtain⟨d,rfl,q⟩:=i;cases k;exact dN ⟨p,m,q⟩
variable{k n:TT}{f:List Expr}
def Ra(t u:TT):TT:=λd H Q=>t d H λc e=>if c=true then u d e Q else Q false e
def tOr(t u:TT):TT:=λd H Q=>t d H λc e=>if c=true then Q true e else u d e Q
def RQ(t:TT):TT:=λd H Q=>t d H λc e=>Q (!c) e
theorem Ab(j:PT X a k):PW X (.BoolOp .And [a] pos) k:=by
 intro m d s i H Q I h;refine isTrue_and (ϔ (j d s i H Q I h) λc l e=>?_);cases c with
 | true=>exact isTrue_and_nil e
 | false=>exact e
theorem wj(j:PT X a k):PW X (.BoolOp .Or [a] pos) k:=by
 intro m d s i H Q I h;refine isTrue_or (ϔ (j d s i H Q I h) λc l e=>?_);cases c with
 | false=>exact isTrue_or_nil e
 | true=>exact e
theorem CS(m:PT X a k)(q:PW X (.BoolOp .And (b::f) pos) n):PW X (.BoolOp .And (a::b::f) pos) (Ra k n):=by
 intro r d s i H Q I h;refine isTrue_and (BC (m d s i H _ I h) λc p l j e=>?_);cases c with
 | true=>exact q r d p i l Q j e
 | false=>exact⟨l,j,e⟩
theorem zT(m:PT X a k)(q:PW X (.BoolOp .Or (b::f) pos) n):PW X (.BoolOp .Or (a::b::f) pos) (tOr k n):=by
 intro r d s i H Q I h;refine isTrue_or (BC (m d s i H _ I h) λc p l j e=>?_);cases c with
 | true=>exact⟨l,j,e⟩
 | false=>exact q r d p i l Q j e
theorem lO(i:PT X a k):PT X (.UnaryOp .Not a pos) (RQ k):=by
 intro d s e H Q I h;exact isTrue_not (i d s e H (λc j=>Q (!c) j) I h)
def NU(g o:TE):TE:=λd H Q=>g d H λx e=>∃c,x=.bl c/\if c=true then o d e Q else Q (.bl false) e
theorem G4{op}{t:TE}(h:PE X a t):PE X (.BoolOp op [a] pos) t:=λc s d H Q I e=>BoolOp_one (h c s d H Q I e)
theorem Jb(p:PE X a g)(r:PE X (.BoolOp .And (b::f) pos) o):PE X (.BoolOp .And (a::b::f) pos) (NU g o):=by
 intro d s i H Q I h;refine BoolOp_and (eJ (p d s i H _ I h) λv q x l j m e=>?_);obtain⟨c,rfl,e⟩:=e;cases m;refine dN ?_;cases c with
 | true=>exact r d q i l Q j e
 | false=>exact⟨.bl false,l,j,rfl,e⟩
def tIf(t:TT)(g o:TE):TE:=λd H Q=>t d H λc e=>if c=true then g d e Q else o d e Q
theorem Hy{c:Expr}(t:PT X c k)(q:PE X a g)(r:PE X b o):PE X (.IfExp c a b pos) (tIf k g o):=by
 intro e s i H Q I h;refine wpAny_IfExp (BC (t e s i H _ I h) λd l p m j=>?_);cases d with
 | true=>exact q e l i p Q m j
 | false=>exact r e l i p Q m j
end
def ν(K:f3)(H:Hp)(a:Addr)(xs:List V):Prop:=Rd H a (.lst xs)\/∃(o:Obj)(b:Array Value)(n:Nat),K.lookup a=some o/\o.cls=.type "list"/\o.dict=none/\o.data=.seq b n/\b.size<=sizeLine/\Vals xs b.toList
def Ξ(K:f3)(H:Hp)(a:Addr)(xs:List V):Prop:=Rd H a (.tup xs)\/∃(o:Obj)(b:Array Value)(n:Nat),K.lookup a=some o/\o.cls=.type "tuple"/\o.data=.seq b n/\b.size<=sizeLine/\Vals xs b.toList
def ama:Value->Option V
 | .none=>some .ο
 | .bool b=>some (.bl b)
 | .int i _=>some (.int i)
 | .str x _=>some (.str x)
 | .bytes b _=>some (.byt b)
 | .float b _=>some (.flt b)
 | .ref a=>some (.ref a)
 | .type n=>some (.ty n)
 | _=>none
theorem RelV.abs{x:V}{u:Value}(r:RelV x u):ama u=some x:=by
 cases x with
 | ο=>cases r;rfl
 | bl _=>cases r;rfl
 | int _=>obtain⟨t,rfl⟩:=r;rfl
 | str _=>obtain⟨t,rfl⟩:=r;rfl
 | byt _=>obtain⟨t,rfl⟩:=r;rfl
 | flt _=>obtain⟨t,rfl⟩:=r;rfl
 | ref _=>cases r;rfl
 | ty _=>cases r;rfl
theorem RelV.inj{x y:V}{u:Value}(r:RelV x u)(q:RelV y u):x=y:=bu (r.abs.symm.trans q.abs)
theorem Vals.inj{d a:List V}{b:gg}(h:Vals d b)(c:Vals a b):d=a:=by
 induction h generalizing a with
 | nil=>cases c;rfl
 | cons r _ ih=>cases c with|cons r2 t2=>rw[r.inj r2,ih t2]
section
variable{X:Cx}{b:f5}{c:St}{H:Hp}{s:Shared}{a:Addr}{xs f:List V}
theorem ν.of{K:f3}(h:H a=some (.lst xs)):ν K H a xs:=.inl (.inl h)
theorem Ξ.of{K:f3}(h:H a=some (.tup xs)):Ξ K H a xs:=.inl (.inl h)
theorem Inv.list(I:Inv X b c H s)(h:ν X.K H a xs):∃d:List Value,Vals xs d/\PlainL s.heap a d.toArray/\xs.length<=sizeLine:=by
 rcases h with h|⟨o,d,n,i,j,k,g,l,r⟩
 .obtain⟨z,d,n,r,e⟩:=h.ok I.Β;exact⟨d,r,⟨_,n,e,rfl,rfl,rfl⟩,z⟩
 .refine⟨d.toList,r,⟨o,n,I.kIn a o i,j,k,by simpa using g⟩,?_⟩;have e:=r.length;simp only[pi]at e
  lia
theorem Inv.tuple(I:Inv X b c H s)(h:Ξ X.K H a xs):∃d:List Value,Vals xs d/\IsTup s.heap a d.toArray/\xs.length<=sizeLine:=by
 rcases h with h|⟨o,d,n,i,j,g,k,r⟩
 .obtain⟨z,d,r,p⟩:=h.ok I.Β;exact⟨d,r,p,z⟩
 .refine⟨d.toList,r,⟨o,I.kIn a o i,j,n,by simpa using g⟩,?_⟩;have e:=r.length;simp only[pi]at e
  lia
theorem Inv.iO(I:Inv X b c H s)(h:ν X.K H a xs)(m:ν X.K H a f):xs=f:=by
 obtain⟨i,r,⟨o,n,e,_,_,d⟩,_⟩:=I.list h;obtain⟨g,l,⟨p,q,j,_,_,k⟩,_⟩:=I.list m;rw[e]at j;cases j;rw[d]at k;injection k with d1 _
 have:i=g:=by simpa using congrArg Array.toList d1
 subst this;exact r.inj l
theorem Inv.aaV(I:Inv X b c H s)(h:Ξ X.K H a xs)(m:Ξ X.K H a f):xs=f:=by
 obtain⟨i,r,⟨o,e,_,n,d⟩,_⟩:=I.tuple h;obtain⟨g,l,⟨p,j,_,q,k⟩,_⟩:=I.tuple m;rw[e]at j;cases j;rw[d]at k;injection k with d1 _
 have:i=g:=by simpa using congrArg Array.toList d1
 subst this;exact r.inj l
end
abbrev Cx.wish(X:Cx)(E:fz):Cx:={ X with xe:=E }
abbrev Cx.nox(X:Cx):Cx:=X.wish λ_ _=>False
theorem Cx.Ok.wish{X:Cx}(a:X.Ok)(E:fz):(X.wish E).Ok:=⟨a.mod,a.kind,a.glob,a.blt,a.above,a.inj,a.has,a.cab,a.hd,a.frames,a.stk,a.exf,a.bs,a.bsz,a.acW,a.acd,a.Le,a.frf⟩
theorem Cx.Ok.ϯ{X:Cx}{E:fz}(a:(X.wish E).Ok):X.Ok:=⟨a.mod,a.kind,a.glob,a.blt,a.above,a.inj,a.has,a.cab,a.hd,a.frames,a.stk,a.exf,a.bs,a.bsz,a.acW,a.acd,a.Le,a.frf⟩
section
variable{X:Cx}{a:f5}{b:St}{H:Hp}{s:Shared}{E:fz}
theorem Inv.wish(I:Inv X a b H s)(E:fz):Inv (X.wish E) a b H s:=⟨I.ok.wish E,I.os,I.bare,I.base,I.loc,I.cell,I.free,I.Ϟ,I.pin,I.Β,I.len⟩
theorem Inv.ϯ(I:Inv (X.wish E) a b H s):Inv X a b H s:=⟨I.ok.ϯ,I.os,I.bare,I.base,I.loc,I.cell,I.free,I.Ϟ,I.pin,I.Β,I.len⟩
theorem SP.ϯ{D:Ends}{f:Flow}{e:Shared}(h:SP (X.wish E) a D f e):SP X a D f e:=by
 cases f with
 | next=>obtain⟨c,d,I,q⟩:=h;exact⟨c,d,I.ϯ,q⟩
 | brk=>obtain⟨c,d,I,q⟩:=h;exact⟨c,d,I.ϯ,q⟩
 | cont=>obtain⟨c,d,I,q⟩:=h;exact⟨c,d,I.ϯ,q⟩
 | ret u=>obtain⟨v,c,d,I,r,q⟩:=h;exact⟨v,c,d,I.ϯ,r,q⟩
theorem PSs.nox{st:List Stmt}{t:TS}(h:PSs X.nox st t):PSs X st t:=λa s b H D I c=>
 eB (h a s b H D (I.wish _) c) (λ_ _ q=>q.ϯ) λ_ _ z=>False.elim z
end
section
variable{X:Cx}{k:Stmt}{j:List Stmt}{t u:TS}{e:Expr}{i:TE}{g:Pos}
def adE:TS:=λD a H=>D.nx a H
def NH(t u:TS):TS:=λD a H=>t { D with nx:=u D } a H
theorem cY:PSs X [] adE:=λ_ _ a H _ I h=>jU ⟨a,H,I,h⟩
theorem aB(m:PS X k t)(d:PSs X j u):PSs X (k::j) (NH t u):=by
 intro a s l H D I h;refine wpAny_execs_cons (ϔ (m a s l H { D with nx:=u D } I h) λf n q=>?_);cases f with
 | next=>
   obtain⟨b,c,o,q⟩:=q;exact d a n b c D o q
 | ret v=>exact q
 | brk=>exact q
 | cont=>exact q
theorem aL(c:PS X k t):PSs X [k] t:=by
 intro a s b H D I h;refine wpAny_execs_cons (ϔ (c a s b H D I h) λf d q=>?_);cases f with
 | next=>exact jU q
 | ret v=>exact q
 | brk=>exact q
 | cont=>exact q
theorem Inv.quiet{a:f5}{b:St}{H:Hp}{s:Shared}(I:Inv X a b H s):interactive X.env=false:=by simp[interactive,I.ok.kind]
def NM(i:TE):TS:=λD a H=>i a H λ_ b=>D.nx a b
theorem eM(l:PE X e i)(c:swapsWith e none g.line X.env=pure false:=by rfl):PS X (.Expr e g) (NM i):=by
 intro a s b H D I h;exact wpAny_Expr_any (eJ (l a s b H _ I h) λv o x m f n d=>⟨b,m,f,d⟩) I.quiet c
def SU(i:TE):TS:=λD a H=>i a H D.rt
theorem bJ(l:PE X e i):PS X (.Return (some e) g) (SU i):=by
 intro a s b H D I h;exact wpAny_Return_some (eJ (l a s b H _ I h) λv n x m f d c=>⟨x,b,m,f,d,c⟩)
def Sj(c:TT)(t u:TS):TS:=λD a H=>c a H λb d=>if b=true then t D a d else u D a d
theorem dQ{c:Expr}{a b:List Stmt}{o:TT}(r:PT X c o)(v:PSs X a t)(w:PSs X b u):PS X (.If c a b g) (Sj o t u):=by
 intro f s l H D I h;refine wpAny_If (BC (r f s l H _ I h) λd m q p n=>?_);cases d with
 | true=>exact v f m l q D p n
 | false=>exact w f m l q D p n
def adF:TS:=λ_ _ _=>False
theorem sC:PS X k adF:=λ_ _ _ _ _ _ h=>h.elim
end
abbrev TG:=V->St->Hp->(St->Hp->Prop)->Prop
abbrev TGs:=List V->St->Hp->(St->Hp->Prop)->Prop
def PG(X:Cx)(a:Expr)(t:TG):Prop:=∀(b:f5)(s:Shared)(e:St)(H:Hp)(v:V)(u:Value)(Q:St->Hp->Prop),Inv X b e H s->RelV v u->t v e H Q->wpAny (model X.prog X.w) X.A (assign a X.env u) (λ_ f=>∃c d,Inv X b c d f/\Q c d) X.xe s
def PGs(X:Cx)(h:List Expr)(t:TGs):Prop:=∀(a:f5)(s:Shared)(e:St)(H:Hp)(f:List V)(c:gg)(Q:St->Hp->Prop),Inv X a e H s->Vals f c->t f e H Q->wpAny (model X.prog X.w) X.A (assignInOrder ((assignEach h X.env).map (·.2)) c) (λ_ g=>∃b d,Inv X a b d g/\Q b d) X.xe s
abbrev Jm:=V->V->V->Hp->(Hp->Prop)->Prop
def TB(X:Cx)(t:Jm):Prop:=∀(a:f5)(s:Shared)(e:St)(H:Hp)(o i v:V)(c b u:Value)(Q:Hp->Prop),Inv X a e H s->RelV o c->RelV i b->RelV v u->t o i v H Q->wpAny (model X.prog X.w) X.A (setItem c b u) (λ_ f=>∃d,Inv X a e d f/\Q d) X.xe s
abbrev TIp:=V->V->Hp->VK->Prop
def PIp(X:Cx)(c:Operator)(t:TIp):Prop:=∀(a:f5)(s:Shared)(b:St)(H:Hp)(x y:V)(v u:Value)(Q:VK),Inv X a b H s->RelV x v->RelV y u->t x y H Q->wpAny (model X.prog X.w) X.A (inplaceOp c v u) (EP X a b Q) X.xe s
section
variable{X:Cx}{d:Pos}
def xf(i:Nat):TG:=λv a H Q=>Q (a.set i (some v)) H
theorem f9{i:Nat}{x:Str}(e:X.N.Nodup)(b:X.N[i]?=some x)(c:Loc X.env.scope x)(g:X.fn x=true\/X.env.scope.names.lookup x=some .local:=by first|exact .inl rfl|exact .inr rfl|assumption):PG X (.Name x d) (xf i):=by
 intro a s k H v u Q I r h;exact wpAny_assign_Name (BI I e b c r (λj f=>⟨_,H,f,h⟩) g)
def afz:TGs:=λb a H Q=>b=[]/\Q a H
def MD(t:TG)(u:TGs):TGs:=λe c H Q=>∃v r,e=v::r/\t v c H λa b=>u r a b Q
theorem gX:PGs X [] afz:=by
 intro a s b H f c Q I r h;obtain⟨e,h⟩:=h;subst e;cases r;exact assignInOrder_nil ⟨b,H,I,h⟩
theorem cH{e:Expr}{b:List Expr}{t:TG}{u:TGs}(j:PG X e t)(l:PGs X b u)(k:(assignEach (e::b) X.env).map (·.2)=assign e X.env::(assignEach b X.env).map (·.2):=by rfl):PGs X (e::b) (MD t u):=by
 intro a s n H w p Q I r h;obtain⟨v,q,g,h⟩:=h;subst g;cases r with
 | cons r rr=>
   rw[k];refine assignInOrder_cons (ϔ (j a s n H _ _ _ I r h) λ_ f ⟨c,o,m,i⟩=>?_);exact l a f c o _ _ Q m rr i
def Nw(K:f3)(n:Nat)(t:TGs):TG:=λv c H Q=>∃a b,v=.ref a/\Ξ K H a b/\b.length=n/\t b c H Q
theorem j1{f:List Expr}{k:Nat}{t:TGs}{n:Nat}(p:X.calm=true)(h:PGs X f t)(A:(assignEach f X.env).length=n:=by rfl)(g:(assignEach f X.env).findIdx? (·.1)=none:=by rfl):PG X (.Tuple f k d) (Nw X.K n t):=by
 intro c s l H v u Q I r i;obtain⟨a,x,y,D,q,i⟩:=i;subst y;cases r;obtain⟨w,j,z,E⟩:=I.tuple D;refine assign_Tuple_tuple (I.ok.hd p) z (by simp[A,<-q,j.length]) g λm B=>?_;have C:Inv X c l H { s with heap:=m }:=I.kept (t':=s.toks) λb o e=>B b o (aW (aM e)) e;exact h c _ l H x _ Q C (by simpa using j) i
def R5(e b:TE)(t:Jm):TG:=λv a H Q=>e a H λo g=>b a g λi f=>t o i v f λc=>Q a c
theorem oW{o i:Expr}{g f:TE}{t:Jm}(B:PE X o g)(j:PE X i f)(D:TB X t)(p:∀v,assign (.Subscript o i d) X.env v=(do
 let b <-holding [v] (eval o X.env)
 let c <-holding [v,b] (eval i X.env)
 standAt d
 holding [v,b,c] (setItem b c v)
 release [v,b,c] []):=by intro _;rfl):PG X (.Subscript o i d) (R5 g f t):=by
 intro a s e H v u Q I r h;rw[p];refine ao (lm (eJ (B a s e H _ I h) λb l x J F E z=>?_));refine ao (lm (eJ (j a l e J _ F z) λc m y G A C w=>?_));refine ao (lg (ao (lm (ϔ (D a m e G x y v b c u _ A E C r w) λ_ K ⟨q,n,k⟩=>?_))));exact wpAny_release ⟨e,q,n,k⟩
def D7(b:TE)(g:TG):TS:=λD a H=>b a H λx c=>g x a c D.nx
theorem nz{b e:Expr}{f:TE}{g:TG}(l:PE X e f)(o:PG X b g)(m:swapsWithSole [b] e d.line X.env=pure false:=by rfl)(p:swappedStores [b] e X.env=pure none:=by rfl)(k:(assignEach [b] X.env).map (·.2)=[assign b X.env]:=by rfl):PS X (.Assign [b] e d) (D7 f g):=by
 intro a s c H D I h;refine wpAny_Assign_stores (eJ (l a s c H _ I h) λv i x t r n j=>?_) m p;rw[k];exact ϔ (o a i c t x v _ r n j) λ_ u q=>q
theorem tG{i:Nat}{x:Str}{e:Expr}{c:TE}{a:Pos}(l:X.N.Nodup)(f:X.N[i]?=some x)(q:Loc X.env.scope x)(m:PE X e c)(n:swapsWith e (some (.Name x a)) d.line X.env=pure false:=by rfl)(g:X.fn x=true\/X.env.scope.names.lookup x=some .local:=by first|exact .inl rfl|exact .inr rfl|assumption):PS X (.Assign [.Name x a] e d) (D7 c (xf i)):=by
 intro b s p H D I h;refine wpAny_Assign_Name (eJ (m b s p H _ I h) λv u y t r o j=>?_) n;exact BI r l f q o (λw k=>⟨_,t,k,j⟩) g
def Ua(i:Nat)(f:TE)(b:TIp):TS:=λD a H=>∃x,a[i]?=some (some x)/\f a H λy c=>b x y c λz e=>D.nx (a.set i (some z)) e
theorem uI{i:Nat}{x:Str}{e:Expr}{C:TE}{n:Operator}{q:TIp}{f:Pos}(R:X.N.Nodup)(p:X.N[i]?=some x)(o:Loc X.env.scope x)(S:PE X e C)(P:PIp X n q)(K:X.fn x=true\/X.env.scope.names.lookup x=some .local:=by first|exact .inl rfl|exact .inr rfl|assumption):PS X (.AugAssign (.Name x f) n e d) (Ua i C q):=by
 intro a s B H D I h;obtain⟨v,J,h⟩:=h;obtain⟨m,U,F⟩:=I.loc;have j:Vis X.env.scope x:=by rcases o with k|k;exact .inl k;exact .inr (.inl k)
 obtain⟨u,r,l⟩:=F i x v p J j;refine wpAny_AugAssign_Name ?_;have t:wpAny (model X.prog X.w) X.A (eval e X.env) (λw g=>wpAny (model X.prog X.w) X.A (inplaceOp n u w) (λr b=>wpAny (model X.prog X.w) X.A (storeName X.env x r) (λ_=>SP X a D .next) X.xe b) X.xe g) X.xe s:=by
  refine ϔ (S a s B H _ I h) λw E ⟨y,Y,V,T,M⟩=>?_;refine ϔ (P a E B Y v y u w _ V r T M) λz Z ⟨zv,W,O,Q,L⟩=>?_;exact BI O R p o Q (λs3 G=>⟨_,W,G,L⟩) K
 rcases l with⟨hk,hm⟩|⟨hk,c,hc,Ϻ⟩
 .exact wpAny_loadName_local I.ok.kind hk U hm t
 .rcases hk with hk|hk
  .exact wpAny_loadName_cell I.ok.kind hk hc Ϻ t
  .rcases o with k|k
   .have:X.env.scope.names.lookup x=some .free:=hk;rw[k]at this;cases this
   .have:X.env.scope.names.lookup x=some .free:=hk;rw[k]at this;cases this
def Oe(j h m:TE)(b:V->V->Hp->VK->Prop)(e:TIp)(c:Jm):TS:=λD a H=>j a H λo p=>h a p λi l=>b o i l λx g=>m a g λy n=>e x y n λz k=>c o i z k λf=>D.nx a f
def Xv(X:Cx)(t:V->V->Hp->VK->Prop):Prop:=∀(a:f5)(s:Shared)(e:St)(H:Hp)(o i:V)(c b:Value)(Q:VK),Inv X a e H s->RelV o c->RelV i b->t o i H Q->wpAny (model X.prog X.w) X.A (getItem c b) (EP X a e Q) X.xe s
theorem Ad{o i e:Expr}{u r p:TE}{j:V->V->Hp->VK->Prop}{l:TIp}{k:Jm}{t:Operator}{m:Pos}(W:PE X o u)(A:PE X i r)(hg:Xv X j)(he:PE X e p)(hp:PIp X t l)(hs:TB X k)(N:∀f c b,augStore i f c b=(do holding [b,f,c] (setItem f c b);release [b,f,c] [];pure .next):=by intros;rfl):PS X (.AugAssign (.Subscript o i m) t e d) (Oe u r p j l k):=by
 intro a s g H D I h;refine wpAny_AugAssign_SubscriptAny (eJ (W a s g H _ I h) λf E q H1 I1 x U=>?_) N;refine eJ (A a E g H1 _ I1 U) λc F y H2 Y w T=>?_;refine ϔ (hg a F g H2 q y f c _ Y x w T) λn s3 ⟨B,R,L,r3,C⟩=>?_;refine eJ (he a s3 g R _ L C) λv Z M H4 I4 P z=>?_;refine ϔ (hp a Z g H4 B M n v _ I4 r3 P z) λb s5 ⟨J,H5,S,Q,q5⟩=>?_;exact ϔ (hs a s5 g H5 q y J f c b _ S x w Q q5) λ_ s6 ⟨O,G,K⟩=>⟨g,O,G,K⟩
def ipI(f:g8):TIp:=λx y H Q=>∃i j,x=.int i/\y=.int j/\Q (.int (f i j)) H
theorem tK:PIp X .Add (ipI λi j=>i+j):=by
 intro a s k H x y v u Q I f c h;obtain⟨i,j,b,e,q⟩:=h;subst b;subst e;obtain⟨t,rfl⟩:=f;obtain⟨g,rfl⟩:=c;exact iadd_int ⟨.int _,H,I.tok _,⟨_,rfl⟩,q⟩
theorem HC:PIp X .Sub (ipI λi j=>i-j):=by
 intro a s k H x y v u Q I f c h;obtain⟨i,j,b,e,q⟩:=h;subst b;subst e;obtain⟨t,rfl⟩:=f;obtain⟨g,rfl⟩:=c;exact isub_int ⟨.int _,H,I.tok _,⟨_,rfl⟩,q⟩
end
section
variable{X:Cx}{a:Pos}
def IK(c:TT)(i:TS):TS:=λD d H=>∃W:Nat->St->Hp->Prop,(∃m,W m d H)/\∀m d H,W m d H->c d H λb h=>if b=true then ∃N:St->Hp->Prop,(∀e f,N e f->∃g,g<m/\W g e f)/\i { D with nx:=N,ct:=N,bk:=D.nx } d h else D.nx d h
theorem rX{c:Expr}{i:List Stmt}{C:TT}{y:TS}(E:PassesOwn (model X.prog X.w) X.A X.env X.xe)(L:PT X c C)(R:PSs X i y):PS X (.While c i [] a) (IK C y):=by
 intro d s S H D I h;obtain⟨W,⟨P,Q⟩,l⟩:=h;refine wpAny_While (codeAny_whileLoop (λn J=>∃j x,Inv X d j x J/\W n j x) ?_ P ⟨S,H,I,Q⟩);rintro n K ⟨g,G,T,O⟩;refine fZ E (BC (L d K g G _ T (l n g G O)) λb M F z o=>?_);cases b with
 | true=>
   obtain⟨N,B,o⟩:=o;rw[aj rfl];refine fZ E (ϔ (R d M g F _ z o) λf U m=>?_);cases f with
   | next=>
     obtain⟨e,k,t,q⟩:=m;obtain⟨u,p,r⟩:=B e k q;exact⟨u,p,e,k,t,r⟩
   | cont=>
     obtain⟨e,k,t,q⟩:=m;obtain⟨u,p,r⟩:=B e k q;exact⟨u,p,e,k,t,r⟩
   | brk=>exact m
   | ret v=>exact m
 | false=>
   rw[ag bD];exact jU ⟨g,F,z,o⟩
end
structure It where
 go:Nat->Hp->Prop
 yld:Nat->Hp->V->Hp->Prop
 stop:Nat->Hp->Prop
def qz(X:Cx)(a:f5)(H:Hp)(b:Addr):Prop:=H b=none/\b≠X.env.locals/\b∉X.fs/\(b∈X.ex\/X.s₀.heap.objs.size<=b)/\(∀x c,X.env.cells.lookup x=some c->c≠b)/\∀p∈X.pn++a,p.1≠b
theorem Inv.acY{X:Cx}{a:f5}{i:St}{H f:Hp}{s:Shared}{b:Addr}(I:Inv X a i H s)(d:s.heap.objs.size<=b)(g:f b=none):qz X a f b:=by
 refine⟨g,fH (aZ I.lt d),I.alz d,.inr (aP I.sz d),λx c e z=>?_,λp h z=>?_⟩
 .obtain⟨v,q⟩:=I.cell x c e;exact absurd (aZ q.lt (by rw[z];exact d)) (dM _)
 .exact absurd (aZ (aM (I.pin p h).1) (by rw[z];exact d)) (dM _)
structure Turn(P:Program)(w:World)(K:f3)(tg:Expr)(J:It)(fp:gf)(it:Addr)(tn:Nat->Heap->Prop):Prop where
 mem:it∈fp
 obj:∀i h,tn i h->∀b∈fp,∃o,h.get? b=some o/\∀v,o.data≠.cell v
 keep:∀i h h',tn i h->(∀b∈fp,∀o,h.get? b=some o->h'.get? b=some o)->tn i h'
 item:∀(X:Cx),X.prog=P->X.w=w->X.K=K->X.calm=true->∀(i:Nat)(pins:f5)(s:Shared)(σ:St)(H:Hp)(E:fz),Inv X pins σ H s->(∀b∈fp,qz X pins H b)->tn i s.heap->J.go i H->wpAny (model P w) X.A (pyNext (.ref it)) (λr s1=>∃u,r=some u/\wpAny (model P w) X.A (letOwnedTupleGo tg (.ref it) u) (λ_ s2=>∃x H',Inv X pins σ H' s2/\RelV x u/\J.yld i H x H'/\tn (i+1) s2.heap/\∀b∈fp,H' b=none) E s1) E s
 done:∀(X:Cx),X.prog=P->X.w=w->X.K=K->X.calm=true->∀(i:Nat)(pins:f5)(s:Shared)(σ:St)(H:Hp)(E:fz),Inv X pins σ H s->(∀b∈fp,qz X pins H b)->tn i s.heap->J.stop i H->wpAny (model P w) X.A (pyNext (.ref it)) (λr s1=>r=none/\Inv X pins σ H s1) E s
 self:∀(A:Around)(i:Nat)(s:Shared)(Q:fz)(E:fz),tn i s.heap->Q (.ref it) s->wpAny (model P w) A (pyIter (.ref it)) Q E s
abbrev TI:=St->Hp->(It->Hp->Prop)->Prop
def PIE(X:Cx)(a:f5)(j:St)(i:Expr)(R:It->Hp->Prop)(c:Value)(g:Shared):Prop:=∃(e:Addr)(f:gf)(h:Nat->Heap->Prop)(J:It)(d:Hp),c=.ref e/\Inv X a j d g/\Turn X.prog X.w X.K i J f e h/\h 0 g.heap/\(∀b∈f,qz X a d b)/\R J d
def PI(X:Cx)(d b:Expr)(f:TI):Prop:=∀(a:f5)(s:Shared)(c:St)(H:Hp)(R:It->Hp->Prop),Inv X a c H s->f c H R->wpAny (model X.prog X.w) X.A (eval b X.env) (λv e=>wpAny (model X.prog X.w) X.A (pyIter v) (PIE X a c d R) X.xe e) X.xe s
theorem GI{M:Model}{A:Around}{E:fz}{s:Shared}{b:Expr}{c:Addr}{u:Value}{o:Obj}{n:String}{d:Array Value}{Q:Unit->Shared->Prop}(f:s.heap.get? c=some o)(g:o.cls=.type n)(i:o.data=.fields d)(e:["enumerate","zip","dict_itemiterator","dict_reverseitemiterator","odict_iterator","itertools.zip_longest","itertools.pairwise"].contains n=false)(a:Q () s):wpAny M A (letOwnedTupleGo b (.ref c) u) Q E s:=by
 unfold letOwnedTupleGo;cases b<;>first
  | exact bi a
  | (cases u<;>first
   | exact bi a
   | (refine ao (wpAny_load f ?_)
      rw[g,i];show wpAny M A (if(["enumerate","zip","dict_itemiterator","dict_reverseitemiterator","odict_iterator","itertools.zip_longest","itertools.pairwise"].contains n&&d[0]?==some (rawInt _))=true then _ else _) Q E s;rw[ag (by intro h;rw[e,jF]at h;cases h)];exact bi a))
def Itl(K:f3)(a:Addr):It:=⟨λi H=>∃b x,ν K H a b/\b[i]?=some x,λi H x c=>c=H/\∀b,ν K H a b->b[i]?=some x,λi H=>∃b,ν K H a b/\b.length<=i⟩
def Itt(K:f3)(a:Addr):It:=⟨λi H=>∃b x,Ξ K H a b/\b[i]?=some x,λi H x c=>c=H/\∀b,Ξ K H a b->b[i]?=some x,λi H=>∃b,Ξ K H a b/\b.length<=i⟩
def Itr(lo:Int)(n:Nat):It:=⟨λi _=>i<n,λi H x a=>a=H/\x=.int (lo+i),λi _=>n<=i⟩
theorem ON{P:Program}{w:World}{K:f3}{O:Expr}(a g:Addr):Turn P w K O (Itl K a) [g] g (λi h=>h.IsListIter g a i) where
 mem:=by simp
 obj:=λi h st b hb=>by
  have e:b=g:=by simpa using hb
  subst e;obtain⟨o,e,c,d⟩:=st;exact⟨o,e,λv z=>by rw[d]at z;cases z⟩
 keep:=λi h l st k=>st.at λo e=>k g (by simp) o e
 item:=by
  intro X D hw B L i f s M H E I m st F;subst D hw B;obtain⟨T,x,n,J⟩:=F;obtain⟨y,C,p,V⟩:=I.list n;obtain⟨u,S,N⟩:=C.get J;obtain⟨q,r,Q,A,t,G⟩:=m g (by simp);refine wpAny_pyNext_list_item st p.isList (x:=u) (by simpa using S) λl j R=>?_;have Y:Inv X f M H { s with heap:=l }:=I.turned (t':=s.toks) (λb o hb e=>(R.2 b hb).trans e) q r A t G;obtain⟨o,e,c,d⟩:=id j;exact⟨u,rfl,GI (s:={ s with heap:=l }) e c d (by decide) ⟨x,H,Y,N,⟨rfl,λys Z=>by rw[I.iO Z n];exact J⟩,j,λb hb=>(m b hb).1⟩⟩
 done:=by
  intro X D hw B L i f s M H E I m st F;subst D hw B;obtain⟨T,n,J⟩:=F;obtain⟨y,C,p,V⟩:=I.list n;obtain⟨q,r,Q,A,t,G⟩:=m g (by simp);have hl:=C.length;exact wpAny_pyNext_list_end (I.ok.hd L) st p.isList (by simp;lia) λl U=>⟨rfl,I.turned (t':=s.toks) (λb o hb e=>U b o hb e) q r A t G⟩
 self:=λ_ _ _ _ _ st h=>wpAny_pyIter_listiter st h
theorem Nq{P:Program}{w:World}{K:f3}{O:Expr}(a g:Addr):Turn P w K O (Itt K a) [g] g (λi h=>h.IsTupleIter g a i) where
 mem:=by simp
 obj:=λi h st b hb=>by
  have e:b=g:=by simpa using hb
  subst e;obtain⟨o,e,c,d⟩:=st;exact⟨o,e,λv z=>by rw[d]at z;cases z⟩
 keep:=λi h m st k=>st.at λo e=>k g (by simp) o e
 item:=by
  intro X D hw B L i f s M H E I n st F;subst D hw B;obtain⟨T,x,q,J⟩:=F;obtain⟨j,C,p,V⟩:=I.tuple q;obtain⟨u,S,N⟩:=C.get J;obtain⟨r,t,Q,A,y,G⟩:=n g (by simp);refine wpAny_pyNext_tuple_item st (show s.heap.IsTuple a j.toArray from p) (x:=u) (by simpa using S) λm l R=>?_;have Y:Inv X f M H { s with heap:=m }:=I.turned (t':=s.toks) (λb o hb e=>(R.2 b hb).trans e) r t A y G;obtain⟨o,e,c,d⟩:=id l;exact⟨u,rfl,GI (s:={ s with heap:=m }) e c d (by decide) ⟨x,H,Y,N,⟨rfl,λys Z=>by rw[I.aaV Z q];exact J⟩,l,λb hb=>(n b hb).1⟩⟩
 done:=by
  intro X D hw B L i f s M H E I n st F;subst D hw B;obtain⟨T,q,J⟩:=F;obtain⟨j,C,p,V⟩:=I.tuple q;obtain⟨r,t,Q,A,y,G⟩:=n g (by simp);have hl:=C.length;exact wpAny_pyNext_tuple_end (I.ok.hd L) st (show s.heap.IsTuple a j.toArray from p) (by simp;lia) λm U=>⟨rfl,I.turned (t':=s.toks) (λb o hb e=>U b o hb e) r t A y G⟩
 self:=λ_ _ _ _ _ st h=>wpAny_pyIter_tupleiter st h
theorem MX{P:Program}{w:World}{K:f3}{B:Expr}(c:Addr)(lo:Int)(n:Nat):Turn P w K B (Itr lo n) [c] c (λi h=>IsRangeIter h c (lo+(i:Nat)*1) ((n:Int)-(i:Nat)) 1) where
 mem:=by simp
 obj:=λi h st b hb=>by
  have e:b=c:=by simpa using hb
  subst e;exact⟨_,st,λv z=>by
   have G:Data.fields _=Data.cell v:=z;cases G⟩
 keep:=λi h f st k=>k c (by simp) _ st
 item:=by
  intro X u hw r p i a s A H E I g st x;subst u hw r;obtain⟨j,l,C,q,m,y⟩:=g c (by simp);have W:=Walks.range (prog:=X.prog) (w:=X.w) (I.ok.hd p) c lo 1 n;refine W.item i s _ _ x st λv f tk hv d D=>?_;obtain⟨t,rfl⟩:=hv;have J:Inv X a A H { s with heap:=f,toks:=tk }:=I.turned (λb o hb e=>D b o (by simpa using hb) e) j l q m y;refine⟨_,rfl,GI (s:={ s with heap:=f,toks:=tk }) (n:="range_iterator") d rfl rfl (by decide) ⟨.int (lo+i),H,J,⟨t,?_⟩,⟨rfl,rfl⟩,d,λb hb=>(g b hb).1⟩⟩;rw[fJ]
 done:=by
  intro X u hw r p i a s A H E I g st x;subst u hw r;obtain⟨j,l,C,q,m,y⟩:=g c (by simp);exact wpAny_pyNext_range_end (I.ok.hd p) st (by have:n<=i:=x;lia) λf F=>⟨rfl,I.turned (t':=s.toks) (λb o hb e=>F b o hb e) j l q m y⟩
 self:=λ_ _ _ _ _ st h=>wpAny_pyIter_rangeiter st h
section
variable{X:Cx}{c:Expr}
def MP(K:f3)(d:TE):TI:=λf H R=>d f H λx b=>∃a,x=.ref a/\(∃e,ν K b a e)/\R (Itl K a) b
def T2(K:f3)(d:TE):TI:=λf H R=>d f H λx b=>∃a,x=.ref a/\(∃e,Ξ K b a e)/\R (Itt K a) b
theorem iB{l:Expr}{i:TE}(j:PE X l i):PI X c l (MP X.K i):=by
 intro d s w H R I h;refine eJ (j d s w H _ I h) λv f x k g t n=>?_;obtain⟨a,e,⟨y,u⟩,q⟩:=n;subst e;cases t;obtain⟨m,z,p,A⟩:=g.list u;refine jg p.isList ?_;refine⟨f.heap.objs.size,[f.heap.objs.size],_,_,k,rfl,g.kept (t':=f.toks) λb o e=>aF _ e,ON a _,⟨_,bc _ rfl,rfl,rfl⟩,λb r=>?_,q⟩;have e:b=f.heap.objs.size:=by simpa using r
 subst e;exact g.acY (az _) (g.Β.fresh (az _))
theorem yQ{l:Expr}{j:TE}(k:PE X l j):PI X c l (T2 X.K j):=by
 intro d s w H R I h;refine eJ (k d s w H _ I h) λv f x m g t n=>?_;obtain⟨a,e,⟨y,u⟩,q⟩:=n;subst e;cases t;obtain⟨i,z,p,A⟩:=g.tuple u;refine lB (show f.heap.IsTuple a i.toArray from p) ?_;refine⟨f.heap.objs.size,[f.heap.objs.size],_,_,m,rfl,g.kept (t':=f.toks) λb o e=>aF _ e,Nq a _,⟨_,bc _ rfl,rfl,rfl⟩,λb r=>?_,q⟩;have e:b=f.heap.objs.size:=by simpa using r
 subst e;exact g.acY (az _) (g.Β.fresh (az _))
theorem Hm{d:f5}{g:St}{H:Hp}{s:Shared}{R:It->Hp->Prop}{E:fz}{lo a:Int}{t u v:Tok}{f:Nat}(I:Inv X d g H s)(i:-(2^62)<=lo)(l:lo<2^62)(n:-(2^62)<=a)(m:a<2^62)(q:R (Itr lo (a-lo).toNat) H):wpAny (model X.prog X.w) X.A (pyIter (.ref s.heap.objs.size)) (PIE X d g c R) E { s with heap:=s.heap.push { cls:=.type "range",data:=.fields #[.int lo t,.int a u,.int 1 v] },toks:=f }:=by
 refine wpAny_pyIter_range (IsRange.new ..) (small_one i l n m) ?_;have h:Inv X d g H { s with heap:=s.heap.push { cls:=.type "range",data:=.fields #[.int lo t,.int a u,.int 1 v] },toks:=f }:=I.kept λb o e=>aF _ e;refine⟨(s.heap.push { cls:=.type "range",data:=.fields #[.int lo t,.int a u,.int 1 v] }).objs.size,[(s.heap.push { cls:=.type "range",data:=.fields #[.int lo t,.int a u,.int 1 v] }).objs.size],_,_,H,rfl,h.kept (t':=f) λb o e=>aF _ e,MX _ lo (a-lo).toNat,?_,λb k=>?_,q⟩
 .have e1:lo+((0:Nat):Int)*1=lo:=by simp
  have j:(((a-lo).toNat:Nat):Int)-((0:Nat):Int)=Builtin.Range.rangeSize lo a 1:=by rw[rangeSize_one];split<;>lia
  show IsRangeIter _ _ (lo+((0:Nat):Int)*1) ((((a-lo).toNat:Nat):Int)-((0:Nat):Int)) 1;rw[e1,j];exact bc _ rfl
 .have e:b=(s.heap.push { cls:=.type "range",data:=.fields #[.int lo t,.int a u,.int 1 v] }).objs.size:=by simpa using k
  subst e;exact h.acY (az _) (h.Β.fresh (az _))
def NC(a:TA):TI:=λd H R=>a d H λe b=>∃j:Int,e=[.int j]/\-(2^62)<=j/\j<2^62/\R (Itr 0 j.toNat) b
def Mq(a:TA):TI:=λd H R=>a d H λe b=>∃i j:Int,e=[.int i,.int j]/\(-(2^62)<=i/\i<2^62/\-(2^62)<=j/\j<2^62)/\R (Itr i (j-i).toNat) b
theorem lD{a:Expr}{g:TA}{p d:Pos}(o:Gl X "range")(i:X.mg "range"=none)(k:PA X [a] g)(m:starEach [a] X.env=[(false,eval a X.env)]:=by rfl):PI X c (.Call (.Name "range" p) [a] [] d) (NC g):=by
 intro b s v H R I h;refine Call_ (rD I o i boot_range (c7 (vN (k d b s v H _ I h) λw x y z u n f=>?_) m rfl));obtain⟨j,e,f,l,q⟩:=f;subst e;cases n with
 | cons r rr=>
   cases rr;obtain⟨t,rfl⟩:=r;exact call_range_1 (Hm u (by lia) (by lia) f l (by simpa using q))
theorem OG{a b:Expr}{l:TA}{p g:Pos}(y:Gl X "range")(n:X.mg "range"=none)(u:PA X [a,b] l)(w:starEach [a,b] X.env=[(false,eval a X.env),(false,eval b X.env)]:=by rfl)(f:starEach [b] X.env=[(false,eval b X.env)]:=by rfl):PI X c (.Call (.Name "range" p) [a,b] [] g) (Mq l):=by
 intro d s z H R I h;refine Call_ (rD I y n boot_range (c7 (vN (u g d s z H _ I h) λB C D F A x k=>?_) (by rw[w,f]) (by rw[f];rfl)));obtain⟨i,j,e,⟨k,v,o,m⟩,q⟩:=k;subst e;cases x with
 | cons r rr=>
   cases rr with
   | cons r' rr=>
     cases rr;obtain⟨t,rfl⟩:=r;obtain⟨E,rfl⟩:=r';exact call_range_2 (Hm A k v o m q)
def Zc(k:TI)(g:TG)(j:TS):TS:=λD a H=>k a H λJ l=>∃W:Nat->Nat->St->Hp->Prop,(∃m,W 0 m a l)/\∀i m a H,W i m a H->(J.stop i H/\D.nx a H)\/(J.go i H/\∃N:St->Hp->Prop,(∀d b,N d b->∃f,f<m/\W (i+1) f d b)/\∀x b,J.yld i H x b->g x a b λe h=>j { D with nx:=N,ct:=N,bk:=D.nx } e h)
def xa(a:gf)(h:Heap):List (Addr×Obj):=a.filterMap λb=>(h.get? b).map λo=>(b,o)
theorem pH{a:gf}{h:Heap}{b:Addr}{o:Obj}(d:b∈a)(e:h.get? b=some o):(b,o)∈xa a h:=List.mem_filterMap.mpr ⟨b,d,by rw[e];rfl⟩
theorem Qh{a:gf}{h:Heap}{p:Addr×Obj}(f:p∈xa a h):p.1∈a/\h.get? p.1=some p.2:=by
 obtain⟨b,g,e⟩:=List.mem_filterMap.mp f;cases q:h.get? b with
 | none=>rw[q]at e;cases e
 | some o=>
   rw[q]at e;have d:(b,o)=p:=bu e;subst d;exact⟨g,q⟩
theorem Inv.pinned{a:f5}{i:St}{H:Hp}{s:Shared}{f:gf}(I:Inv X a i H s)(m:∀b∈f,qz X a H b)(n:∀b∈f,∃o,s.heap.get? b=some o/\∀v,o.data≠.cell v):Inv X (a++xa f s.heap) i H s:=I.acE λp q=>(ba.mp q).elim (λz=>I.pin p (bf _ z)) λz=>by
 obtain⟨g,e⟩:=Qh z;obtain⟨j,k,l,_⟩:=m p.1 g;obtain⟨o,h,d⟩:=n p.1 g;rw[e]at h;cases h;exact⟨e,j,k,l,d⟩
theorem Inv.ϰ{a e:f5}{b:St}{H:Hp}{s:Shared}(I:Inv X (a++e) b H s):Inv X a b H s:=I.acE λp d=>I.pin p (bf _ (bC _ d))
theorem fq{q:Expr}{F:List Stmt}{wi:TI}{g:TG}{tb:TS}{Y:Pos}(L:PassesOwn (model X.prog X.w) X.A X.env X.xe)(hc:X.calm=true)(hi:PI X c q wi)(hg:PG X c g)(z:PSs X F tb)(hs:∀x,foldedSetIterable q X.env x=pure x:=by intro _;rfl):PS X (.For c q F [] Y) (Zc wi g tb):=by
 intro j s σ H D I h;refine wpAny_For (ϔ (hi j s σ H _ I h) λv s1 h1=>ϔ h1 λaC s2 h2=>?_) hs;obtain⟨it,K,tn,J,H2,e,I2,T,U,f2,W,⟨m0,w0⟩,M⟩:=h2;subst e;have k:∀{C:Hp},(∀b∈K,C b=none)->∀b∈K,qz X j C b:=λhn b z=>⟨hn b z,(f2 b z).2⟩;refine codeAny_forLoop_any (λn s'=>∃i y C,Inv X j y C s'/\tn i s'.heap/\(∀b∈K,C b=none)/\W i n y C) ?_ m0 ⟨0,σ,H2,I2,U,λb z=>(f2 b z).1,w0⟩;rintro n s3 ⟨i,t,R,I3,Q,O,w3⟩;rcases M i n t R w3 with⟨stop,qn⟩|⟨go,N,hN,step⟩
 .refine fZ L (ϔ (T.done X rfl rfl rfl hc i j s3 t R X.xe I3 (k O) Q stop) λr s4 ⟨hr,I4⟩=>?_);subst hr;exact jU ⟨t,R,I4,qn⟩
 .refine fZ L (ϔ (T.item X rfl rfl rfl hc i j s3 t R X.xe I3 (k O) Q go) λr s4 ⟨u,hr,h4⟩=>?_);subst hr;refine fZ L (ϔ h4 λ_ s5 ⟨x,H5,I5,r5,y5,G,ab⟩=>?_);have V:=I5.pinned (k ab) (T.obj _ _ G);refine fZ L (ϔ (hg _ s5 t H5 x u _ V r5 (step x H5 y5)) λ_ s6 ⟨Z,H6,I6,q6⟩=>?_);refine fZ L (ϔ (z _ s6 Z H6 _ I6 q6) λf S E=>?_);have p:∀{a:St}{l:Hp},Inv X (j++xa K s5.heap) a l S->N a l->∃m,m<n/\∃i y C,Inv X j y C S/\tn i S.heap/\(∀b∈K,C b=none)/\W i m y C:=λ{a l} B P=>by
   obtain⟨m',hm,w7⟩:=hN a l P;refine⟨m',hm,i+1,a,l,B.ϰ,T.keep _ _ _ G λb z o e=>(B.pin (b,o) (bf _ (bf _ (pH z e)))).1,λb z=>?_,w7⟩;obtain⟨o,e,d⟩:=T.obj _ _ G b z;exact(B.pin (b,o) (bf _ (bf _ (pH z e)))).2.1
  cases f with
  | next=>obtain⟨a,l,B,P⟩:=E;exact p B P
  | cont=>obtain⟨a,l,B,P⟩:=E;exact p B P
  | brk=>obtain⟨a,l,B,E⟩:=E;exact⟨a,l,B.ϰ,E⟩
  | ret v=>obtain⟨x7,a,l,B,r7,E⟩:=E;exact⟨x7,a,l,B.ϰ,r7,E⟩
end
theorem Ti{K:f3}{a:Addr}{c:List V}{g:TG}{l:TS}{D:Ends}{b:St}{H:Hp}(d:Nat->St->Hp->Prop)(s:d 0 b H)(t:∀i b H,i<=c.length->d i b H->ν K H a c)(w:∀i x b H,c[i]?=some x->d i b H->g x b H λj k=>l { D with nx:=d (i+1),ct:=d (i+1),bk:=D.nx } j k)(u:∀b H,d c.length b H->D.nx b H):∃W:Nat->Nat->St->Hp->Prop,(∃m,W 0 m b H)/\∀i m b H,W i m b H->((Itl K a).stop i H/\D.nx b H)\/((Itl K a).go i H/\∃N:St->Hp->Prop,(∀h f,N h f->∃o,o<m/\W (i+1) o h f)/\∀x f,(Itl K a).yld i H x f->g x b f λj k=>l { D with nx:=N,ct:=N,bk:=D.nx } j k):=by
 refine⟨λi m b H=>m=c.length-i/\i<=c.length/\d i b H,⟨c.length,by simp,bB _,s⟩,?_⟩;rintro i m b H ⟨rfl,r,p⟩;have q:=t i b H r p;by_cases n:i<c.length
 .refine .inr ⟨⟨c,c[i],q,by simp[n]⟩,d (i+1),λh f v=>⟨c.length-(i+1),by lia,rfl,n,v⟩,λx f y=>?_⟩;obtain⟨e,y⟩:=y;subst e;exact w i x b _ (y c q) p
 .have e:i=c.length:=by lia
  subst e;exact .inl ⟨⟨c,q,az _⟩,u b H p⟩
theorem Ey{K:f3}{a:Addr}{xs:List V}{g:TG}{k:TS}{D:Ends}{b:St}{H:Hp}(c:Nat->St->Hp->Prop)(r:c 0 b H)(s:∀i b H,i<=xs.length->c i b H->Ξ K H a xs)(v:∀i x b H,xs[i]?=some x->c i b H->g x b H λh j=>k { D with nx:=c (i+1),ct:=c (i+1),bk:=D.nx } h j)(t:∀b H,c xs.length b H->D.nx b H):∃W:Nat->Nat->St->Hp->Prop,(∃m,W 0 m b H)/\∀i m b H,W i m b H->((Itt K a).stop i H/\D.nx b H)\/((Itt K a).go i H/\∃N:St->Hp->Prop,(∀f d,N f d->∃n,n<m/\W (i+1) n f d)/\∀x d,(Itt K a).yld i H x d->g x b d λh j=>k { D with nx:=N,ct:=N,bk:=D.nx } h j):=by
 refine⟨λi m b H=>m=xs.length-i/\i<=xs.length/\c i b H,⟨xs.length,by simp,bB _,r⟩,?_⟩;rintro i m b H ⟨rfl,o,p⟩;have q:=s i b H o p;by_cases l:i<xs.length
 .refine .inr ⟨⟨xs,xs[i],q,by simp[l]⟩,c (i+1),λf d u=>⟨xs.length-(i+1),by lia,rfl,l,u⟩,λx d y=>?_⟩;obtain⟨e,y⟩:=y;subst e;exact v i x b _ (y xs q) p
 .have e:i=xs.length:=by lia
  subst e;exact .inl ⟨⟨xs,q,az _⟩,t b H p⟩
theorem PJ{lo:Int}{n:Nat}{g:TG}{k:TS}{D:Ends}{a:St}{H:Hp}(d:Nat->St->Hp->Prop)(o:d 0 a H)(s:∀i a H,i<n->d i a H->g (.int (lo+i)) a H λf j=>k { D with nx:=d (i+1),ct:=d (i+1),bk:=D.nx } f j)(q:∀a H,d n a H->D.nx a H):∃W:Nat->Nat->St->Hp->Prop,(∃m,W 0 m a H)/\∀i m a H,W i m a H->((Itr lo n).stop i H/\D.nx a H)\/((Itr lo n).go i H/\∃N:St->Hp->Prop,(∀c b,N c b->∃l,l<m/\W (i+1) l c b)/\∀x b,(Itr lo n).yld i H x b->g x a b λf j=>k { D with nx:=N,ct:=N,bk:=D.nx } f j):=by
 refine⟨λi m a H=>m=n-i/\i<=n/\d i a H,⟨n,by simp,bB _,o⟩,?_⟩;rintro i m a H ⟨rfl,t,p⟩;by_cases h:i<n
 .refine .inr ⟨h,d (i+1),λc b r=>⟨n-(i+1),by lia,rfl,h,r⟩,λx b y=>?_⟩;obtain⟨e,y⟩:=y;subst e y;exact s i a _ h p
 .have e:i=n:=by lia
  subst e;exact .inl ⟨az _,q a H p⟩
abbrev R2:=V->V->Hp->VK->Prop
def Rw(X:Cx)(f:Value->Value->Sem Value)(r:R2):Prop:=∀(a:f5)(s:Shared)(b:St)(H:Hp)(x y:V)(v u:Value)(Q:VK),Inv X a b H s->RelV x v->RelV y u->r x y H Q->wpAny (model X.prog X.w) X.A (f v u) (EP X a b Q) X.xe s
def UnR(X:Cx)(f:Value->Sem Value)(r:V->Hp->VK->Prop):Prop:=∀(a:f5)(s:Shared)(b:St)(H:Hp)(x:V)(v:Value)(Q:VK),Inv X a b H s->RelV x v->r x H Q->wpAny (model X.prog X.w) X.A (f v) (EP X a b Q) X.xe s
def oC(X:Cx)(f:Value)(r:List V->Hp->VK->Prop):Prop:=∀(a:f5)(s:Shared)(c:St)(H:Hp)(d:List V)(b:gg)(Q:VK),Inv X a c H s->Vals d b->r d H Q->wpAny (model X.prog X.w) X.A (call f b) (EP X a c Q) X.xe s
def aba(X:Cx)(r:V->Hp->(Bool->Hp->Prop)->Prop):Prop:=∀(a:f5)(s:Shared)(b:St)(H:Hp)(x:V)(v:Value)(Q:Bool->Hp->Prop),Inv X a b H s->RelV x v->r x H Q->wpAny (model X.prog X.w) X.A (truthy v) (TP X a b Q) X.xe s
def tOp(r:R2)(b d:TE):TE:=λa H Q=>b a H λx e=>d a e λy c=>r x y c Q
def tUn(r:V->Hp->VK->Prop)(a:TE):TE:=λb H Q=>a b H λx c=>r x c Q
def rI(C:Int->Int->Prop)(g:Int->Int->V):R2:=λx y H Q=>∃i j,x=.int i/\y=.int j/\C i j/\Q (g i j) H
def rI0(g:Int->Int->V):R2:=λx y H Q=>∃i j,x=.int i/\y=.int j/\Q (g i j) H
def rU(g:Int->V):V->Hp->VK->Prop:=λx H Q=>∃i,x=.int i/\Q (g i) H
section
variable{X:Cx}{a b c:Expr}{d k l:TE}{e:Pos}
theorem Td(r:PE X a d)(E:PE X b k){g:f5}{s:Shared}{j:St}{H:Hp}{R:V->V->Hp->Prop}(I:Inv X g j H s)(h:d j H λx p=>k j p λy i=>R x y i){Q:fz}{f:Value->Value->Sem Value}(t:∀v u o x y i,Inv X g j i o->RelV x v->RelV y u->R x y i->wpAny (model X.prog X.w) X.A (f v u) Q X.xe o):wpAny (model X.prog X.w) X.A (eval a X.env) (λv m=>wpAny (model X.prog X.w) X.A (eval b X.env) (λu n=>wpAny (model X.prog X.w) X.A (f v u) Q X.xe n) X.xe m) X.xe s:=by
 refine eJ (r g s j H _ I h) λv q x p G F B=>?_;refine eJ (E g q j p _ G B) λu o y i C D z=>?_;exact t v u o x y i C F D z
theorem bh{g:Operator}{r:R2}(o:Rw X (binaryOp g) r)(m:PE X a d)(p:PE X b k):PE X (.BinOp a g b e) (tOp r d k):=by
 intro f s z H Q I h;exact wpAny_BinOp (Td m p I h λv u i x y w n j t q=>o f i z w x y v u Q n j t q)
theorem Du{g:UnaryOp}{r:V->Hp->VK->Prop}(n:UnR X (unaryOp g) r)(o:PE X a d):PE X (.UnaryOp g a e) (tUn r d):=by
 intro f s i H Q I h;exact UnaryOp_ (eJ (o f s i H _ I h) λv p x t q m j=>n f p i t x v Q q m j)
theorem opI{f:Value->Value->Sem Value}{C:Int->Int->Prop}{g:g8}(m:∀(i j:Int) (t u:Tok) (s:Shared) (Q:fz) (E:fz),C i j->Q (.int (g i j) s.toks) { s with toks:=s.toks+1 }->wpAny (model X.prog X.w) X.A (f (.int i t) (.int j u)) Q E s):Rw X f (rI C λi j=>.int (g i j)):=by
 intro n s B H x y v u Q I p z h;obtain⟨i,j,rfl,rfl,o,q⟩:=h;obtain⟨t,rfl⟩:=p;obtain⟨r,rfl⟩:=z;exact m i j t r s _ _ o ⟨.int (g i j),H,I.tok _,⟨_,rfl⟩,q⟩
theorem Wq{f:Value->Value->Sem Value}{g:g8}(m:∀(i j:Int) (t u:Tok) (s:Shared) (Q:fz) (E:fz),Q (.int (g i j) s.toks) { s with toks:=s.toks+1 }->wpAny (model X.prog X.w) X.A (f (.int i t) (.int j u)) Q E s):Rw X f (rI0 λi j=>.int (g i j)):=by
 intro n s z H x y v u Q I o r h;obtain⟨i,j,rfl,rfl,q⟩:=h;obtain⟨t,rfl⟩:=o;obtain⟨p,rfl⟩:=r;exact m i j t p s _ _ ⟨.int (g i j),H,I.tok _,⟨_,rfl⟩,q⟩
theorem NY{f:Value->Value->Sem Value}{g:Int->Int->Bool}(m:∀(i j:Int) (t u:Tok) (s:Shared) (Q:fz) (E:fz),Q (.bool (g i j)) s->wpAny (model X.prog X.w) X.A (f (.int i t) (.int j u)) Q E s):Rw X f (rI0 λi j=>.bl (g i j)):=by
 intro n s z H x y v u Q I o r h;obtain⟨i,j,rfl,rfl,q⟩:=h;obtain⟨t,rfl⟩:=o;obtain⟨p,rfl⟩:=r;exact m i j t p s _ _ ⟨.bl (g i j),H,I,rfl,q⟩
def QR(i j:Int):Prop:=0<j/\j<1073741824
def Y9(i j:Int):Prop:=0<=j/\j<=1000000/\i.natAbs<2^64
def abG(i j:Int):Prop:=(-(2^64)<i/\i<2^64)\/(-(2^64)<j/\j<2^64)
theorem abG.ok{i j:Int}(h:abG i j):IntMulOk i j:=by
 rcases h with⟨h1,h2⟩|⟨h1,h2⟩
 .exact .of_left (intBits_le_64 h1 h2)
 .exact .of_right (intBits_le_64 h1 h2)
theorem gc:Rw X (binaryOp .Add) (rI0 λi j=>.int (i+j)):=Wq λ_ _ _ _ _ _ _ q=>add_int q
theorem f8:Rw X (binaryOp .Sub) (rI0 λi j=>.int (i-j)):=Wq λ_ _ _ _ _ _ _ q=>sub_int q
theorem mD:Rw X (binaryOp .Mult) (rI abG λi j=>.int (i*j)):=opI λ_ _ _ _ _ _ _ f q=>mul_int q f.ok
theorem i9:Rw X (binaryOp .FloorDiv) (rI QR λi j=>.int (i/j)):=opI λi j _ _ _ _ _ f q=>by
 have h:(0:Int)<j:=f.1;have g:j<1073741824:=f.2;exact floordiv_int (by lia) (by rw[iU i (by lia)];exact q) (.inl (PyProof.noPylong_small (by lia)))
theorem iz:Rw X (binaryOp .Mod) (rI (λ_ j=>0<j) λi j=>.int (i%j)):=opI λi j _ _ _ _ _ f q=>by
 have g:(0:Int)<j:=f;exact mod_int' (by lia) (by rw[Int.fmod_eq_emod_of_nonneg i (by lia)];exact q)
theorem rG:Rw X (binaryOp .Pow) (rI Y9 λi j=>.int (i^j.toNat)):=opI λ_ _ _ _ _ _ _ f q=>pow_int_small f.1 f.2.1 f.2.2 q
theorem unI{f:Value->Sem Value}{g:fm}(j:∀(i:Int) (t:Tok) (s:Shared) (Q:fz) (E:fz),Q (.int (g i) s.toks) { s with toks:=s.toks+1 }->wpAny (model X.prog X.w) X.A (f (.int i t)) Q E s):UnR X f (rU λi=>.int (g i)):=by
 intro m s o H x v Q I n h;obtain⟨i,rfl,q⟩:=h;obtain⟨t,rfl⟩:=n;exact j i t s _ _ ⟨.int (g i),H,I.tok _,⟨_,rfl⟩,q⟩
theorem zF:UnR X (unaryOp .USub) (rU λi=>.int (-i)):=unI λ_ _ _ _ _ q=>neg_int q
end
def tV:V->V->Bool
 | .ο,.ο=>true|.ο,.int _=>true|.int _,.ο=>true|.ο,.bl _=>true|.bl _,.ο=>true|.ο,.str _=>true|.str _,.ο=>true
 | .int _,.int _=>true|.bl _,.bl _=>true|.str _,.str _=>true|.byt _,.byt _=>true
 | .int _,.str _=>true|.str _,.int _=>true|.bl _,.str _=>true|.str _,.bl _=>true
 | _,_=>false
def rEq:R2:=λx y H Q=>tV x y=true/\Q (.bl (decide (x=y))) H
def rNe:R2:=λx y H Q=>tV x y=true/\Q (.bl (!decide (x=y))) H
theorem L9{i j:Int}:decide (V.int i=V.int j)=(i==j):=by
 rw[ip];simp
theorem Pp{i j:Bool}:decide (V.bl i=V.bl j)=(i==j):=by
 rw[ip];simp
theorem LQ{i j:Str}:decide (V.str i=V.str j)=(i==j):=by
 rw[ip];simp
theorem LI{i j:Array UInt8}:decide (V.byt i=V.byt j)=(i.toList==j.toList):=by
 rw[ip];cases i;cases j;simp
section
variable{X:Cx}{a b c:Expr}{f g l:TE}{pos:Pos}
theorem fL{d:f5}{h:St}{H:Hp}{s:Shared}{Q:VK}{k i:Bool}(I:Inv X d h H s)(q:Q (.bl k) H)(e:k=i):EP X d h Q (.bool i) s:=by
 subst e;exact⟨.bl k,H,I,rfl,q⟩
theorem kG:Rw X (compareOp .Eq) rEq:=by
 intro n s o H x y v u Q I m d h;obtain⟨k,q⟩:=h;cases x with
 | ο=>
   cases m;cases y with
   | ο=>cases d;exact PySem.EqNone.eq_none_none (fL I q (by simp))
   | bl j=>cases d;exact PySem.EqNone.eq_none_bool (fL I q (by simp))
   | int j=>obtain⟨e,rfl⟩:=d;exact PySem.EqNone.eq_none_int (fL I q (by simp))
   | str j=>obtain⟨e,rfl⟩:=d;exact PySem.EqNone.eq_none_str (fL I q (by simp))
   | _=>exact absurd (show false=true from k) bD
 | bl i=>
   cases m;cases y with
   | ο=>cases d;exact PySem.EqNone.eq_bool_none (fL I q (by simp))
   | bl j=>cases d;exact eq_bool (fL I q Pp)
   | str j=>obtain⟨e,rfl⟩:=d;exact PySem.EqMixed.eq_bool_str (fL I q (by simp))
   | _=>exact absurd (show false=true from k) bD
 | int i=>
   obtain⟨t,rfl⟩:=m;cases y with
   | ο=>cases d;exact PySem.EqNone.eq_int_none (fL I q (by simp))
   | int j=>obtain⟨e,rfl⟩:=d;exact eq_int (fL I q L9)
   | str j=>obtain⟨e,rfl⟩:=d;exact PySem.EqMixed.eq_int_str (fL I q (by simp))
   | _=>exact absurd (show false=true from k) bD
 | str i=>
   obtain⟨t,rfl⟩:=m;cases y with
   | ο=>cases d;exact PySem.EqNone.eq_str_none (fL I q (by simp))
   | bl j=>cases d;exact PySem.EqMixed.eq_str_bool (fL I q (by simp))
   | int j=>obtain⟨e,rfl⟩:=d;exact PySem.EqMixed.eq_str_int (fL I q (by simp))
   | str j=>obtain⟨e,rfl⟩:=d;exact eq_str (fL I q LQ)
   | _=>exact absurd (show false=true from k) bD
 | byt i=>
   obtain⟨t,rfl⟩:=m;cases y with
   | byt j=>obtain⟨e,rfl⟩:=d;exact PySem.W.eq_bytes (fL I q LI)
   | _=>exact absurd (show false=true from k) bD
 | _=>cases y<;>exact absurd (show false=true from k) bD
theorem pW:Rw X (compareOp .NotEq) rNe:=by
 intro n s o H x y v u Q I m d h;obtain⟨k,q⟩:=h;cases x with
 | ο=>
   cases m;cases y with
   | ο=>cases d;exact PySem.EqNone.ne_none_none (fL I q (by simp))
   | bl j=>cases d;exact PySem.EqNone.ne_none_bool (fL I q (by simp))
   | int j=>obtain⟨e,rfl⟩:=d;exact PySem.EqNone.ne_none_int (fL I q (by simp))
   | str j=>obtain⟨e,rfl⟩:=d;exact PySem.EqNone.ne_none_str (fL I q (by simp))
   | _=>exact absurd (show false=true from k) bD
 | bl i=>
   cases m;cases y with
   | ο=>cases d;exact PySem.EqNone.ne_bool_none (fL I q (by simp))
   | bl j=>cases d;exact ne_bool (fL I q (congrArg not Pp))
   | str j=>obtain⟨e,rfl⟩:=d;exact PySem.EqMixed.ne_bool_str (fL I q (by simp))
   | _=>exact absurd (show false=true from k) bD
 | int i=>
   obtain⟨t,rfl⟩:=m;cases y with
   | ο=>cases d;exact PySem.EqNone.ne_int_none (fL I q (by simp))
   | int j=>obtain⟨e,rfl⟩:=d;exact ne_int (fL I q (congrArg not L9))
   | str j=>obtain⟨e,rfl⟩:=d;exact PySem.EqMixed.ne_int_str (fL I q (by simp))
   | _=>exact absurd (show false=true from k) bD
 | str i=>
   obtain⟨t,rfl⟩:=m;cases y with
   | ο=>cases d;exact PySem.EqNone.ne_str_none (fL I q (by simp))
   | bl j=>cases d;exact PySem.EqMixed.ne_str_bool (fL I q (by simp))
   | int j=>obtain⟨e,rfl⟩:=d;exact PySem.EqMixed.ne_str_int (fL I q (by simp))
   | str j=>obtain⟨e,rfl⟩:=d;exact ne_str (fL I q (congrArg not LQ))
   | _=>exact absurd (show false=true from k) bD
 | byt i=>
   obtain⟨t,rfl⟩:=m;cases y with
   | byt j=>obtain⟨e,rfl⟩:=d;exact PySem.W.ne_bytes (fL I q (congrArg not LI))
   | _=>exact absurd (show false=true from k) bD
 | _=>cases y<;>exact absurd (show false=true from k) bD
theorem vo:Rw X (compareOp .Lt) (rI0 λi j=>.bl (decide (i<j))):=NY λ_ _ _ _ _ _ _ q=>lt_int q
theorem xP:Rw X (compareOp .LtE) (rI0 λi j=>.bl (decide (i<=j))):=NY λ_ _ _ _ _ _ _ q=>le_int q
theorem zK:Rw X (compareOp .Gt) (rI0 λi j=>.bl (decide (j<i))):=NY λ_ _ _ _ _ _ _ q=>gt_int q
theorem GC:Rw X (compareOp .GtE) (rI0 λi j=>.bl (decide (j<=i))):=NY λ_ _ _ _ _ _ _ q=>ge_int q
theorem lY(b:Expr){d:CmpOp}(h:d≠.In:=by decide)(e:d≠.NotIn:=by decide):behindInMarks d b=false:=by
 have j:(d==CmpOp.In)=false:=by cases d<;>first|rfl|exact absurd rfl h
 have i:(d==CmpOp.NotIn)=false:=by cases d<;>first|rfl|exact absurd rfl e
 cases b<;>simp[behindInMarks,j,i]
theorem nW{e:CmpOp}{r:R2}(o:Rw X (compareOp e) r)(m:PE X a f)(p:PE X b g)(i:behindInMarks e b=false):PE X (.Compare a [e] [b] pos) (tOp r f g):=by
 intro d s z H Q I h;exact wpAny_Compare1 (Td m p I h λv u j x y w n k t q=>o d j z w x y v u Q n k t q) i
def Cr(t:TE):TT:=λe H Q=>t e H λx d=>∃k,x=.bl k/\Q k d
theorem wY{i:CmpOp}{r:R2}(D:Rw X (compareOp i) r)(t:PE X a f)(F:PE X b g)(m:behindInMarks i b=false):PT X (.Compare a [i] [b] pos) (Cr (tOp r f g)):=by
 intro d s j H Q I h;refine wpAny_isTrue_Compare1 (eJ (t d s j H _ I h) λv o x M J G B=>eJ (F d o j M _ J B) λu p y K C E A=>
  eJ (D d p j K x y v u _ C G E A) λc N z w q L ⟨k,e,n⟩=>?_) m
 subst e;cases L;exact dN ⟨w,q,n⟩
def DE(r h:R2)(f g l:TE):TE:=λd H Q=>f d H λx n=>g d n λy i=>r x y i λz e=>∃k,z=.bl k/\(if k=true then l d e λj m=>h y j m Q else Q (.bl false) e)
theorem R3{o j:CmpOp}{r q:R2}(O:Rw X (compareOp o) r)(n:Rw X (compareOp j) q)(G:PE X a f)(R:PE X b g)(E:PE X c l)(C:lastMarks [o,j] [b,c]=false:=by with_unfolding_all rfl):PE X (.Compare a [o,j] [b,c] pos) (DE r q f g l):=by
 intro i s m H Q I h;refine Compare_chain (eJ (G i s m H _ I h) λv D x H1 W T M=>chain_link (eJ (R i D m H1 _ W M) λu F y Y N A L=>
  eJ (O i F m Y x y v u _ N T A L) λd S z w t Z ⟨k,e,p⟩=>?_)) C
 subst e;cases Z;refine dN ?_;cases k with
 | false=>exact ite_ff ⟨.bl false,w,t,rfl,p⟩
 | true=>exact ite_tt (chain_last (ϔ (E i S m w _ t p) λJ P ⟨U,H4,V,K,B⟩=>n i P m H4 y U u J Q V A K B))
theorem Bz{o j:CmpOp}{r q:R2}(R:Rw X (compareOp o) r)(n:Rw X (compareOp j) q)(G:PE X a f)(V:PE X b g)(E:PE X c l)(C:lastMarks [o,j] [b,c]=false:=by with_unfolding_all rfl):PT X (.Compare a [o,j] [b,c] pos) (Cr (DE r q f g l)):=by
 intro i s m H Q I h;refine isTrue_chain (eJ (G i s m H _ I h) λv D x H1 I1 Z O=>test_link (eJ (V i D m H1 _ I1 O) λu F y H2 P A N=>
  eJ (R i F m H2 x y v u _ P Z A N) λd W z w t r3 ⟨k,e,p⟩=>?_)) C
 subst e;cases r3;refine dN ?_;cases k with
 | false=>
   obtain⟨k',e',Y⟩:=p;cases e';exact ite_ff ⟨w,t,Y⟩
 | true=>
   refine ite_tt (test_last (ϔ (E i W m w _ t p) λJ S ⟨z',H4,I4,K,B⟩=>ϔ (n i S m H4 y z' u J _ I4 A K B) λd' s5 ⟨z2,T,M,L,k2,U,q5⟩=>?_));subst U;cases L;exact dN ⟨T,M,q5⟩
def YL(K:f3)(x:V)(H:Hp)(k:Bool):Prop:=match x with
 | .ο=>k=false
 | .bl b=>k=b
 | .int i=>k=(i != 0)
 | .str y=>y.length<=sizeLine/\k=((y.length:Int) != 0)
 | .byt y=>y.size<=sizeLine/\k=((y.size:Int) != 0)
 | .ref p=>(∃d,ν K H p d/\k=!d.isEmpty)\/(∃d,Ξ K H p d/\k=!d.isEmpty)\/∃e,H p=some (.dK e)/\k=!e.isEmpty
 | _=>False
theorem Of{d:Type}{h:List (d×V)}{e:List (d×Value)}(r:KV h e):(!e.isEmpty)=!h.isEmpty:=by
 cases r<;>rfl
theorem C3{e:List V}{d:gg}(r:Vals e d):(!d.toArray.isEmpty)=!e.isEmpty:=by
 cases r<;>simp
theorem u5:(sizeLine:Nat)<2^63:=by rw[sizeLine_eq];decide
theorem We:aba X (λx H Q=>∃k,YL X.K x H k/\Q k H):=by
 intro C s L H x v Q I o h;obtain⟨k,e,q⟩:=h;have G:=u5;have J:sizeLine=16777216:=sizeLine_eq;cases x with
 | ο=>
   cases o;have d:k=false:=e;subst d;exact truthy_none ⟨H,I,q⟩
 | bl b=>
   cases o;have d:k=b:=e;subst d;exact dN ⟨H,I,q⟩
 | int i=>
   obtain⟨t,rfl⟩:=o;have d:k=(i != 0):=e;subst d;exact PySem.P.truthy_int ⟨H,I,q⟩
 | str y=>
   obtain⟨t,rfl⟩:=o;obtain⟨F,d⟩:y.length<=sizeLine/\k=((y.length:Int) != 0):=e;subst d;exact PySem.P.truthy_str (by lia) ⟨H,I.tok _,q⟩
 | byt y=>
   obtain⟨t,rfl⟩:=o;obtain⟨F,d⟩:y.size<=sizeLine/\k=((y.size:Int) != 0):=e;subst d;exact PySem.W.truthy_bytes (by lia) ⟨H,I.tok _,q⟩
 | ref p=>
   cases o;have d:(∃n,ν X.K H p n/\k=!n.isEmpty)\/(∃n,Ξ X.K H p n/\k=!n.isEmpty)\/∃u,H p=some (.dK u)/\k=!u.isEmpty:=e;rcases d with⟨n,hx,d⟩|⟨n,hx,d⟩|⟨u,hx,d⟩
   .subst d;obtain⟨B,r,A,D⟩:=I.list hx;have j:=r.length;exact wpAny_truthy_list A.isList (by simp only[aY];lia) ⟨H,I.tok _,by rw[C3 r];exact q⟩
   .subst d;obtain⟨B,r,A,D⟩:=I.tuple hx;have j:=r.length;exact truthy_tuple A (by simp only[aY];lia) ⟨H,I.tok _,by rw[C3 r];exact q⟩
   .subst d;obtain⟨D,E,z,r,m⟩:u.length<=sizeLine/\(p==sysModules)=false/\∃z,KV u z/\s.heap.DictOf (iX X.prog X.w) p z:=I.Β p _ hx;have j:u.length=z.length:=Paired.length r;exact wpAny_truthy_dict E m (by lia) ⟨H,I.tok _,by rw[Of r];exact q⟩
 | _=>exact(show False from e).elim
theorem u9(n:PE X a f)(p:∀d,isTrue a X.env d=(do let v <-d;standAt a.pos;holding [v] (truthy v))):PT X a (λi H Q=>f i H λx j=>∃k,YL X.K x j k/\Q k j):=by
 intro e s i H Q I h;exact isTrue_plain (eJ (n e s i H _ I h) λv m x t r q o=>We e m i t x v Q r q o) (p _)
theorem uu{x:V}{d:gg}(r:Vals [x] d):∃u,d=[u]/\RelV x u:=by
 cases r with
 | cons r1 r2=>cases r2;exact⟨_,rfl,r1⟩
theorem Uw{x y:V}{d:gg}(r:Vals [x,y] d):∃u e,d=[u,e]/\RelV x u/\RelV y e:=by
 cases r with
 | cons r1 r2=>
   cases r2 with
   | cons r3 r4=>cases r4;exact⟨_,_,rfl,r1,r3⟩
theorem O2(n:X.calm=true):oC X (.builtin "max") (λm H Q=>∃i j,m=[.int i,.int j]/\Q (.int (if j>i then j else i)) H):=by
 intro e s y H m o Q I r h;obtain⟨i,j,rfl,q⟩:=h;obtain⟨u,v,rfl,⟨t,rfl⟩,⟨x,rfl⟩⟩:=Uw r;refine max_two_ints (I.ok.hd n) λp w k=>⟨_,H,I.kept k,?_,q⟩;by_cases d:j>i
 .rw[aj d,aj d];exact⟨_,rfl⟩
 .rw[ag d,ag d];exact⟨_,rfl⟩
theorem OO:oC X (.type "int") (λd H Q=>(∃i,d=[.int i]/\Q (.int i) H)\/∃k,d=[.bl k]/\Q (.int (if k then 1 else 0)) H):=by
 intro e s m H d j Q I r h;rcases h with⟨i,rfl,q⟩|⟨k,rfl,q⟩
 .obtain⟨u,rfl,t,rfl⟩:=uu r;exact call_int_int ⟨.int i,H,I,⟨_,rfl⟩,q⟩
 .obtain⟨u,rfl,r1⟩:=uu r;cases r1;exact call_int_bool ⟨.int (if k then 1 else 0),H,I.tok _,⟨_,rfl⟩,q⟩
end
structure acZ(h:Heap)(x dx C:Addr)(mA:gx):Prop where
 obj:h.get? x=some (PySem.W.instObj C dx)
 ns:h.Ns1 dx mA
 ne:dx≠x
theorem P8{h:Heap}{d:Addr}{f:gx}(n:h.Ns1 d f):∃g,h.get? d=some g/\∀b,PySem.W.lookIn b g=some (f b):=by
 obtain⟨o,i,s,p,m,k,_,j⟩:=n;refine⟨o,p,λb=>?_⟩;have e:=j b;unfold nsFind findBy at e;rw[<-Array.find?_toList]at e;unfold PySem.W.lookIn;rw[m];dsimp only;split
 .rename_i y q
  rw[q]at e;exact congrArg some e
 .rename_i q
  rw[q]at e;have a:i.toList.any (·.refKey)=false:=by
   rw[List.any_eq_false];intro y r;obtain⟨z,t,c⟩:=k y (Array.mem_toList_iff.mp r);simp[DictEntry.refKey,c]
  have l:¬i.toList.any (·.refKey)=true:=by rw[a];exact bD
  rw[ag l];exact congrArg some e
theorem acZ.look{h:Heap}{x c C:Addr}{d:gx}(I:acZ h x c C d):∃b,PySem.W.InstAt h x (PySem.W.instObj C c) C (some b)/\∀a,PySem.W.lookIn a b=some (d a):=let ⟨b,ho,hl⟩:=P8 I.ns
 ⟨b,⟨I.obj,rfl,rfl,ho⟩,hl⟩
section
variable{e:Program}{w:World}{A:Around}{E:fz}{s:Shared}{K:f3}{x i C f:Addr}{j:gx}{c:Str}{v:Value}
theorem U8{a:Bool}{Q:fz}(X:K.In s.heap)(I:acZ s.heap x i C j)(g:PySem.W.plainGet K C c=true)(m:PySem.W.hasDictIn K C=true)(k:PySem.W.findIn K (.ref C) c=some none)(l:j c=some v)(b:PySem.W.handedIn v=true)(h:Q v { s with toks:=s.toks+1 }):wpAny (model e w) A (getAttr (.ref x) c a) Q E s:=by
 obtain⟨n,J,d⟩:=I.look;exact PySem.W.get_value X J (PySem.W.plainGet_of g).1 (PySem.W.findObj_own m k rfl (by rw[d,l])) b h
theorem Vg{ns:gy}{Q:Unit->Shared->Prop}(X:K.In s.heap)(I:acZ s.heap x i C j)(B:PySem.W.findIn K (.ref C) "__setattr__"=some (some (.builtin "object.__setattr__")))(D:PySem.W.plainOver K C=true)(z:PySem.W.takerIn K C c=some none)(u:PySem.W.hasDictIn K C=true)(G:PySem.Within j ns)(F:ns.length<=sizeLine)(h:∀k,acZ k x i C (λy=>if y=c then some v else j y)->Heap.SameBut i s.heap k->Q () { s with heap:=k,toks:=s.toks+2 }):wpAny (model e w) A (setAttr (.ref x) c v) Q E s:=by
 obtain⟨M,J,L⟩:=I.look;refine PySem.W.set_plain X J B (PySem.W.osa_open (s:={ s with toks:=s.toks+1 }) (r:=none) X J D z λb=>?_);obtain⟨N,p,o⟩:=PySem.W.any_some u;have H:s.heap.get? x=some ⟨.ref C,some i,.plain,#[]⟩:=I.obj;refine ao (bi (ao (ao (wpAny_loadPart H (ao (PySem.W.Looks.here (s:={ s with toks:=s.toks+1 }) (PySem.W.looks_clsIn X p) ?_))))));rw[o];refine bi (a:=some i) (ao (bi (ao ?_)));refine wpAny_nsSet1 (s:={ s with toks:=s.toks+1 }) I.ns λk g d=>?_;obtain⟨O,q,t,l,m,n⟩:=g.count (PySem.Within.cons c v G);refine ao (wpAny_lookBehind l (by rw[m];exact pastItsLine_dict (aP n (by rw[aR];lia))) ?_);exact bi (h _ ⟨(d.2 _ (Ne.symm I.ne)).trans I.obj,g,I.ne⟩ d)
theorem Si{R:Result->Shared->Prop}{k:gg}{b:List (Str×Value)}(X:K.In s.heap)(l:PySem.W.makesIn K C=true)(m:PySem.W.findIn K (.ref C) "__init__"=some (some (.ref f)))(n:PySem.W.typeIn K (.ref f)=some (.type "function"))(h:codeAny (model e w) (A.under (.builtin "type.__call__" ⟨.ref C::k,b⟩)) (.call (.ref f) ⟨.ref (s.heap.objs.size+1)::k,b⟩) (PySem.W.InitBack (s.heap.objs.size+1) R)
 { s with heap:=(s.heap.push PySem.W.emptyDict).push (PySem.W.instObj C s.heap.objs.size) }):codeAny (model e w) A (.call (.ref C) ⟨k,b⟩) R s:=by
 obtain⟨o,g,d,t,os⟩:=s;exact PySem.W.make_core (PySem.W.makes_of X l) (PySem.W.looks_findIn X m) (λa=>PySem.W.bind_fn X a n) (.inl rfl) h
end
def bj(f:Str)(v:V):List (Str×V)->List (Str×V)
 | []=>[(f,v)]
 | (g,x)::r=>if g=f then(g,v)::r else(g,x)::bj f v r
theorem b5(f g:Str)(v:V):∀b:List (Str×V),(bj f v b).lookup g=if g=f then some v else b.lookup g
 | []=>by
   show List.lookup g [(f,v)]=_;by_cases h:g=f
   .have hb:(g==f)=true:=mX.mpr h;simp only[List.lookup,hb,aj h]
   .have hb:(g==f)=false:=beq_eq_false_iff_ne.mpr h;simp only[List.lookup,hb,ag h]
 | (k,x)::r=>by
   have c:=b5 f g v r;rw[show bj f v ((k,x)::r)=(if k=f then(k,v)::r else(k,x)::bj f v r)from rfl];by_cases a:k=f
   .rw[aj a];by_cases h:g=k
    .have hb:(g==k)=true:=mX.mpr h;simp only[List.lookup,hb,aj (h.trans a)]
    .have hb:(g==k)=false:=beq_eq_false_iff_ne.mpr h;simp only[List.lookup,hb,ag (λe:g=f=>h (e.trans a.symm))]
   .rw[ag a];by_cases h:g=k
    .have hb:(g==k)=true:=mX.mpr h;simp only[List.lookup,hb,ag (λe:g=f=>a (h.symm.trans e))]
    .have hb:(g==k)=false:=beq_eq_false_iff_ne.mpr h;simp only[List.lookup,hb];exact c
theorem zI(f:Str)(v:V):∀b:List (Str×V),f∈(bj f v b).map (·.1)/\∀g,g∈b.map (·.1)->g∈(bj f v b).map (·.1)
 | []=>⟨by simp[bj],λg h=>by simp at h⟩
 | (k,x)::r=>by
   obtain⟨c,d⟩:=zI f v r;rw[show bj f v ((k,x)::r)=(if k=f then(k,v)::r else(k,x)::bj f v r)from rfl];by_cases a:k=f
   .rw[aj a];subst a;exact⟨by simp,λg h=>by simpa using h⟩
   .rw[ag a];refine⟨?_,λg h=>?_⟩
    .rw[aq];exact ap _ c
    .rw[aq]at h ⊢;rcases aw.mp h with e|e
     .exact aw.mpr (.inl e)
     .exact ap _ (d g e)
theorem AH(f:Str)(v:V):∀b:List (Str×V),(bj f v b).length<=b.length+1
 | []=>by simp[bj]
 | (k,x)::r=>by
   have c:=AH f v r;rw[show bj f v ((k,x)::r)=(if k=f then(k,v)::r else(k,x)::bj f v r)from rfl];by_cases a:k=f
   .rw[aj a,aR,aR];lia
   .rw[ag a,aR,aR];lia
theorem BV.some_of{v:V}{o:Option Value}(r:BV (some v) o):∃u,o=some u/\RelV v u:=by
 cases o with
 | none=>exact(show False from r).elim
 | some u=>exact⟨u,rfl,r⟩
theorem Qd{v:V}{u:Value}(r:RelV v u):PySem.W.handedIn u=true:=by
 cases v with
 | ο=>cases(show u=Value.none from r);rfl
 | bl b=>cases(show u=Value.bool b from r);rfl
 | int i=>obtain⟨t,e⟩:=(show ∃t,u=Value.int i t from r);cases e;rfl
 | str x=>obtain⟨t,e⟩:=(show ∃t,u=Value.str x t from r);cases e;rfl
 | byt b=>obtain⟨t,e⟩:=(show ∃t,u=Value.bytes b t from r);cases e;rfl
 | flt b=>obtain⟨t,e⟩:=(show ∃t,u=Value.float b t from r);cases e;rfl
 | ref a=>cases(show u=Value.ref a from r);rfl
 | ty n=>cases(show u=Value.type n from r);rfl
section
variable{P:Program}{w:World}{H i:Hp}{h j:Heap}{a C c:Addr}{b g:List (Str×V)}
theorem L8(m:ϭ P w H h)(e:H a=some (.ins C c b)):∃k,acZ h a c C k/\(∀f,BV (b.lookup f) (k f))/\PySem.Within k (b.map (·.1))/\b.length<=1000/\H c=some (.own a):=by
 obtain⟨d,z,ne,l,k,n,r,q⟩:=(show Ν P w H h a (.ins C c b)from m a _ e);exact⟨k,⟨l,n,ne⟩,r,q,z,d⟩
end
structure Cls(K:f3)(C:Addr):Prop where
 pg:PySem.W.plainGet K C Str.empty=true
 hd:PySem.W.hasDictIn K C=true
 po:PySem.W.plainOver K C=true
 sa:PySem.W.findIn K (.ref C) "__setattr__"=some (some (.builtin "object.__setattr__"))
theorem Cls.get{K:f3}{C:Addr}(c:Cls K C)(f:Str):PySem.W.plainGet K C f=true:=c.pg
def Λ(K:f3)(C:Addr)(f:Str):Prop:=PySem.W.findIn K (.ref C) f=some none
theorem Λ.ahl{K:f3}{C:Addr}{f:Str}(n:Λ K C f):PySem.W.takerIn K C f=some none:=by
 unfold PySem.W.takerIn;rw[show PySem.W.findIn K (.ref C) f=some none from n]
 rfl
section
variable{X:Cx}{d:f5}{j:St}{H:Hp}{s:Shared}{a C k:Addr}{i:List (Str×V)}{f:Str}{v:V}{A:Around}{E:fz}
theorem MZ{b:Bool}{Q:fz}(I:Inv X d j H s)(e:H a=some (.ins C k i))(c:Cls X.K C)(n:Λ X.K C f)(l:i.lookup f=some v)(h:∀u g,Inv X d j H g->RelV v u->Q u g):wpAny (model X.prog X.w) A (getAttr (.ref a) f b) Q E s:=by
 obtain⟨p,O,r,_,_,_⟩:=L8 I.Β e;obtain⟨u,q,m⟩:=BV.some_of (v:=v) (o:=p f) (by rw[<-l];exact r f);exact U8 I.kIn O (c.get f) c.hd n q (Qd m) (h u _ (I.tok _) m)
theorem Ol{y:V}{u:Value}{Q:Unit->Shared->Prop}(I:Inv X d j H s)(e:H a=some (.ins C k i))(c:Cls X.K C)(n:Λ X.K C f)(N:i.length<1000)(L:RelV y u)(h:∀m,Inv X d j (upd H a (.ins C k (bj f y i))) m->Q () m):wpAny (model X.prog X.w) A (setAttr (.ref a) f u) Q E s:=by
 obtain⟨p,O,r,B,_,t⟩:=L8 I.Β e;have G:(i.map (·.1)).length<=sizeLine:=by rw[ah,sizeLine_eq];lia
 refine Vg I.kIn O c.sa c.po n.ahl c.hd B G λD l F=>h _ ?_;have hd:∃o,D.get? k=some o:=let ⟨o,_,_,e',_⟩:=l.ns;⟨o,e'⟩;refine I.write (x:=a) (e:=k) (by rw[e];exact True.intro) (.inr t) (λb q J z=>(F.2 b J).trans z) hd ?_;refine⟨by rw[aN O.ne];exact t,?_,O.ne,l.obj,_,l.ns,λg=>?_,λg M=>?_⟩
 .have:=AH f y i;lia
 .show BV ((bj f y i).lookup g) (if g=f then some u else p g);rw[b5];by_cases q:g=f
  .rw[aj q,aj q];exact L
  .rw[ag q,ag q];exact r g
 .by_cases q:g=f
  .rw[q];exact(zI f y i).1
  .refine(zI f y i).2 g (B g λz=>M ?_);show(if g=f then some u else p g)=none;rw[ag q];exact z
theorem Inv.made(I:Inv X d j H s):Inv X d j (upd (upd H s.heap.objs.size (.own (s.heap.objs.size+1))) (s.heap.objs.size+1) (.ins C s.heap.objs.size []))
 { s with heap:=(s.heap.push PySem.W.emptyDict).push (PySem.W.instObj C s.heap.objs.size) }:=by
 have c:(s.heap.push PySem.W.emptyDict).get? s.heap.objs.size=some PySem.W.emptyDict:=bc s.heap rfl;have h:((s.heap.push PySem.W.emptyDict).push (PySem.W.instObj C s.heap.objs.size)).get? (s.heap.objs.size+1)=some (PySem.W.instObj C s.heap.objs.size):=by
  have:=bc (s.heap.push PySem.W.emptyDict) (o:=PySem.W.instObj C s.heap.objs.size) rfl
  rwa [dR]at this
 have g:(s.heap.push PySem.W.emptyDict).Ns s.heap.objs.size (λ_=>none):=⟨PySem.W.emptyDict,#[],_,c,rfl,(λe m=>absurd m (by simp)),λ_=>rfl⟩;have l:=I.laid (a:=s.heap.objs.size) (o:=.own (s.heap.objs.size+1)) (h':=s.heap.push PySem.W.emptyDict) (t':=s.toks) (λb u q=>aF _ q) (az _) ⟨_,c⟩;refine l.laid (a:=s.heap.objs.size+1) (o:=.ins C s.heap.objs.size []) (t':=s.toks) (λb u q=>aF _ q) (oj (dR _ _)) ?_;have ne:s.heap.objs.size≠s.heap.objs.size+1:=aW (gw _);refine⟨by rw[aN ne,aE],bB _,ne,h,λ_=>none,(Heap.Ns1.of_empty g).at λo q=>aF _ q,λ_=>True.intro,λy n=>absurd rfl n⟩
theorem UK{b:Program}{w:World}{c:Env}{e:Expr}{f:Str}{l:Pos}{s:Shared}{Q:fz}(m:attributeBase e f c (eval e c)=eval e c)(h:wpAny (model b w) A (eval e c) (λo g=>wpAny (model b w) A (getAttr o f true) Q E g) E s):wpAny (model b w) A (eval (.Attribute e f l) c) Q E s:=Attribute_any_ h (by rw[arm_eval_Attribute,m])
end
def Sc(K:f3)(d:TE)(f:Str):TE:=λg H Q=>d g H λx c=>∃a C e b v,x=.ref a/\c a=some (.ins C e b)/\Cls K C/\Λ K C f/\b.lookup f=some v/\Q v c
def SZ(K:f3)(g h:TE)(f:Str):TS:=λD b H=>h b H λy i=>g b i λx e=>∃a C d c,x=.ref a/\e a=some (.ins C d c)/\Cls K C/\Λ K C f/\c.length<1000/\D.nx b (upd e a (.ins C d (bj f y c)))
section
variable{X:Cx}{o e b:Expr}{f:Str}{g d k:Pos}{i j:TE}
theorem cD(z:PE X e i)(y:attributeBase e f X.env (eval e X.env)=eval e X.env):PE X (.Attribute e f g) (Sc X.K i f):=by
 intro m s B H Q I h;refine UK y (eJ (z m s B H _ I h) λu F x E D r ⟨a,C,G,L,v,w,A,c,n,l,q⟩=>?_);subst w;obtain rfl:u=Value.ref a:=r;exact MZ D A c n l λM J t p=>⟨v,E,t,p,q⟩
theorem nQ(z:PE X o i)(t:PE X b j)(J:swapsWith b (some (.Attribute o f d)) g.line X.env=pure false):PS X (.Assign [.Attribute o f d] b g) (SZ X.K i j f):=by
 intro m s p H D I h;refine plainObj_wpAny_Assign_Attribute (eJ (t m s p H _ I h) λu r y N M F q=>eJ (z m r p N _ M q) λL P x S B v ⟨a,C,O,Q,E,G,c,n,l,A⟩=>?_) J;subst E;obtain rfl:L=Value.ref a:=v;exact Ol B G c n l F λR w=>⟨p,_,w,A⟩
end
structure ϊ(k:Nat)(A:Around):Prop where
 hd:A.handled=none
 dp:A.depth+3*k+5<recursionLimit
 un:A.units+16*k+200<cLine
theorem ϊ.mono{j k:Nat}{A:Around}(r:ϊ k A)(h:j<=k):ϊ j A:=⟨r.hd,by have:=r.dp;lia,by have:=r.un;lia⟩
theorem ϊ.deeper{k:Nat}{A:Around}(r:ϊ (k+1) A)(a:Env):ϊ k (A.deeper a):=⟨r.hd,by have:=r.dp;show A.depth+1+3*k+5<_;lia,by have:=r.un;show A.units+3+16*k+200<_;lia⟩
theorem Np{A:Around}{C:Addr}{a:gg}{b:List (Str×Value)}:(A.under (.builtin "type.__call__" ⟨.ref C::a,b⟩)).depth=A.depth+1:=by
 first|rfl|simp[Around.under,Code.weight,Code.isCreation,Code.isGuard,Code.isCaller,Code.frames,Code.isFrame,guardIds]
theorem M0{A:Around}{C:Addr}{a:gg}{b:List (Str×Value)}:(A.under (.builtin "type.__call__" ⟨.ref C::a,b⟩)).units=A.units+1:=by
 first|rfl|simp[Around.under,Code.cUnits,Code.frames,Code.isFrame]
theorem ϊ.make{k:Nat}{A:Around}(r:ϊ (k+1) A)(C:Addr)(a:gg)(b:List (Str×Value)):ϊ k (A.under (.builtin "type.__call__" ⟨.ref C::a,b⟩)):=⟨r.hd,by have:=r.dp;rw[Np];lia,by have:=r.un;rw[M0];lia⟩
theorem ϊ.depth{k:Nat}{A:Around}(r:ϊ k A):A.depth<recursionLimit:=by have:=r.dp;lia
theorem ϊ.units{k:Nat}{A:Around}(r:ϊ k A):A.units+64<cLine:=by have:=r.un;lia
def afD:TA:=λ_ H Q=>Q [] H
def Mz(b:TE)(c:TA):TA:=λa H Q=>b a H λx f=>c a f λe d=>Q (x::e) d
section
variable{X:Cx}{e:Expr}{c:List Expr}{d:TE}{t:TA}{a:Pos}
theorem ax:PA X [] afD:=λ_ _ _ _ H Q I h=>iu ⟨[],H,I,.nil,h⟩
theorem aa(i:PE X e d)(k:PA X c t)(p:starEach (e::c) X.env=(false,eval e X.env)::starEach c X.env:=by rfl):PA X (e::c) (Mz d t):=by
 intro a b s f H Q I h;rw[p];show wpAny _ _ (spliced ((false,eval e X.env)::backTo a (starEach c X.env))) _ _ s;refine hJ (eJ (i b s f H _ I h) λu g x w r q m=>?_);exact vN (k a b g f w _ r m) λy z j v n o l=>⟨x::j,v,n,.cons q o,l⟩
def RF(t:TA):TE:=λg H Q=>t g H λb f=>b.length<=sizeLine/\∀p,f p=none->Q (.ref p) (upd f p (.tup b))
def R4(t:TA):TE:=λg H Q=>t g H λb f=>b.length<=sizeLine/\∀p,f p=none->Q (.ref p) (upd f p (.lst b))
theorem m7{x1}(h:PA X c t):PE X (.Tuple c x1 a) (RF t):=by
 intro f s o H Q I n;refine wpAny_Tuple_spliced (vN (h a f s o H _ I n) λk g l j i r ⟨z,q⟩=>⟨by rw[<-r.length];exact z,?_⟩);have m:j g.heap.objs.size=none:=i.Β.fresh (az _);refine⟨.ref g.heap.objs.size,upd j g.heap.objs.size (.tup l),i.laid (t':=g.toks) (λb u e=>aF _ e) (az _) ?_,rfl,q _ m⟩;exact⟨z,k,r,⟨_,bc _ rfl,rfl,_,rfl⟩⟩
theorem gF(h:PA X c t):PE X (.List c a) (R4 t):=by
 intro f s o H Q I n;refine wpAny_List_spliced (vN (h a f s o H _ I n) λk g l j i r ⟨z,q⟩=>⟨by rw[<-r.length];exact z,?_⟩);have m:j g.heap.objs.size=none:=i.Β.fresh (az _);refine⟨.ref g.heap.objs.size,upd j g.heap.objs.size (.lst l),i.laid (t':=g.toks) (λb u e=>aF _ e) (az _) ?_,rfl,q _ m⟩;exact⟨z,k,0,r,bc _ rfl⟩
end
abbrev Sp:=List V->Hp->VK->XK->Prop
abbrev CXT:=List Env->Hp->Shared->XK->Value->Shared->Prop
structure aci(P:Program)(w:World)(K:f3)(mg:gx)(base:Heap)(A:Around)(outer:List Env)(s:Shared)(H:Hp):Prop where
 frames:A.frames=some outer
 mod:Mod K mg base
 bs:∀b o,base.get? b=some o->s.heap.get? b=some o/\H b=none
 bsz:base.objs.size<=s.heap.objs.size
 Le:s.heap.FunFrames base outer
 frf:∀b∈Ϯ outer,H b=none
 Β:ϭ P w H s.heap
 bare:AllBare s.gens
def CE(a:List Env)(P:Program)(w:World)(H:Hp)(s:Shared)(Q:VK)(u:Value)(b:Shared):Prop:=∃v c,b.os=s.os/\AllBare b.gens/\Un (Ϯ a) [] H c s.heap b.heap/\ϭ P w c b.heap/\RelV v u/\Q v c
def CR(c:CXT)(a:List Env)(P:Program)(w:World)(H:Hp)(s:Shared)(Q:VK)(E:XK)(r:Result)(b:Shared):Prop:=match r with
 | .ok (.ret u)=>CE a P w H s Q u b
 | .ok _=>False
 | .error e=>c a H s E e b
structure Ψ(P:Program)(w:World)(K:f3)(mg:gx)(base:Heap)(CX:CXT)(k:Nat)(f:Addr)(fd:FuncData)(ps:gy)(sp:Sp):Prop where
 len:∀vs H Q E,sp vs H Q E->vs.length=ps.length
 run:∀(A:Around)(outer:List Env)(s:Shared)(H:Hp)(args:Args)(us:gg)(vs:List V)(Q:VK)(E:XK),ϊ k A->aci P w K mg base A outer s H->BindsTo s fd args (ps.zip us)->Vals vs us->sp vs H Q E->codeAny (model P w) A (.call (.ref f) args) (CR CX outer P w H s Q E) s
theorem aci.make{P:Program}{w:World}{K:f3}{c:gx}{b:Heap}{A:Around}{a:List Env}{s:Shared}{H:Hp}(e:aci P w K c b A a s H)(C:Addr)(d:gg)(f:List (Str×Value)):aci P w K c b (A.under (.builtin "type.__call__" ⟨.ref C::d,f⟩)) a s H:=⟨by first|exact e.frames|(simpa[Around.under,Code.envs,Code.isFrame,pushEnvs]using e.frames),e.mod,e.bs,e.bsz,e.Le,e.frf,e.Β,e.bare⟩
section
variable{X:Cx}{a:f5}{e:St}{H:Hp}{s c:Shared}
theorem Inv.ahm(I:Inv X a e H s):aci X.prog X.w X.K X.mg X.base X.A X.stack s H:=⟨I.ok.frames,I.ok.mod,I.bs,aP I.ok.bsz I.sz,I.stack,I.aav,I.Β,I.bare⟩
theorem Inv.after{Q:VK}{u:Value}(I:Inv X a e H s)(h:CE X.stack X.prog X.w H s Q u c):EP X a e Q u c:=by
 obtain⟨v,j,os,f,k,l,r,q⟩:=h;obtain⟨m,g,d,t,i⟩:=c;obtain rfl:i=s.os:=os;exact⟨v,j,I.call (h':=m) (g':=g) (d':=d) (t':=t) (ch:=[]) k l f (λb z=>absurd z (by simp)),r,q⟩
end
def ya(c:Sp)(a:List V)(E:XK)(t:TA):TE:=λd H Q=>t d H λe b=>c (e++a) b Q E
def MY(C:Addr)(d:Sp)(b:List V)(E:XK)(t:TA):TE:=λf H Q=>t f H λg c=>∀x a,c x=none->c a=none->a≠x->d (.ref x::(g++b)) (upd (upd c a (.own x)) x (.ins C a [])) (λv e=>v=.ο/\Q (.ref x) e) E
def Binds(K:f3)(d:FuncData)(c:gy)(b:gg):Prop:=∀(s:Shared)(a:gg),K.In s.heap->(a++b).length=c.length->BindsTo s d ⟨a,[]⟩ (c.zip (a++b))
theorem Binds.all{K:f3}{c:FuncData}{b:gy}(h:∀a:List Value,a.length=b.length->bindArgs c ⟨a,[]⟩=pure (b.zip a)):Binds K c b []:=λs a _ d=>by
 rw[b7]at d ⊢;exact .of_eq (h a d)
def tj(c:CXT)(X:Cx)(E:XK):Prop:=∀(a:f5)(d:St)(H:Hp)(s:Shared)(e:Value)(b:Shared),Inv X a d H s->c X.stack H s E e b->X.xe e b
section
variable{X:Cx}{l:CXT}{k:Nat}{f C:Addr}{j:FuncData}{g:gy}{i:Sp}{a:List V}{b:gg}{E:XK}{x m:Str}{p c n:Pos}{e o:Expr}{d:List Expr}{y:TE}{t:TA}
theorem Y8{q:f5}{D:St}{H:Hp}{s:Shared}{Q:VK}{v:gg}{B:List V}(F:Ψ X.prog X.w X.K X.mg X.base l k f j g i)(N:ϊ k X.A)(O:Binds X.K j g b)(M:Vals a b)(P:tj l X E)(I:Inv X q D H s)(r:Vals B v)(h:i (B++a) H Q E):wpAny (model X.prog X.w) X.A (call (.ref f) v) (EP X q D Q) X.xe s:=by
 have G:Vals (B++a) (v++b):=r.append M;have L:(v++b).length=g.length:=by rw[<-G.length];exact F.len _ _ _ _ h
 refine wpAny_call (mi (F.run X.A X.stack s H ⟨v,[]⟩ (v++b) (B++a) Q E N I.ahm (O s v I.kIn L) G h) λr J z=>?_);cases r with
 | error e=>exact P q D H s e J I z
 | ok fl=>
   cases fl with
   | ret u=>exact I.after z
   | next=>exact False.elim z
   | brk=>exact False.elim z
   | cont=>exact False.elim z
theorem ju(F:Ψ X.prog X.w X.K X.mg X.base l k f j g i)(L:ϊ k X.A)(O:Gl X x)(z:X.mg x=some (.ref f))(B:PySem.W.keepIn X.K (.ref f)=true)(M:Binds X.K j g b)(J:Vals a b)(R:tj l X E)(G:PA X (e::d) t)(hdb:(x==("__debug__":Str))=false:=by decide)(N:starEach (e::d) X.env=(false,eval e X.env)::starEach d X.env:=by rfl)(D:(backTo c (starEach d X.env)).any (·.1)=false:=by rfl):PE X (.Call (.Name x p) (e::d) [] c) (ya i a E t):=by
 intro u s P H Q I h;refine je (Ag I O z ?_ hdb);refine PySem.W.callWith_K (h₀:=X.base) I.ok.mod.kin B (vN (G c u s P H _ I h) λS T U V v r q=>⟨v.kIn,?_⟩) N D;exact Y8 F L M J R v r q
structure Mk(K:f3)(C f:Addr):Prop where
 makes:PySem.W.makesIn K C=true
 init:PySem.W.findIn K (.ref C) "__init__"=some (some (.ref f))
 fn:PySem.W.isFn K (.ref f)=true
 kp:PySem.W.keepIn K (.ref C)=true
theorem Sn{q:f5}{L:St}{H:Hp}{s:Shared}{Q:VK}{B:gg}{J:List V}(M:Mk X.K C f)(F:Ψ X.prog X.w X.K X.mg X.base l k f j g i)(Z:ϊ (k+1) X.A)(hb:Binds X.K j g b)(Y:Vals a b)(hx:tj l X E)(I:Inv X q L H s)(r:Vals J B)(h:∀x D,H x=none->H D=none->D≠x->i (.ref x::(J++a)) (upd (upd H D (.own x)) x (.ins C D [])) (λv H2=>v=.ο/\Q (.ref x) H2) E):wpAny (model X.prog X.w) X.A (call (.ref C) B) (EP X q L Q) X.xe s:=by
 have O:=h (s.heap.objs.size+1) s.heap.objs.size (I.Β.fresh (gq _)) (I.Β.fresh (az _)) (aW (gw _));have G:=Inv.made (C:=C) I;have N:Vals (V.ref (s.heap.objs.size+1)::(J++a)) (Value.ref (s.heap.objs.size+1)::(B++b)):=.cons rfl (r.append Y);have T:(Value.ref (s.heap.objs.size+1)::B++b).length=g.length:=by
  have e:=N.length;rw[F.len _ _ _ _ O]at e;exact e.symm
 refine wpAny_call (Si (f:=f) I.kIn M.makes M.init (mX.mp M.fn) (mi (F.run _ X.stack _ _ ⟨Value.ref (s.heap.objs.size+1)::B,[]⟩ (Value.ref (s.heap.objs.size+1)::(B++b)) _ _ E (Z.make C B [])
  (G.ahm.make C B []) (hb _ (Value.ref (s.heap.objs.size+1)::B) G.kIn T) N O) λr P z=>?_))
 cases r with
 | error e=>exact hx q L _ _ e P G z
 | ok fl=>
   cases fl with
   | ret u=>
     obtain⟨v,R,W,rv,U,S⟩:=G.after z;subst U;exact⟨rv,⟨V.ref (s.heap.objs.size+1),R,W,rfl,S⟩⟩
   | next=>exact False.elim z
   | brk=>exact False.elim z
   | cont=>exact False.elim z
theorem wU(M:Mk X.K C f)(F:Ψ X.prog X.w X.K X.mg X.base l k f j g i)(J:ϊ (k+1) X.A)(O:Gl X x)(z:X.mg x=some (.ref C))(L:Binds X.K j g b)(G:Vals a b)(R:tj l X E)(D:PA X (e::d) t)(hdb:(x==("__debug__":Str))=false:=by decide)(N:starEach (e::d) X.env=(false,eval e X.env)::starEach d X.env:=by rfl)(B:(backTo c (starEach d X.env)).any (·.1)=false:=by rfl):PE X (.Call (.Name x p) (e::d) [] c) (MY C i a E t):=by
 intro u s P H Q I h;refine je (Ag I O z ?_ hdb);refine PySem.W.callWith_K (h₀:=X.base) I.ok.mod.kin M.kp (vN (D c u s P H _ I h) λS T U V v r q=>⟨v.kIn,?_⟩) N B;exact Sn M F J L G R v r q
end
structure ζ(N P:gy)(sc:Scope):Prop where
 kind:sc.kind=.function
 co:sc.isCoroutine=false
 gen:sc.isGenerator=false
 nd:N.Nodup
 pre:N.take P.length=P
 par:∀x∈P,sc.names.lookup x=some .local\/sc.names.lookup x=some .cell
 afE:∀y∈sc.names,y.2≠.free
theorem FW{b:Str->Option NameKind}{x:Str}:∀{a:List (Str×Value)}{m:gx},(∀v,(x,v)∉a)->bindL b a m x=m x
 | [],_,_=>rfl
 | (n,v)::r,m,h=>by
   unfold bindL;rw[FW λw c=>h w (ap _ c)];split
   .have:x≠n:=(by rintro rfl;exact h v aA);simp[this]
   .rfl
theorem FQ{b:Str->Option NameKind}{x:Str}:∀{a:List (Str×Value)}{m:gx},(∀v,(x,v)∉a)->bindC b a m x=m x
 | [],_,_=>rfl
 | (n,v)::r,m,h=>by
   unfold bindC;rw[FQ λw c=>h w (ap _ c)];split
   .rfl
   .have:x≠n:=(by rintro rfl;exact h v aA);simp[this]
theorem Fv{a:Str->Option NameKind}{x:Str}{v:Value}:∀{P:gy}{b:gg}{i:Nat}{m:gx},P.Nodup->P[i]?=some x->b[i]?=some v->a x=some .local->bindL a (P.zip b) m x=some v
 | [],_,_,_,_,h,_,_=>by simp at h
 | _::_,[],_,_,_,_,h,_=>by simp at h
 | p::P,w::b,0,m,nd,h1,h2,hk=>by
   simp at h1 h2;subst h1;subst h2;show bindL a ((p,w)::P.zip b) m p=_;unfold bindL;rw[FW λv c=>(bg.mp nd).1 (iI c).1,aj hk];simp
 | p::P,w::b,i+1,m,nd,h1,h2,hk=>by
   show bindL a ((p,w)::P.zip b) m x=_;unfold bindL;exact Fv (i:=i) (bg.mp nd).2 (by simpa using h1) (by simpa using h2) hk
theorem Fy{a:Str->Option NameKind}{x:Str}{v:Value}:∀{P:gy}{b:gg}{i:Nat}{m:gx},P.Nodup->P[i]?=some x->b[i]?=some v->a x≠some .local->bindC a (P.zip b) m x=some v
 | [],_,_,_,_,h,_,_=>by simp at h
 | _::_,[],_,_,_,_,h,_=>by simp at h
 | p::P,w::b,0,m,nd,h1,h2,hk=>by
   simp at h1 h2;subst h1;subst h2;show bindC a ((p,w)::P.zip b) m p=_;unfold bindC;rw[FQ λv c=>(bg.mp nd).1 (iI c).1,ag hk];simp
 | p::P,w::b,i+1,m,nd,h1,h2,hk=>by
   show bindC a ((p,w)::P.zip b) m x=_;unfold bindC;exact Fy (i:=i) (bg.mp nd).2 (by simpa using h1) (by simpa using h2) hk
def start(N:gy)(a:List V):St:=a.map some++List.replicate (N.length-a.length) none
def t7(g:CXT)(P:Program)(w:World)(K:f3)(mg:gx)(base:Heap)(N:gy)(b:Str)(a:Scope)(f:Addr)(d:Value)(A:Around)(outer:List Env)(s:Shared)(H:Hp)(E:XK):Cx where
 prog:=P
 w:=w
 K:=K
 mg:=mg
 base:=base
 A:=A.deeper (envOfC b a s.heap.objs.size f d)
 N:=N
 s₀:=s
 H₀:=H
 env:=envOfC b a s.heap.objs.size f d
 outer:=outer
 stack:=envOfC b a s.heap.objs.size f d::outer
 ex:=[]
 calm:=true
 fn:=λ_=>true
 pn:=[]
 xe:=λe h=>wpAny (model P w) (A.deeper (envOfC b a s.heap.objs.size f d)) (leaving (envOfC b a s.heap.objs.size f d) e) (λ_ c=>g outer H s E e c) (λi c=>g outer H s E i c) h
theorem BR{a:Scope}{n:Nat}{x:Str}(h:a.names.lookup x=some .cell):∃c,(cellsFrom n a.names []).lookup x=some c:=by
 have q:=mS a.names n [] (.inl h);exact fK.mp q
theorem Pz{T:CXT}{P:Program}{w:World}{K:f3}{M:gx}{m:Heap}{N B:gy}{j:Str}{d:Scope}{f:Addr}{I:Value}{A:Around}{g:List Env}{s Q:Shared}{H:Hp}{E:XK}{L:gg}{t:List V}(S:ζ N B d)(X:A.handled=none)(o:aci P w K M m A g s H)(hl:t.length=B.length)(r:Vals t L)(x:InCallC s s.heap.objs.size (bindL (envOfC j d s.heap.objs.size f I).kindOf (B.zip L) λ_=>none) (cellsFrom (s.heap.objs.size+1) d.names []) (bindC (envOfC j d s.heap.objs.size f I).kindOf (B.zip L) λ_=>none) Q):Inv (t7 T P w K M m N j d f I A g s H E) [] (start N t) H Q:=by
 have Z:B.length<=N.length:=by have:=congrArg List.length S.pre;rw[bE]at this;lia
 obtain⟨J,tk,rfl,O⟩:=x.done;have C:∀b:Addr,b∉(t7 T P w K M m N j d f I A g s H E).ex:=λb z=>absurd (show b∈([]:gf)from z) (by simp);refine⟨⟨o.mod,S.kind,rfl,rfl,az _,λy z c J l=>?_,λy hy=>?_,λy c _ h=>?_,λ_=>X,Around.frames_deeper o.frames,.inr ⟨rfl,rfl⟩,λb z=>absurd z (C b),o.bs,o.bsz,λb _ _=>C b,λb z=>absurd z (C b),o.Le,o.frf⟩,rfl,o.bare,Un.kept O,⟨_,x.toInCall.ns,λi y v J l h3=>?_⟩,λy c h=>⟨_,x.cell y c h⟩,o.Β.fresh (az _),λy c h=>?_,λp F=>absurd (show p∈([]:f5)from F) (by simp),o.Β.kept O,?_⟩
 .exact name_of_addr x.apart (dX J) (dX l)
 .have hy:d.names.lookup y=some .cell\/d.names.lookup y=some .free:=hy;rcases hy with hy|hy
  .exact BR hy
  .exact absurd rfl (S.afE _ (dX hy))
 .exact jG (x.above y c (dX h))
 .have G:i<t.length:=by
   unfold start at l;by_cases G:i<t.length
   .exact G
   .rw[dE (by simpa using G)]at l;rw[fX]at l;split at l<;>cases l
  have U:t[i]?=some v:=by
   unfold start at l;rw[dH (by simpa using G),aJ]at l;cases e:t[i]? with
   | none=>rw[e]at l;cases l
   | some a=>rw[e]at l;cases l;rfl
  obtain⟨u,R,Y⟩:=r.get U;have F:B[i]?=some y:=by
   rw[<-S.pre,jf (by lia)];exact J
  have D:B.Nodup:=by rw[<-S.pre];exact S.nd.sublist (lV _ _)
  refine⟨u,Y,?_⟩;rcases S.par y (aO F)with k|k
  .exact .inl ⟨k,Fv D F R k⟩
  .obtain⟨c,e⟩:=BR (n:=s.heap.objs.size+1) k;refine .inr ⟨.inl k,c,e,?_⟩;have q:=x.cell y c e;rw[Fy D F R (by show d.names.lookup y≠_;rw[k];decide)]at q;exact q
 .exact o.Β.fresh (jG (x.above y c (dX h)))
 .unfold start;show _=N.length;rw[aX,ah,cC]
  lia
theorem Uy{L:CXT}{P:Program}{w:World}{K:f3}{O:gx}{base:Heap}{k:Nat}{f:Addr}{m d:Str}{g:Arguments}{h:List Stmt}{a:Scope}{dV kV G pm p ct oc:Value}{an od:Option Addr}{ac:Array (Option Value)}{N M:gy}{X:Sp}(lk:K.lookup f=some ⟨oc,od,.func (PySem.W.fnOf m d g h a dV kV G pm an p ct),ac⟩)(ab:PySem.W.codeIn K p d=true)(S:ζ N M a)(F:∀i H Q E,X i H Q E->i.length=M.length)(ad:∀(A:Around) (c:List Env) (s:Shared) (H:Hp) (i:List V) (Q:VK) (E:XK),ϊ k (A.deeper (envOfC d a s.heap.objs.size f p))->X i H Q E->∃t,PSs (t7 L P w K O base N d a f p A c s H E) h t/\t { nx:=λ_ l=>Q .ο l,rt:=Q } (start N i) H):Ψ P w K O base L (k+1) f (PySem.W.fnOf m d g h a dV kV G pm an p ct) M X:=by
 refine⟨F,λA c s H ar us i Q E Y C hb r D=>?_⟩;have hl:=F _ _ _ _ D;have KX:K.In s.heap:=C.mod.kin.keeps λb o e=>(C.bs b o e).1;have U:s.heap.NoLimit:=C.mod.nolimit.keeps λb o e=>(C.bs b o e).1;have T:∀y∈M.zip us,a.names.lookup y.1=some .local\/(a.names.lookup y.1=some .cell/\((cellsFrom (s.heap.objs.size+1) a.names []).lookup y.1).isSome=true):=λ⟨n,v⟩ hy=>by
  rcases S.par n (iI hy).1 with q|q
  .exact .inl q
  .exact .inr ⟨q,mS _ _ _ (.inl q)⟩
 refine codeAny_call_function Y.depth (KX _ _ lk) rfl S.co S.gen rfl (PySem.W.codeRec_of KX ab) (hb _ _ _ _ ?_);refine wpAny_newFunctionEnv_cells S.kind T λa1 he s1 x=>?_;subst he;refine⟨U.keeps x.toInCall.keep,codeAny_func ?_⟩;obtain⟨t,ht,hq⟩:=ad A c s H i Q E (Y.deeper _) D;have I:Inv (t7 L P w K O base N d a f p A c s H E) [] (start N i) H s1:=Pz S Y.hd C hl r x;refine eB (ht [] s1 (start N i) H _ I hq) (λfl R z=>?_) λe R z=>z;have B:∀{j:St}{l:Hp}{v:V}{u:Value},Inv (t7 L P w K O base N d a f p A c s H E) [] j l R->RelV v u->Q v l->CE c P w H s Q u R:=λ{j l v u} J Z q=>⟨v,l,J.os,J.bare,J.base,J.Β,Z,q⟩
 cases fl with
 | ret u=>
   obtain⟨v,j,l,J,Z,q⟩:=z;exact B J Z q
 | next=>
   obtain⟨j,l,J,q⟩:=z;exact B (v:=V.ο) (u:=Value.none) J rfl q
 | brk=>
   obtain⟨_,_,_,q⟩:=z;exact False.elim q
 | cont=>
   obtain⟨_,_,_,q⟩:=z;exact False.elim q
section
variable{X:Cx}{x:Str}{p a:Pos}{e:Expr}{b:List Expr}{t:TA}{c T:String}{r:List V->Hp->VK->Prop}
def tCB(r:List V->Hp->VK->Prop)(t:TA):TE:=λf H Q=>t f H λg d=>r g d Q
theorem QO(l:oC X (.builtin c) r)(y:Gl X x)(j:X.mg x=none)(n:bootBuiltins x=some (.builtin c))(q:PA X (e::b) t)(z:x≠"__name__":=by decide)(f:(x==("__debug__":Str))=false:=by decide)(v:starEach (e::b) X.env=(false,eval e X.env)::starEach b X.env:=by rfl)(m:(backTo a (starEach b X.env)).any (·.1)=false:=by rfl):PE X (.Call (.Name x p) (e::b) [] a) (tCB r t):=by
 intro d s g H Q I h;refine je (rD I y j n ?_ z f);exact PyProof.Rows.callWith_builtin1 (vN (q a d s g H _ I h) λi k o B A w u=>l d k g B o i Q A w u) v m
theorem Fq(l:oC X (.type T) r)(y:Gl X x)(j:X.mg x=none)(n:bootBuiltins x=some (.type T))(q:PA X (e::b) t)(z:x≠"__name__":=by decide)(f:(x==("__debug__":Str))=false:=by decide)(v:starEach (e::b) X.env=(false,eval e X.env)::starEach b X.env:=by rfl)(m:(backTo a (starEach b X.env)).any (·.1)=false:=by rfl):PE X (.Call (.Name x p) (e::b) [] a) (tCB r t):=by
 intro d s g H Q I h;refine je (rD I y j n ?_ z f);exact c7 (vN (q a d s g H _ I h) λi k o B A w u=>l d k g B o i Q A w u) v m
end
end L2
namespace HT
open PySem PyProof.Rows
section
variable{a:Program}{w:World}{A:Around}{E:fz}{s:Shared}
def sIx(n d:Nat):Option Int->Nat
 | none=>d
 | some v=>if v<0 then(v+(n:Int)).toNat else min v.toNat n
end
end HT
namespace L2
open PySem PySem.Spec PyProof.Rows
abbrev TO:=St->Hp->(Option Int->Hp->Prop)->Prop
def PO(X:Cx)(e:Option Expr)(t:TO):Prop:=∀(a:f5)(s:Shared)(b:St)(H:Hp)(Q:Option Int->Hp->Prop),Inv X a b H s->t b H Q->wpAny (model X.prog X.w) X.A (evalPart e X.env) (λu d=>∃o c,Inv X a b c d/\IsPart u o/\Q o c) X.xe s
def acG:TO:=λ_ H Q=>Q none H
def Ux(t:TE):TO:=λa H Q=>t a H λx b=>∃i,x=.int i/\Q (some i) b
section
variable{X:Cx}{e:Expr}{d:TE}{a c:Option Expr}{g f:TO}{j k:Pos}
theorem Vr:PO X none acG:=by
 intro b s i H Q I h;rw[evalPart_none];exact bi ⟨none,H,I,.none,h⟩
theorem U1(h:PE X e d):PO X (some e) (Ux d):=by
 intro b s n H Q I o;rw[evalPart_some];refine eJ (h b s n H _ I o) λu v x r p m l=>?_;obtain⟨i,rfl,q⟩:=l;obtain⟨t,rfl⟩:=m;exact⟨some i,r,p,.int i t,q⟩
def SlR(X:Cx)(r:V->Option Int->Option Int->Hp->VK->Prop):Prop:=∀(b:f5)(s:Shared)(l:St)(H:Hp)(x:V)(v m i:Value)(a c:Option Int)(h:Addr)(Q:VK),Inv X b l H s->RelV x v->s.heap.IsSliceOf h m i .none->IsPart m a->IsPart i c->r x a c H Q->∃T id,typeLookup (.type T) "__getitem__"=pure (some (.builtin id))/\s.TypeIs v T/\wpAny (model X.prog X.w) X.A (getItem v (.ref h)) (EP X b l Q) X.xe s
def tSl(r:V->Option Int->Option Int->Hp->VK->Prop)(d:TE)(g f:TO):TE:=λb H Q=>d b H λx m=>g b m λl h=>f b h λu i=>r x l u i Q
theorem Sl{r:V->Option Int->Option Int->Hp->VK->Prop}(K:SlR X r)(O:PE X e d)(E:PO X a g)(J:PO X c f):PE X (.Subscript e (.Slice a c none k) j) (tSl r d g f):=by
 intro i s n H Q I h;refine Subscript_ (eJ (O i s n H _ I h) λv z x Z W R M=>?_);refine wpAny_Slice (ϔ (E i z n Z _ W M) λo C ⟨l,Y,N,y,L⟩=>ϔ (J i C n Y _ N L) λp m ⟨u,t,F,D,B⟩=>?_);rw[evalPart_none];refine bi ?_;have U:Inv X i n t { m with heap:=m.heap.push { cls:=.type "slice",data:=.fields #[o,p,.none] } }:=F.kept (t':=m.toks) λb ob q=>aF _ q;obtain⟨T,id,G,P,S⟩:=K i { m with heap:=m.heap.push { cls:=.type "slice",data:=.fields #[o,p,.none] } } n t x v o p l u m.heap.objs.size Q U R (Heap.IsSliceOf.new ..) y D B;show wpAny (model X.prog X.w) X.A (subscriptTail e (.Slice a c none k) v (.ref m.heap.objs.size)) (EP X i n Q) X.xe { m with heap:=m.heap.push { cls:=.type "slice",data:=.fields #[o,p,.none] } };exact tail_any (ops:=[.ref m.heap.objs.size,v]) P G S (by with_unfolding_all rfl)
def yX(b:List V)(a c:Option Int):List V:=(b.drop (HT.sIx b.length 0 a)).take (HT.sIx b.length b.length c-HT.sIx b.length 0 a)
theorem Kz(b:List V)(a c:Option Int):(yX b a c).length<=b.length:=by
 unfold yX;rw[bE,gA]
 lia
end
def ixN(n:Nat)(i:Int):Option Nat:=if 0<=i then(if i<n then some i.toNat else none)else if -(n:Int)<=i then some (i+n).toNat else none
def Ϧ{b:Type}(a:List b)(i:Int):Option b:=(ixN a.length i).bind λj=>a[j]?
theorem L5{n:Nat}{i:Int}{j:Nat}(h:ixN n i=some j):seqIndex? i n=some j/\j<n/\-(n:Int)<=i/\i<n:=by
 unfold ixN at h;by_cases b:0<=i
 .rw[aj b]at h;by_cases a:i<n
  .rw[aj a]at h;have e:i.toNat=j:=bu h;exact⟨by rw[seqIndex_of b a,e],by lia,by lia,a⟩
  .rw[ag a]at h;cases h
 .rw[ag b]at h;by_cases a:-(n:Int)<=i
  .rw[aj a]at h;have e:(i+n).toNat=j:=bu h;exact⟨by rw[seqIndex_neg (by lia) a,e],by lia,a,by lia⟩
  .rw[ag a]at h;cases h
theorem Ep{b:Type}{a:List b}{i:Int}{v:b}(h:Ϧ a i=some v):∃j,seqIndex? i a.length=some j/\a[j]?=some v/\j<a.length/\-(a.length:Int)<=i/\i<a.length:=by
 unfold Ϧ at h;cases e:ixN a.length i with
 | none=>rw[e]at h;cases h
 | some j=>
   rw[e]at h;obtain⟨d,c,g,f⟩:=L5 e;exact⟨j,d,h,c,g,f⟩
theorem LV{b:Type}{a:List b}{j:Nat}{v:b}(h:a[j]?=some v):Ϧ a (j:Int)=some v:=by
 have c:j<a.length:=(aD.mp h).1;have e:ixN a.length (j:Int)=some j:=by
  unfold ixN;rw[aj (by lia),aj (by lia)];simp
 unfold Ϧ;rw[e];exact h
def Mj(b:Expr):Prop:=∀o i,subscripted b false o i=operate [o,i] (getItem o i)
def IxR(X:Cx)(r:R2):Prop:=∀(c a:Expr)(b:f5)(s:Shared)(d:St)(H:Hp)(x y:V)(v u:Value)(Q:VK),Inv X b d H s->RelV x v->RelV y u->r x y H Q->subscripted a false v u=operate [v,u] (getItem v u)->wpAny (model X.prog X.w) X.A (subscriptTail c a v u) (EP X b d Q) X.xe s
def MtR(X:Cx)(id:String)(r:V->List V->Hp->VK->Prop):Prop:=∀(a:f5)(s:Shared)(c:St)(H:Hp)(x:V)(d:List V)(v:Value)(b:gg)(Q:VK),Inv X a c H s->RelV x v->Vals d b->r x d H Q->wpAny (model X.prog X.w) X.A (call (.builtin id) (v::b)) (EP X a c Q) X.xe s
section
variable{X:Cx}{a b:Expr}{E F:TE}{D:Pos}
theorem oH{r:R2}(g:IxR X r)(f:PE X a E)(j:PE X b F)(l:Mj b):PE X (.Subscript a b D) (tOp r E F):=by
 intro c s n H Q I h;exact Subscript_ (Td f j I h λv u d x y m i e k q=>g a b c d n m x y v u Q i e k q (l _ _))
def GO(K:f3):R2:=λx y H Q=>∃p c i v,x=.ref p/\y=.int i/\ν K H p c/\Ϧ c i=some v/\Q v H
def MC(K:f3):R2:=λx y H Q=>∃p c i v,x=.ref p/\y=.int i/\Ξ K H p c/\Ϧ c i=some v/\Q v H
theorem bX:IxR X (GO X.K):=by
 intro m l c s B H x y v u Q I J N h o;obtain⟨p,S,i,z,rfl,rfl,R,M,q⟩:=h;cases J;obtain⟨t,rfl⟩:=N;obtain⟨k,r,f,T⟩:=I.list R;obtain⟨j,e,O,V,P,L⟩:=Ep M;obtain⟨w,A,g⟩:=r.get O;have G:=r.length;have U:=u5;have d:EP X c B Q w s:=⟨z,H,I,g,q⟩;by_cases n:0<=i
 .have hj:i.toNat=j:=by
   rw[seqIndex_of n L]at e;exact bu e
  exact item_listR f.isList n (by lia) (by rw[hj];simpa using A) d o
 .have hj:(i+(k.toArray.size:Int)).toNat=j:=by
   rw[seqIndex_neg (by lia) P]at e;rw[aY,<-G];exact bu e
  exact subscriptTail_builtinR (x:=w) f.isList.typeIs slot_list_getitem.lookup
   (wpAny_getItem_list_neg (Q:=λr C=>r=w/\EP X c B Q r C) f.isList (by lia) (by rw[aY]<;>lia) (by lia) (by rw[hj];simpa using A) ⟨rfl,d⟩) o
theorem lW:IxR X (MC X.K):=by
 intro g f c s l H x y v u Q I o G h J;obtain⟨p,P,i,z,rfl,rfl,N,C,q⟩:=h;cases o;obtain⟨t,rfl⟩:=G;obtain⟨A,r,k,R⟩:=I.tuple N;obtain⟨j,B,L,U,T,O⟩:=Ep C;obtain⟨w,M,e⟩:=r.get L;have n:=r.length;have S:=u5;have d:EP X c l Q w s:=⟨z,H,I,e,q⟩;exact subscriptTail_builtinR (x:=w) k.typeIs slot_tuple_getitem.lookup
  (getItem_tuple (j:=j) (Q:=λr m=>r=w/\EP X c l Q r m) k (by lia) (by lia) (by rw[aY,<-n];exact B) (by simpa using M) ⟨rfl,d⟩) J
theorem Nr(c:gg)(n j:Nat)(u:Value):Obj.mapSeq (·.setIfInBounds j u) { cls:=.type "list",data:=.seq c.toArray n }={ cls:=.type "list",data:=.seq (c.set j u).toArray n }:=by
 simp[Obj.mapSeq]
theorem Inv.lst{d:f5}{g:St}{H:Hp}{s:Shared}{p:Addr}{f:List V}(I:Inv X d g H s)(h:H p=some (.lst f)):∃(c:gg)(n:Nat),Vals f c/\s.heap.get? p=some { cls:=.type "list",data:=.seq c.toArray n }/\f.length<=sizeLine:=by
 obtain⟨z,c,n,r,e⟩:=I.Β p _ h;exact⟨c,n,r,e,z⟩
theorem Inv.afF{d:f5}{l:St}{H:Hp}{s:Shared}{p:Addr}{m j:List V}{g c:gg}{n i:Nat}{f:Obj->Obj}(I:Inv X d l H s)(h:H p=some (.lst m))(o:s.heap.get? p=some { cls:=.type "list",data:=.seq g.toArray n })(k:f { cls:=.type "list",data:=.seq g.toArray n }={ cls:=.type "list",data:=.seq c.toArray i })(r:Vals j c)(v:j.length<=sizeLine)(t:Nat):Inv X d l (upd H p (.lst j)) { s with heap:=s.heap.update p f,toks:=t }:=by
 have e:(s.heap.update p f).get? p=some { cls:=.type "list",data:=.seq c.toArray i }:=by
  rw[fI f o (by rw[k]<;>rfl),k]
 refine I.write (x:=p) (e:=p) (by rw[h];trivial) (.inl rfl) (λb u w q=>(dJ _ _ (Ne.symm w)).trans q) ⟨_,e⟩ ?_;exact⟨v,c,i,r,e⟩
def adK:V->V->V->Hp->(Hp->Prop)->Prop:=λo i v H Q=>∃p c k j,o=.ref p/\i=.int k/\H p=some (.lst c)/\ixN c.length k=some j/\Q (upd H p (.lst (c.set j v)))
theorem iR:TB X adK:=by
 intro c s K H o i v N L u Q I J z B h;obtain⟨p,A,k,j,rfl,rfl,w,C,q⟩:=h;cases J;obtain⟨t,rfl⟩:=z;obtain⟨d,n,r,g,G⟩:=I.lst w;obtain⟨e,O,y,x⟩:=L5 C;have f:=r.length;have M:=u5;have m:Inv X c K (upd H p (.lst (A.set j v))) { s with heap:=s.heap.update p (Obj.mapSeq (·.setIfInBounds j u)) }:=I.afF w g (Nr d n j u) (r.set B j) (by rw[b4];exact G) s.toks
 by_cases l:0<=k
 .have hk:k.toNat=j:=by
   rw[seqIndex_of l x]at e;exact bu e
  exact PySem.W.ki_setAt g l (by lia) (by rw[aY,<-f];exact x) (by rw[hk];exact⟨_,m,q⟩)
 .have hk:(k+(d.toArray.size:Int)).toNat=j:=by
   rw[seqIndex_neg (by lia) y]at e;rw[aY,<-f];exact bu e
  exact PySem.W.ki_setBack g (by lia) (by rw[aY,<-f];exact y) (by lia) (by rw[hk];exact⟨_,m,q⟩)
theorem GU(lo c:Option Int)(n:Nat):(sliceBounds lo c none n).1=((HT.sIx n 0 lo:Nat):Int)/\(sliceBounds lo c none n).2.1=((HT.sIx n n c:Nat):Int)/\(sliceBounds lo c none n).2.2=1:=by
 refine⟨?_,?_,rfl⟩
 .cases lo with
  | none=>simp[sliceBounds,HT.sIx]
  | some i=>
    simp only[sliceBounds,HT.sIx,Option.getD_none,show(1:Int)>0 by decide,if_true];by_cases h:i<0
    .simp only[h,if_true]<;>lia
    .simp only[h,if_false]<;>lia
 .cases c with
  | none=>simp[sliceBounds,HT.sIx]
  | some i=>
    simp only[sliceBounds,HT.sIx,Option.getD_none,show(1:Int)>0 by decide,if_true];by_cases h:i<0
    .simp only[h,if_true]<;>lia
    .simp only[h,if_false]<;>lia
theorem F4(c:gg)(lo d:Option Int):slicePick c.toArray lo d none=((c.drop (HT.sIx c.length 0 lo)).take (HT.sIx c.length c.length d-HT.sIx c.length 0 lo)).toArray:=by
 obtain⟨f,e,g⟩:=GU lo d c.toArray.size;unfold slicePick;rw[f,e,g];simp only[sliceRange_one,pick_run,aY]<;>rfl
def Xb(K:f3):V->Option Int->Option Int->Hp->VK->Prop:=λx lo d H Q=>∃a c,x=.ref a/\ν K H a c/\∀p,H p=none->Q (.ref p) (upd H p (.lst (yX c lo d)))
theorem Vm:SlR X (Xb X.K):=by
 intro f s z H x v t w lo e y Q I k n i j h;obtain⟨a,c,rfl,p,q⟩:=h;cases k;obtain⟨l,r,g,m⟩:=I.list p;have d:=r.length;refine⟨"list",_,slot_list_getitem.lookup,g.isList.typeIs,?_⟩;refine wpAny_getItem_list_slice g.isList n i j .none (by simp) ?_ (by rw[aY]<;>lia);rw[F4,<-d];refine⟨.ref s.heap.objs.size,_,I.laid (t':=s.toks) (o:=.lst (yX c lo e)) (λb u q=>aF _ q) (az _) ?_,rfl,q _ (I.Β.fresh (az _))⟩;exact⟨aP (Kz c lo e) m,_,0,(r.drop (HT.sIx c.length 0 lo)).take (HT.sIx c.length c.length e-HT.sIx c.length 0 lo),bc _ rfl⟩
theorem m3:oC X (.builtin "len") (λf H Q=>∃p d,f=[.ref p]/\(ν X.K H p d\/Ξ X.K H p d)/\Q (.int d.length) H):=by
 intro e s k H f i Q I r h;obtain⟨p,d,rfl,hq,q⟩:=h;obtain⟨u,rfl,g⟩:=uu r;cases g;have j:=u5;rcases hq with hq|hq
 .obtain⟨its,r',pl,hz⟩:=I.list hq;have c:=r'.length;exact Calls.call_len_list pl.isList (by simp only[aY]<;>lia) ⟨.int d.length,H,I.tok _,⟨s.toks+1,by rw[aY,c]⟩,q⟩
 .obtain⟨its,r',pl,hz⟩:=I.tuple hq;have c:=r'.length;exact len_tuple pl (by simp only[aY]<;>lia) ⟨.int d.length,H,I.tok _,⟨s.toks+1,by rw[aY,c]⟩,q⟩
theorem oX:oC X (.type "list") (λB H Q=>∃p g,B=[.ref p]/\(ν X.K H p g\/Ξ X.K H p g)/\∀l,H l=none->Q (.ref l) (upd H l (.lst g))):=by
 intro k s G H B J Q I r h;obtain⟨p,g,rfl,hq,q⟩:=h;obtain⟨u,rfl,C⟩:=uu r;cases C;have j:∀(c:gg),Vals g c->g.length<=sizeLine->∀(d:Heap)(i:Nat),(∀b A,s.heap.get? b=some A->d.get? b=some A)->d.get? s.heap.objs.size=some { cls:=.type "list",dict:=none,data:=.seq c.toArray i,slots:=#[] }->EP X k G Q (.ref s.heap.objs.size) { s with heap:=d }:=λc f t d i v e=>
  ⟨.ref s.heap.objs.size,_,I.laid (t':=s.toks) v (az _) (show Ν X.prog X.w _ d _ (.lst g)from⟨t,c,i,f,e⟩),rfl,q _ (I.Β.fresh (az _))⟩
 rcases hq with hq|hq
 .obtain⟨c,f,pl,t⟩:=I.list hq;have m:=f.length;obtain⟨o,z,x,n,y⟩:=pl.isList;exact call_list_seq p (.inl rfl) z x y (λd i v e=>j c f t d i v e) (by simp only[aY]<;>lia)
 .obtain⟨c,f,pl,t⟩:=I.tuple hq;have m:=f.length;obtain⟨o,z,x,n,y⟩:=pl;exact call_list_seq p (.inr rfl) z x y (λd i v e=>j c f t d i v e) (by simp only[aY]<;>lia)
theorem kO:oC X (.type "tuple") (λg H Q=>∃p d,g=[.ref p]/\((ν X.K H p d/\∀l,H l=none->Q (.ref l) (upd H l (.tup d)))\/(Ξ X.K H p d/\Q (.ref p) H))):=by
 intro c s k H g v Q I r h;obtain⟨p,d,rfl,h⟩:=h;obtain⟨u,rfl,m⟩:=uu r;cases m;rcases h with⟨hq,q⟩|⟨hq,q⟩
 .obtain⟨its,r',pl,hz⟩:=I.list hq;have i:=r'.length;refine call_tuple_list pl.isList (λf t=>?_) (by simp only[aY]<;>lia);have j:Inv X c k H { s with heap:=f }:=I.kept (t':=s.toks) t;have n:Inv X c k (upd H f.objs.size (.tup d)) { s with heap:=f.push { cls:=.type "tuple",data:=.seq its.toArray } }:=j.laid (t':=s.toks) (λb o e=>aF _ e) (az _) (show Ν X.prog X.w _ _ _ (.tup d)from⟨hz,its,r',IsTup.new _ _⟩)
  exact⟨.ref f.objs.size,_,n,rfl,q _ (j.Β.fresh (az _))⟩
 .obtain⟨its,r',pl,hz⟩:=I.tuple hq;exact call_tuple_same pl ⟨.ref p,H,I,rfl,q⟩
def tyV(K:f3)(T:String)(x:V)(H:Hp):Prop:=match x with
 | .str _=>T="str"
 | .int _=>T="int"
 | .ref p=>(T="list"/\∃d,ν K H p d)\/(T="tuple"/\∃o,K.lookup p=some o/\o.cls=.type "tuple"/\o.dict=none)\/(T="dict"/\((∃c,H p=some (.dK c))\/∃c,H p=some (.dT c)))\/(T="set"/\∃S n,H p=some (.set S n))
 | _=>False
theorem Pr{f:f5}{l:St}{H:Hp}{s:Shared}{T:String}{x:V}{v:Value}(I:Inv X f l H s)(r:RelV x v)(g:tyV X.K T x H):s.TypeIs v T/\∀a,v=.ref a->∃k,s.heap.get? a=some k/\k.dict=none:=by
 cases x with
 | str z=>
   obtain⟨t,rfl⟩:=r;cases(show T="str" from g);exact⟨typeIs_str s z t,λ_ e=>nomatch e⟩
 | int i=>
   obtain⟨t,rfl⟩:=r;cases(show T="int" from g);exact⟨typeIs_int s i t,λ_ e=>nomatch e⟩
 | ref p=>
   cases r;rcases g with⟨rfl,xs,hq⟩|⟨rfl,o,hk,hc,h⟩|⟨rfl,hk⟩|⟨rfl,S,n,hk⟩
   .obtain⟨its,_,pl,_⟩:=I.list hq;refine⟨pl.isList.typeIs,λa e=>?_⟩;cases e;obtain⟨o,n,e,c,h,_⟩:=pl;exact⟨o,e,h⟩
   .refine⟨⟨o,I.kIn p o hk,hc⟩,λa e=>?_⟩;cases e;exact⟨o,I.kIn _ o hk,h⟩
   .have z:∃o,s.heap.get? p=some o/\o.ExactDict:=by
     rcases hk with⟨η,hk⟩|⟨η,hk⟩
     .obtain⟨_,_,_,_,o,_,_,e,d,_⟩:=I.Β p _ hk;exact⟨o,e,d⟩
     .obtain⟨_,_,_,_,o,_,_,e,d,_⟩:=I.Β p _ hk;exact⟨o,e,d⟩
    obtain⟨o,e,d⟩:=z;refine⟨⟨o,e,d.1⟩,λa j=>?_⟩;cases j;exact⟨o,e,d.2.1⟩
   .obtain⟨o,_,_,_,e,d,_⟩:=I.Β p _ hk;refine⟨⟨o,e,d.1⟩,λa j=>?_⟩;cases j;exact⟨o,e,d.2.1⟩
 | _=>exact False.elim g
def SO(K:f3)(T:String)(r:V->List V->Hp->VK->Prop)(B:TE):TE:=λd H Q=>B d H λx c=>tyV K T x c/\r x [] c Q
def tBM(K:f3)(T:String)(r:V->List V->Hp->VK->Prop)(B:TE)(t:TA):TE:=λc H Q=>B c H λx d=>tyV K T x d/\t c d λf e=>r x f e Q
variable{o e:Expr}{A:List Expr}{B:TE}{t:TA}{d:Str}{g m:Pos}{T C:String}{r:V->List V->Hp->VK->Prop}
theorem Jp(G:PlainAttrs T)(i:Slot T d C)(j:typeOf (.builtin C)=pure (.type "method_descriptor"))(q:MtR X C r)(y:PE X o B)(k:attributeBase o d X.env (eval o X.env)=eval o X.env:=by rfl)(f:(g.endLine==m.line)=true:=by rfl):PE X (.Call (.Attribute o d g) [] [] m) (SO X.K T r B):=by
 intro c s p H Q I h;refine wpAny_Call_method0_late k f (eJ (y c s p H _ I h) λv u x M n l ⟨L,w⟩=>?_);obtain⟨z,J⟩:=Pr n l L;exact⟨T,C,G,i,j,z,J,Calls.callWith_builtin rfl (PySem.evalArgs_none (q c u p M x [] v [] Q n l .nil w))⟩
theorem nN(V:PlainAttrs T)(i:Slot T d C)(j:typeOf (.builtin C)=pure (.type "method_descriptor"))(z:MtR X C r)(R:PE X o B)(M:PA X (e::A) t)(l:attributeBase o d X.env (eval o X.env)=eval o X.env:=by rfl)(k:((backTo m (starEach (e::A) X.env)).all (λx=>!x.1)&&(backToKw m (keywordEach [] X.env)).all (λx=>x.1.isSome)
 && decide ((e::A).length+([]:List Keyword).length+(if([]:List Keyword).isEmpty then 0 else 1)<30))=true:=by rfl)(f:(g.endLine==m.line)=true:=by rfl)(W:starEach (e::A) X.env=(false,eval e X.env)::starEach A X.env:=by rfl)(n:(backTo m (starEach A X.env)).any (·.1)=false:=by rfl):PE X (.Call (.Attribute o d g) (e::A) [] m) (tBM X.K T r B t):=by
 intro c s p H Q I h;refine wpAny_Call_method_late l k f rfl (eJ (R c s p H _ I h) λv G x H1 w u ⟨ty,O⟩=>?_);obtain⟨S,Y⟩:=Pr w u ty;refine⟨T,C,V,i,j,S,Y,?_⟩;have q:=M m c G p H1 _ w O;rw[W]at q ⊢;refine Calls.callWith_builtin (by show(false||(backTo m (starEach A X.env)).any (·.1))=false;rw[n]<;>rfl) (Calls.evalArgs_plain ?_);exact ϔ q λy J ⟨L,Z,P,U,N⟩=>z c J p Z x L v y Q P u U N
end
def MtM(X:Cx)(id:String)(r:V->List V->Hp->VK->Prop):Prop:=∀(a:f5)(s:Shared)(c:St)(H:Hp)(x:V)(d:List V)(v:Value)(b:gg)(Q:VK),Inv X a c H s->RelV x v->Vals d b->r x d H Q->wpAny (model X.prog X.w) X.A (call (.builtin id) (v::b)) (EP X a c Q) X.xe s
theorem Vals.one{x:V}{a:gg}(h:Vals [x] a):∃u,a=[u]/\RelV x u:=by
 cases h with
 | cons r t=>cases t;exact⟨_,rfl,r⟩
theorem Vals.two{x y:V}{a:gg}(h:Vals [x,y] a):∃u v,a=[u,v]/\RelV x u/\RelV y v:=by
 cases h with
 | cons r t=>
   obtain⟨v,e,q⟩:=Vals.one t;subst e;exact⟨_,v,rfl,r,q⟩
theorem Vals.zero:∀{a:gg},Vals [] a->a=[]
 | _,.nil=>rfl
theorem Vals.dropLast{a:List V}{b:gg}(h:Vals a b):Vals a.dropLast b.dropLast:=by
 induction h with
 | nil=>exact .nil
 | cons r t ih=>
   cases t with
   | nil=>exact .nil
   | cons q t'=>exact .cons r ih
theorem Vals.reverse{a:List V}{b:gg}(h:Vals a b):Vals a.reverse b.reverse:=by
 induction h with
 | nil=>exact .nil
 | cons r t ih=>rw[eI,eI];exact Vals.append ih (.cons r .nil)
theorem Vals.rep{a:List V}{b:gg}(h:Vals a b):∀k:Nat,Vals (List.replicate k a).flatten (List.replicate k b).flatten
 | 0=>.nil
 | k+1=>by
   rw[cN,cN,fN,fN];exact Vals.append h (Vals.rep h k)
theorem Ou{c:Type}(l:List c):l.eraseIdx (l.length-1)=l.dropLast:=by
 induction l with
 | nil=>rfl
 | cons a r ih=>
   cases r with
   | nil=>rfl
   | cons b r=>
     have e:(a::b::r).length-1=((b::r).length-1)+1:=by
      have f:(a::b::r).length=r.length+2:=rfl;have d:(b::r).length=r.length+1:=rfl
      lia
     rw[e,List.eraseIdx_cons_succ,ih]
     all_goals rfl
theorem FR(b:gg):∀(k:Nat)(a:gg),List.foldl (λc d=>c++d) a.toArray (List.replicate k b.toArray)=(a++(List.replicate k b).flatten).toArray
 | 0,a=>by simp
 | k+1,a=>by
   have e:a.toArray++b.toArray=(a++b).toArray:=by simp
   have f:(a++b)++(List.replicate k b).flatten=a++(List.replicate (k+1) b).flatten:=by
    rw[cN,fN,cU]
   rw[<-f,<-FR b k (a++b),<-e,cN,g0]
section
variable{X:Cx}{a:f5}{c:St}{H:Hp}{s:Shared}{l b:Addr}{g d i:List V}
theorem Inv.afI{h its':gg}{n:Nat}{f:Array Value->Array Value}{t:Nat}(I:Inv X a c H s)(j:H l=some (.lst g))(e:s.heap.get? l=some { cls:=.type "list",data:=.seq h.toArray n })(k:f h.toArray=its'.toArray)(p:Vals d its')(m:d.length<=sizeLine):Inv X a c (upd H l (.lst d)) { s with heap:=s.heap.update l (Obj.mapSeq f),toks:=t }:=by
 have q:=PySem.IsL.update e f;rw[k]at q;refine I.write (x:=l) (e:=l) (by rw[j];exact trivial) (.inl rfl) (λv u r o=>(dJ s.heap (Obj.mapSeq f) (Ne.symm r)).trans o) ⟨_,q⟩ ?_;exact⟨m,its',_,p,q⟩
theorem Inv.alR{e:gg}{t':Nat}(I:Inv X a c H s)(h:Vals d e)(f:d.length<=sizeLine):Inv X a c (upd H s.heap.objs.size (.lst d)) { s with heap:=s.heap.push { cls:=.type "list",data:=.seq e.toArray },toks:=t' }:=I.laid (λ_ _ q=>aF _ q) (az _) ⟨f,e,0,h,bc _ rfl⟩
theorem Inv.fresh(I:Inv X a c H s):H s.heap.objs.size=none:=I.Β.fresh (az _)
theorem Inv.aev(I:Inv X a c H s)(h:H l=some (.lst g)):g.length<=sizeLine/\∃(f:gg)(n:Nat),Vals g f/\g.length=f.length/\s.heap.get? l=some { cls:=.type "list",data:=.seq f.toArray n }:=by
 obtain⟨z,f,n,r,e⟩:=I.Β l _ h;exact⟨z,f,n,r,r.length,e⟩
theorem Rm{n:Nat}(h:n<=sizeLine):Builtin.List.listTooLong n=false:=by
 unfold Builtin.List.listTooLong;exact b8 (by lia)
end
section
variable{X:Cx}
def iS:V->List V->Hp->VK->Prop:=λx b H Q=>∃l a y,x=.ref l/\b=[y]/\H l=some (.lst a)/\a.length<sizeLine/\Q .ο (upd H l (.lst (a++[y])))
theorem ic:MtM X "list.append" iS:=by
 intro b s p H x j v i Q I f g h;obtain⟨l,m,y,rfl,rfl,c,o,q⟩:=h;cases f;obtain⟨u,rfl,d⟩:=g.one;obtain⟨z,a,n,r,k,e⟩:=I.aev c;refine call_meets F.slot_list_append ⟨_,e,rfl⟩ F.entry_list_append (F.args_list_append_2 _ _) (PySem.list_append l a.toArray n u (by rw[aY];lia)) ⟨e,?_⟩;refine⟨.ο,_,I.afI (its':=a++[u]) c e (by simp) (r.append (.cons d .nil)) ?_,rfl,q⟩;rw[aX,List.length_singleton]
 lia
def ahq:V->List V->Hp->VK->Prop:=λx b H Q=>∃l a y,x=.ref l/\b=[]/\H l=some (.lst a)/\a[a.length-1]?=some y/\Q y (upd H l (.lst a.dropLast))
theorem IV:MtM X "list.pop" ahq:=by
 intro d s A H x t v p Q I j m h;obtain⟨l,w,y,rfl,rfl,f,o,q⟩:=h;cases j;have c:=m.zero;subst c;obtain⟨z,a,n,r,i,e⟩:=I.aev f;obtain⟨u,k,g⟩:=r.get o;have b:a.toArray[a.toArray.size-1]?=some u:=by
  show a.toArray[a.length-1]?=some u;rw[<-Array.getElem?_toList,<-i];exact k
 refine call_meets F.slot_list_pop ⟨_,e,rfl⟩ F.entry_list_pop (F.args_list_pop_1 _) (MeetsSeq.list_pop_last l a.toArray n u b (by rw[aY];lia)) ⟨e,?_⟩;refine⟨y,_,I.afI (its':=a.dropLast) f e ?_ r.dropLast ?_,g,q⟩
 .show a.toArray.eraseIdxIfInBounds (a.toArray.size-1)=a.dropLast.toArray;rw[aY,List.eraseIdxIfInBounds_toArray,Ou]
 .rw[List.length_dropLast]
  lia
def alS:R2:=λx y H Q=>∃l k a,x=.ref l/\y=.int k/\H l=some (.lst a)/\-(2^63)<=k/\k<2^63/\a.length*k.toNat<=sizeLine/\∀p,H p=none->Q (.ref p) (upd H p (.lst (List.replicate k.toNat a).flatten))
theorem VR{b:Type}(a:List b)(k:Nat):(List.replicate k a).flatten.length=k*a.length:=by
 induction k with
 | zero=>simp
 | succ k ih=>rw[cN,fN,aX,ih,Nat.succ_mul,Nat.add_comm]
theorem qf:Rw X (binaryOp .Mult) alS:=by
 intro p s M H x y v u Q I D G h;obtain⟨l,k,L,rfl,rfl,J,E,K,w,q⟩:=h;cases D;obtain⟨t,rfl⟩:=G;obtain⟨z,b,n,r,C,e⟩:=I.aev J;have c:b.toArray.size*k.toNat<=sizeLine:=by rw[aY,<-C];exact w
 have g:¬b.toArray.size*k.toNat>(2^63-1)/8:=by
  have:(sizeLine:Nat)<=(2^63-1)/8:=by decide
  lia
 have d:¬(!Builtin.List.listFitsIndex k)=true:=by
  rw[fitsIndex_both E K];exact bD
 have j:¬Builtin.List.listTooLong (b.toArray.size*k.toNat)=true:=by
  rw[Rm c];exact bD
 have o:List.foldl (λf i=>f++i) #[] (List.replicate (if b.toArray.isEmpty=true then 0 else k.toNat) b.toArray)=(List.replicate k.toNat b).flatten.toArray:=by
  have B:∀m:Nat,List.foldl (λf i=>f++i) #[] (List.replicate m b.toArray)=(List.replicate m b).flatten.toArray:=λm=>by
   have:=FR b m [];rw[iJ]at this;exact this
  rw[B];cases b with
  | nil=>simp
  | cons a r'=>rw[ag (by simp)]
 refine wpAny_binaryOp_repeat_ref (T:="list") (U:="int") (by decide) ⟨_,e,rfl⟩ (λA=>typeIs_int A k t) noFill_list_mul F.fills_int_mul F.slot_int_rmul repeat_list F.slot_int_index.lookup
  (call_meets F.slot_int_rmul (typeIs_int s k t) F.entry_int_rmul (F.args_int_rmul_2 _ _) (int___rmul___int_list k t l b.toArray n)
   ⟨e,rfl,⟨_,e,rfl⟩,call_meets F.slot_list_mul ⟨_,e,rfl⟩ F.entry_list_mul (F.args_list_mul_2 _ _) (AutoListH.list___mul___list_int_3 l b.toArray n k t d g j) ⟨e,?_⟩⟩)
 rw[o];exact⟨.ref _,_,I.alR (t':=s.toks) (r.rep k.toNat) (by rw[VR,jI];exact w),rfl,q _ I.fresh⟩
end
section
variable{a:Program}{w:World}{A:Around}{E:fz}{s:Shared}
set_option maxRecDepth 100000 in
end
section
variable{c:Type}[DecidableEq c]
def gN(b:List (c×V))(k:c):Option V:=(b.find? λa=>decide (a.1=k)).map (·.2)
def jp(b:List (c×V))(k:c)(v:V):List (c×V):=if(b.any λa=>decide (a.1=k))=true then b.map (λa=>if a.1=k then(a.1,v)else a)else b++[(k,v)]
theorem jJ{p:c×V}{r:List (c×V)}{k:c}(e:p.1=k):gN (p::r) k=some p.2:=by simp[gN,gY,e]
theorem jK{p:c×V}{r:List (c×V)}{k:c}(e:¬p.1=k):gN (p::r) k=gN r k:=by simp[gN,gY,e]
theorem uL(k:c):∀a:List (c×V),(a.any λb=>decide (b.1=k))=(gN a k).isSome
 | []=>rfl
 | p::r=>by
   rw[oh];by_cases e:p.1=k
   .simp only[jJ e,bq e,Bool.true_or,Option.isSome_some]
   .rw[jK e,b8 e,oY];exact uL k r
theorem IC(k j:c)(y:V):∀d:List (c×V),gN (d.map λa=>if a.1=k then(a.1,y)else a) j=(gN d j).map λx=>if j=k then y else x
 | []=>rfl
 | p::r=>by
   have b:=IC k j y r;rw[aq];by_cases h:p.1=k
   .rw[aj h];by_cases e:p.1=j
    .rw[jJ (p:=(p.1,y)) e,jJ e,jR,aj (e.symm.trans h)]
    .rw[jK (p:=(p.1,y)) e,jK e,b]
   .rw[ag h];by_cases e:p.1=j
    .rw[jJ (p:=p) e,jJ e,jR,ag (λz=>h (e.trans z))]
    .rw[jK (p:=p) e,jK e,b]
theorem FP(k j:c)(y:V):∀a:List (c×V),gN a k=none->gN (a++[(k,y)]) j=if j=k then some y else gN a j
 | [],_=>by
   by_cases e:k=j
   .rw[aj e.symm];exact jJ (p:=(k,y)) e
   .rw[ag (λz=>e z.symm)];exact jK (p:=(k,y)) e
 | p::r,hn=>by
   rw[jX];have b:¬p.1=k:=λz=>by rw[jJ z]at hn;cases hn
   rw[jK b]at hn;have d:=FP k j y r hn;by_cases e:p.1=j
   .rw[jJ e,jJ e,ag (λz=>b (e.trans z))]
   .rw[jK e,jK e,d]
theorem BP(b:List (c×V))(k j:c)(y:V):gN (jp b k y) j=if j=k then some y else gN b j:=by
 unfold jp;by_cases a:(b.any λd=>decide (d.1=k))=true
 .rw[aj a,IC];rw[uL]at a;by_cases e:j=k
  .obtain⟨x,hx⟩:=fK.mp a;rw[aj e,e,hx,jR,aj rfl]
  .rw[ag e];cases gN b j with
   | none=>rfl
   | some x=>rw[jR,ag e]
 .rw[ag a];refine FP k j y b ?_;rw[uL]at a;cases q:gN b k with
  | none=>rfl
  | some x=>rw[q]at a;exact(a rfl).elim
theorem qh(a:List (c×V))(k:c)(v:V):(jp a k v).length<=a.length+1:=by
 unfold jp;split
 .rw[ah];lia
 .rw[aX,aR,ft];lia
theorem IX{a:List (c×V)}{k:c}(v:V)(h:gN a k=none):jp a k v=a++[(k,v)]:=by
 unfold jp;rw[uL,h];exact ag (by decide)
theorem BV.Ϡ{o:Option V}{u:Option Value}(r:BV o u):o.isSome=u.isSome:=by
 cases o with
 | none=>cases u with
   | none=>rfl
   | some _=>exact(show False from r).elim
 | some _=>cases u with
   | none=>exact(show False from r).elim
   | some _=>rfl
theorem KV.val{a:List (c×V)}{f:List (c×Value)}(r:KV a f)(k:c):BV (gN a k) (valueAt f k):=by
 unfold KV at r
 induction r with
 | nil=>exact True.intro
 | @cons p q ps qs h t ih=>
   obtain⟨d,g⟩:=h;by_cases e:p.1=k
   .have e':q.1=k:=d.symm.trans e;have b:valueAt (q::qs) k=some q.2:=(by simp[valueAt,gY,e']);rw[jJ e,b];exact g
   .have e':¬q.1=k:=λz=>e (d.trans z);have b:valueAt (q::qs) k=valueAt qs k:=(by simp[valueAt,gY,e']);rw[jK e,b];exact ih
theorem KV.any{b:List (c×V)}{d:List (c×Value)}(r:KV b d)(k:c):(b.any λa=>decide (a.1=k))=d.any λa=>decide (a.1=k):=by
 unfold KV at r
 induction r with
 | nil=>rfl
 | cons h t ih=>rw[oh,oh,ih,h.1]
theorem KV.repl{d:List (c×V)}{f:List (c×Value)}(r:KV d f)(k:c){y:V}{u:Value}(g:RelV y u):KV (d.map λa=>if a.1=k then(a.1,y)else a) (f.map λa=>if a.1=k then(a.1,u)else a):=by
 unfold KV at r ⊢
 induction r with
 | nil=>exact .nil
 | @cons p q ps qs h t ih=>
   rw[aq,aq];refine .cons ?_ ih;obtain⟨b,i⟩:=h;by_cases e:p.1=k
   .rw[aj e,aj (b.symm.trans e)];exact⟨b,g⟩
   .rw[ag e,ag (λz=>e (b.trans z))];exact⟨b,i⟩
theorem KV.put{d:List (c×V)}{a:List (c×Value)}(r:KV d a)(k:c){y:V}{u:Value}(b:RelV y u):KV (jp d k y) (stored a k u):=by
 unfold jp stored;rw[r.any k];by_cases e:(a.any λf=>decide (f.1=k))=true
 .rw[aj e,aj e];exact r.repl k b
 .rw[ag e,ag e];exact Paired.snoc r ⟨rfl,b⟩
theorem KV.length{b:List (c×V)}{a:List (c×Value)}(r:KV b a):b.length=a.length:=Paired.length r
end
theorem zO{P:Program}{w:World}{k:Key}{u:Value}(r:RelV (kV k) u):(iX P w).is k u=true:=by
 cases k with
 | inl i=>obtain⟨t,e⟩:=(show ∃t,u=Value.int i t from r);subst e;exact KS P w i t
 | inr x=>obtain⟨t,e⟩:=(show ∃t,u=Value.str x t from r);subst e;exact Kt P w x t
theorem FE{P:Program}{w:World}:∀{a:List Key}{b:gg},Vals (a.map kV) b->ItemsAre (iX P w) a b
 | [],_,r=>by rw[eP]at r;cases r;exact .nil
 | k::a,_,r=>by
   rw[aq]at r;cases r with
   | cons h t=>exact .cons (zO h) (FE t)
abbrev KT(H:Hp):List (List Key×V)->List (List Key×Addr×Value)->Prop:=Paired λp q=>p.1=q.1/\H q.2.1=some (.tup (p.1.map kV))/\RelV p.2 q.2.2
theorem KT.val{H:Hp}{c:List (List Key×V)}{d:List (List Key×Addr×Value)}(r:KT H c d)(k:List Key):BV (gN c k) ((atKey d k).map (·.2)):=by
 induction r with
 | nil=>exact True.intro
 | @cons p q ps qs h t ih=>
   obtain⟨a,_,f⟩:=h;by_cases e:p.1=k
   .have e':q.1=k:=a.symm.trans e;have b:atKey (q::qs) k=some q.2:=(by simp[atKey,gY,e']);rw[jJ e,b];exact f
   .have e':¬q.1=k:=λz=>e (a.trans z);have b:atKey (q::qs) k=atKey qs k:=(by simp[atKey,gY,e']);rw[jK e,b];exact ih
theorem KT.repl{H:Hp}{d:List (List Key×V)}{f:List (List Key×Addr×Value)}(r:KT H d f)(k:List Key){y:V}{u:Value}(g:RelV y u):KT H (d.map λb=>if b.1=k then(b.1,y)else b) (f.map (putAt k u)):=by
 induction r with
 | nil=>exact .nil
 | @cons p q ps qs h t ih=>
   rw[aq,aq];refine .cons ?_ ih;obtain⟨a,c,i⟩:=h;unfold putAt;by_cases e:p.1=k
   .rw[aj e,aj (a.symm.trans e)];exact⟨a,c,g⟩
   .rw[ag e,ag (λz=>e (a.trans z))];exact⟨a,c,i⟩
theorem KT.put{H:Hp}{c:List (List Key×V)}{a:List (List Key×Addr×Value)}(r:KT H c a)(k:List Key){b:Addr}{y:V}{u:Value}(g:H b=some (.tup (k.map kV)))(d:RelV y u):KT H (jp c k y) (storedH a k b u):=by
 have e:(c.any λf=>decide (f.1=k))=(atKey a k).isSome:=by
  rw[uL,(r.val k).Ϡ,hZ]
 unfold jp storedH;rw[e];by_cases q:(atKey a k).isSome=true
 .rw[aj q,aj q];exact r.repl k d
 .rw[ag q,ag q];exact Paired.snoc r ⟨rfl,g,d⟩
theorem KT.keeps{H a:Hp}{c:List (List Key×V)}{d:List (List Key×Addr×Value)}(r:KT H c d)(f:∀b e,H b=some (.tup e)->a b=some (.tup e)):KT a c d:=Paired.aep r λ_ _ z=>⟨z.1,f _ _ z.2.1,z.2.2⟩
section
variable{P:Program}{w:World}{H:Hp}{h:Heap}{a:Addr}
theorem UA{u:HO}(ok:ϭ P w H h)(e:Rd H a u):Ν P w H h a u:=e.ok ok
theorem Af{b:List (Key×V)}(d:ϭ P w H h)(e:Rd H a (.dK b)):b.length<=sizeLine/\(a==sysModules)=false/\∃c,KV b c/\h.DictOf (iX P w) a c:=show Ν P w H h a (.dK b)from UA d e
theorem GG{b:List (Key×V)}(d:ϭ P w H h)(e:H a=some (.dK b)):b.length<=sizeLine/\(a==sysModules)=false/\∃c,KV b c/\h.DictOf (iX P w) a c:=Af d (.inl e)
theorem yV{c:List Key}(d:ϭ P w H h)(e:H a=some (.tup (c.map kV))):(tupleKind (iX P w)).is h c a:=by
 obtain⟨_,b,r,o,g,f,n,i⟩:=(show Ν P w H h a (.tup (c.map kV))from d a _ e);exact⟨o,b.toArray,n,g,f,i,by simpa using FE r⟩
theorem Dj{b:List (List Key×V)}(f:ϭ P w H h)(e:Rd H a (.dT b)):b.length<=sizeLine/\(a==sysModules)=false/\∃c,KT H b c/\h.DictOfH (tupleKind (iX P w)) a c:=by
 obtain⟨z,y,c,r,o,i,k,j,n,u,s,g⟩:=(show Ν P w H h a (.dT b)from UA f e);refine⟨z,y,c,r,o,i,k,j,n,u,s,λx hx=>?_,g⟩;have d:∀{l:List (List Key×V)}{m:List (List Key×Addr×Value)},KT H l m->∀x∈m,(tupleKind (iX P w)).is h x.1 x.2.1:=by
  intro l m q
  induction q with
  | nil=>intro x hx;exact nomatch hx
  | @cons p q ps qs hq t ih=>
    intro x hx;rcases aw.mp hx with e|hx
    .subst e;exact yV f (by rw[<-hq.1];exact hq.2.1)
    .exact ih x hx
 exact d r x hx
theorem Zz{b:List (List Key×V)}(d:ϭ P w H h)(e:H a=some (.dT b)):b.length<=sizeLine/\(a==sysModules)=false/\∃c,KT H b c/\h.DictOfH (tupleKind (iX P w)) a c:=Dj d (.inl e)
end
def ϵ(H:Hp)(a:Addr)(y:V)(r:Option V):Prop:=(∃c k,Rd H a (.dK c)/\y=kV k/\r=gN c k)\/∃c k b,Rd H a (.dT c)/\y=.ref b/\H b=some (.tup (k.map kV))/\r=gN c k
def aaM(H:Hp)(a:Addr)(y v:V)(d:Hp):Prop:=(∃c k,H a=some (.dK c)/\y=kV k/\c.length<sizeLine/\d=upd H a (.dK (jp c k v)))\/∃c k b,H a=some (.dT c)/\y=.ref b/\H b=some (.tup (k.map kV))/\c.length<sizeLine/\d=upd H a (.dT (jp c k v))
theorem ϵ.k{H:Hp}{a:Addr}{b:List (Key×V)}{k:Key}(e:H a=some (.dK b)):ϵ H a (kV k) (gN b k):=.inl ⟨b,k,.inl e,rfl,rfl⟩
theorem ϵ.t{H:Hp}{a b:Addr}{c:List (List Key×V)}{k:List Key}(e:H a=some (.dT c))(d:H b=some (.tup (k.map kV))):ϵ H a (.ref b) (gN c k):=.inr ⟨c,k,b,.inl e,rfl,d,rfl⟩
theorem aaM.k{H:Hp}{a:Addr}{b:List (Key×V)}{k:Key}{v:V}(e:H a=some (.dK b))(c:b.length<sizeLine):aaM H a (kV k) v (upd H a (.dK (jp b k v))):=.inl ⟨b,k,e,rfl,c,rfl⟩
theorem aaM.t{H:Hp}{a b:Addr}{c:List (List Key×V)}{k:List Key}{v:V}(e:H a=some (.dT c))(f:H b=some (.tup (k.map kV)))(d:c.length<sizeLine):aaM H a (.ref b) v (upd H a (.dT (jp c k v))):=.inr ⟨c,k,b,e,rfl,f,d,rfl⟩
section
variable{X:Cx}{d:f5}{f:St}{H:Hp}{s:Shared}{a:Addr}{y v:V}{u r:Value}{o:Option V}{A:Around}{E:fz}
theorem Inv.big(I:Inv X d f H s):sysModules<s.heap.objs.size:=by
 have h:mainGlobals<s.heap.objs.size:=(I.mod.glob.keeps I.bk).lt;exact Nat.lt_trans (by decide) h
theorem QA{Q:fz}(C:A.units+1<cLine)(I:Inv X d f H s)(g:ϵ H a y (some v))(x:RelV y u)(h:∀j t,Inv X d f H t->RelV v j->Q j t):wpAny (model X.prog X.w) A (getItem (.ref a) u) Q E s:=by
 rcases g with⟨η,k,e,ey,l⟩|⟨η,k,b,e,ey,eb,l⟩
 .subst ey;obtain⟨z,F,B,i,n⟩:=Af I.Β e;obtain⟨j,q,c⟩:=BV.some_of (v:=v) (o:=valueAt B k) (by rw[l];exact i.val k);exact wpAny_getItem_of (zO x) n.mapOf q (h j _ (I.tok _) c)
 .subst ey;cases(show u=Value.ref b from x);obtain⟨z,F,D,i,n⟩:=Dj I.Β e;obtain⟨j,q,c⟩:=BV.some_of (v:=v) (o:=(atKey D k).map (·.2)) (by rw[l];exact i.val k);obtain⟨p,G,m⟩:=cV.mp q;refine wpAny_getItem_heap (tupleKind_room_in1 C) (yV I.Β eb) n G ?_;rw[m];exact h j _ (I.tok _) c
theorem aRa{Q:fz}(p:A.units+1<cLine)(I:Inv X d f H s)(g:ϵ H a y o)(m:RelV y u)(h:∀n,Inv X d f H n->Q (.bool o.isSome) n):wpAny (model X.prog X.w) A (compareOp .In u (.ref a)) Q E s:=by
 rcases g with⟨η,k,e,ey,l⟩|⟨η,k,b,e,ey,eb,l⟩
 .subst ey;obtain⟨z,j,x,c,i⟩:=Af I.Β e;refine wpAny_in_of (zO m) j i.mapOf ?_;rw[<-(c.val k).Ϡ,<-l];exact h _ (I.tok _)
 .subst ey;cases(show u=Value.ref b from m);obtain⟨z,j,t,c,i⟩:=Dj I.Β e;refine wpAny_in_heap (tupleKind_room_in1 p) (yV I.Β eb) j i ?_;have q:=(c.val k).Ϡ;rw[hZ]at q;rw[<-q,<-l];exact h _ (I.tok _)
theorem UX{Q:fz}(p:A.units+1<cLine)(I:Inv X d f H s)(g:ϵ H a y o)(m:RelV y u)(h:∀n,Inv X d f H n->Q (.bool (!o.isSome)) n):wpAny (model X.prog X.w) A (compareOp .NotIn u (.ref a)) Q E s:=by
 rcases g with⟨η,k,e,ey,l⟩|⟨η,k,b,e,ey,eb,l⟩
 .subst ey;obtain⟨z,j,x,c,i⟩:=Af I.Β e;refine wpAny_notIn_of (zO m) j i.mapOf ?_;rw[<-(c.val k).Ϡ,<-l];exact h _ (I.tok _)
 .subst ey;cases(show u=Value.ref b from m);obtain⟨z,j,t,c,i⟩:=Dj I.Β e;refine wpAny_notIn_heap (tupleKind_room_in1 p) (yV I.Β eb) j i ?_;have q:=(c.val k).Ϡ;rw[hZ]at q;rw[<-q,<-l];exact h _ (I.tok _)
theorem zS{c:Heap}{l:Nat}{g:HO}(I:Inv X d f H s)(j:Mut (H a))(i:Heap.SameBut a s.heap c)(m:∃q,c.get? a=some q)(h:Ν X.prog X.w (upd H a g) c a g):Inv X d f (upd H a g) { s with heap:=c,toks:=l }:=I.write (x:=a) (e:=a) j (.inl rfl) (λb q k z=>(i.2 b k).trans z) m h
theorem G8{P:Program}{w:World}{h:Hp}{g:Heap}{b:List (Key×V)}{e:List (Key×Value)}(z:b.length<=sizeLine)(j:(a==sysModules)=false)(c:KV b e)(i:g.DictOf (iX P w) a e):Ν P w h g a (.dK b):=⟨z,j,e,c,i⟩
theorem Pc{D:Hp}{Q:Unit->Shared->Prop}(M:A.units+1<cLine)(I:Inv X d f H s)(g:aaM H a y v D)(K:RelV y u)(J:RelV v r)(h:∀C,Inv X d f D C->Q () C):wpAny (model X.prog X.w) A (setItem (.ref a) u r) Q E s:=by
 rcases g with⟨η,k,e,ey,l,eH⟩|⟨η,k,b,e,ey,eb,l,eH⟩
 .subst ey eH;obtain⟨z,p,L,i,t⟩:=GG I.Β e;have x:L.length<=sizeLine:=by rw[<-i.length];exact z
  have n:(jp η k v).length<=sizeLine:=by have:=qh η k v;lia
  refine wpAny_setItem_pairs (hsz:=x) (zO K) t λF j B=>h _ ?_;have S:∃q,F.get? a=some q:=let ⟨q,_,_,m,_⟩:=j;⟨q,m⟩;exact zS I (by rw[e];exact True.intro) B S (G8 n p (i.put k J) j)
 .subst ey eH;cases(show u=Value.ref b from K);obtain⟨z,p,O,i,t⟩:=Zz I.Β e;have x:O.length<=sizeLine:=by rw[<-Paired.length i];exact z
  have n:(jp η k v).length<=sizeLine:=by have:=qh η k v;lia
  refine wpAny_setItem_heap (hsz:=x) (tupleKind_room_in1 M) (yV I.Β eb) t λF j B=>h _ ?_;obtain⟨q,P,R,m,T,V,U,_,N⟩:=j;refine zS I (by rw[e];exact True.intro) B ⟨q,m⟩ ⟨n,p,_,(i.put k eb J).keeps λc W G=>?_,q,P,R,m,T,V,U,N⟩;rw[aN (fM G e (λz=>nomatch z))];exact G
end
section
variable{X:Cx}{b:f5}{d:St}{H:Hp}{s:Shared}{a:Addr}{c:List (Key×V)}{k:Key}{u:Value}{A:Around}{E:fz}
theorem Zx{Q:fz}(I:Inv X b d H s)(e:Rd H a (.dK c))(h:∀t g,Inv X b d H g->Q (.int c.length t) g):wpAny (model X.prog X.w) A (call (.builtin "len") [.ref a]) Q E s:=by
 obtain⟨z,j,l,f,i⟩:=Af I.Β e;refine call_len_dict j i (by rw[<-f.length];rw[sizeLine_eq]at z;lia) ?_;rw[<-f.length];exact h _ _ (I.tok _)
end
def Xd(i:Expr):Prop:=∀a b,subscripted i false a b=operate [a,b] (getItem a b)
theorem VJ{a:Program}{w:World}{A:Around}{E:fz}{s:Shared}{k:Env}{c b:Expr}{n:Pos}{T id:String}{Q:fz}(q:typeLookup (.type T) "__getitem__"=pure (some (.builtin id)))(t:Xd b)(h:wpAny (model a w) A (eval c k) (λo g=>wpAny (model a w) A (eval b k) (λi d=>d.TypeIs o T/\wpAny (model a w) A (getItem o i) Q E d) E g) E s):wpAny (model a w) A (eval (.Subscript c b n) k) Q E s:=by
 refine Subscript_ (eB h (λo g l=>eB l (λi d e=>?_) λ_ _ x=>x) λ_ _ x=>x);obtain⟨p,e⟩:=e;unfold subscriptTail;refine ao ?_;rw[getitemInPython_of_ne p.not_modules];refine ao (mO p q ?_);have j:wpAny (model a w) A (subscripted b false o i) (λr f=>wpAny (model a w) A (letTemporaryGo c o r>>=λ_=>pure r) Q E f) E d:=by
  rw[t o i];exact wpAny_operating (eB e (λr f m=>ao (wpAny_letTemporaryGo (bi m))) λ_ _ x=>x)
 first
  | exact bi (ao j)
  | exact ao (bi (ao j))
  | exact ao j
theorem Kq{X:Cx}{c:f5}{d:St}{H:Hp}{s:Shared}{a:Addr}{y:V}{o:Option V}(I:Inv X c d H s)(g:ϵ H a y o):s.TypeIs (.ref a) "dict":=by
 rcases g with⟨η,k,e,_,_⟩|⟨η,k,b,e,_,_,_⟩
 .obtain⟨_,_,vs,_,dd⟩:=Af I.Β e;exact dd.typeIs
 .obtain⟨_,_,xs,_,dd⟩:=Dj I.Β e;exact dd.typeIs
def Od(d e:TE):TE:=λc H Q=>d c H λx f=>e c f λy b=>∃a v,x=.ref a/\ϵ b a y (some v)/\Q v b
def T3(e d:TE):TE:=λc H Q=>e c H λy f=>d c f λx b=>∃a o,x=.ref a/\ϵ b a y o/\Q (.bl o.isSome) b
def Eo(e d:TE):TE:=λc H Q=>e c H λy f=>d c f λx b=>∃a o,x=.ref a/\ϵ b a y o/\Q (.bl (!o.isSome)) b
def Mu(f g d:TE):TS:=λD b H=>d b H λv i=>f b i λx e=>g b e λy h=>∃a c,x=.ref a/\aaM h a y v c/\D.nx b c
section
variable{X:Cx}{o i e b:Expr}{j c l:Pos}{d f k:TE}
theorem La(B:X.A.units+1<cLine)(E:PE X o d)(r:PE X i f)(K:Xd i):PE X (.Subscript o i j) (Od d f):=by
 intro m s q H Q I h;refine VJ PySem.F.slot_dict_getitem.lookup K (eJ (E m s q H _ I h) λu t x N L w D=>eJ (r m t q N _ L D) λR O y M p J ⟨a,v,G,g,C⟩=>?_);subst G;obtain rfl:u=Value.ref a:=w;exact⟨Kq p g,QA B p g J λP S z n=>⟨v,M,z,n,C⟩⟩
theorem V6(v:X.A.units+1<cLine)(p:PE X i f)(C:PE X o d):PC X .In i o (T3 f d):=by
 intro m s n H Q I h;refine eJ (p m s n H _ I h) λM q y K G E z=>eJ (C m q n K _ G z) λu L x J B r ⟨a,F,D,g,w⟩=>?_;subst D;obtain rfl:u=Value.ref a:=r;exact aRa v B g E λN t=>⟨.bl F.isSome,J,t,rfl,w⟩
theorem QB(v:X.A.units+1<cLine)(p:PE X i f)(C:PE X o d):PC X .NotIn i o (Eo f d):=by
 intro m s n H Q I h;refine eJ (p m s n H _ I h) λM q y K G E z=>eJ (C m q n K _ G z) λu L x J B r ⟨a,F,D,g,w⟩=>?_;subst D;obtain rfl:u=Value.ref a:=r;exact UX v B g E λN t=>⟨.bl (!F.isSome),J,t,rfl,w⟩
theorem zX(E:X.A.units+1<cLine)(L:PE X o d)(p:PE X i f)(z:PE X b k)(O:swapsWith b (some (.Subscript o i c)) j.line X.env=pure false):PS X (.Assign [.Subscript o i c] b j) (Mu d f k):=by
 intro m s n H D I h;refine wpAny_Assign_Subscript (eJ (z m s n H _ I h) λr t v T Q F J=>eJ (L m t n T _ Q J) λu w x R K B G=>eJ (p m w n R _ K G) λV Y y U C N ⟨a,S,M,g,q⟩=>?_) O;subst M;obtain rfl:u=Value.ref a:=B;exact Pc E C g N F λW P=>⟨n,S,P,q⟩
end
theorem Jo{P:Program}{w:World}{H:Hp}(h:Heap)(a:sysModules<h.objs.size):Ν P w H (h.push { cls:=.type "dict",data:=.dict #[] }) h.objs.size (.dK []):=⟨bB _,beq_eq_false_iff_ne.mpr (Ne.symm (aW a)),[],.nil,Heap.DictOf.new h⟩
theorem Rp{P:Program}{w:World}{H:Hp}(h:Heap)(a:sysModules<h.objs.size):Ν P w H (h.push { cls:=.type "dict",data:=.dict #[] }) h.objs.size (.dT []):=⟨bB _,beq_eq_false_iff_ne.mpr (Ne.symm (aW a)),[],.nil,_,#[],0,bc _ rfl,⟨rfl,rfl,rfl⟩,rfl,rfl,List.nodup_nil⟩
def ack:TE:=λ_ H Q=>∀p,H p=none->Q (.ref p) (upd H p (.dK []))
def acm:TE:=λ_ H Q=>∀p,H p=none->Q (.ref p) (upd H p (.dT []))
section
variable{X:Cx}{b:Pos}
theorem Tv:PE X (.Dict [] [] b) ack:=λc s d H Q I h=>
 wpAny_Dict_empty ⟨.ref s.heap.objs.size,_,I.laid (a:=s.heap.objs.size) (o:=.dK []) (t':=s.toks) (λ_ _ q=>aF _ q) (az _) (Jo s.heap I.big),rfl,h _ (I.Β.fresh (az _))⟩
theorem S4:PE X (.Dict [] [] b) acm:=λc s d H Q I h=>
 wpAny_Dict_empty ⟨.ref s.heap.objs.size,_,I.laid (a:=s.heap.objs.size) (o:=.dT []) (t':=s.toks) (λ_ _ q=>aF _ q) (az _) (Rp s.heap I.big),rfl,h _ (I.Β.fresh (az _))⟩
end
def zm:List (TE×TE)->St->Hp->(List (V×V)->Hp->Prop)->Prop
 | [],_,H,Q=>Q [] H
 | (tk,tv)::r,σ,H,Q=>tk σ H λx d=>tv σ d λy b=>zm r σ b λa c=>Q ((x,y)::a) c
abbrev VV:List (V×V)->List (Value×Value)->Prop:=Paired λp q=>RelV p.1 q.1/\RelV p.2 q.2
def PPs(X:Cx)(f:Pos)(c:List (Option Expr))(a:List Expr)(e:List (TE×TE)):Prop:=∀(b:f5)(s:Shared)(d:St)(H:Hp)(Q:List (V×V)->Hp->Prop),Inv X b d H s->zm e d H Q->wpAny (model X.prog X.w) X.A (evalPairs (pairTrees c a X.env f)) (λj i=>∃h g,Inv X b d g i/\VV h j/\Q h g) X.xe s
theorem Lq{X:Cx}{a:Pos}:PPs X a [] [] []:=λb s c H Q I h=>pairTrees_nil_walk ⟨[],H,I,.nil,h⟩
theorem Jj{X:Cx}{c:Pos}{k v:Expr}{i:List (Option Expr)}{g:List Expr}{j f:TE}{b:List (TE×TE)}(l:PE X k j)(p:PE X v f)(w:PPs X c i g b):PPs X c (some k::i) (v::g) ((j,f)::b):=λa s e H Q I h=>
 pairTrees_cons_walk (eJ (l a s e H _ I h) λu n x G E q z=>eJ (p a n e G _ E z) λK o y F A C B=>
  ϔ (w a o e F _ A B) λJ L ⟨D,t,r,d,m⟩=>⟨(x,y)::D,t,r,.cons ⟨q,C⟩ d,m⟩)
def kW(d a:List (Key×V)):List (Key×V):=a.foldl (λb c=>jp b c.1 c.2) d
theorem KV.merge:∀{a:List (Key×V)}{d:List (Key×Value)}{b:List (Key×V)}{c:List (Key×Value)},KV a d->KV b c->KV (kW b a) (merged c d):=by
 intro a d b c r;unfold KV at r
 induction r generalizing b c with
 | nil=>intro q;exact q
 | @cons p q ps qs h t ih=>
   intro f;have e:KV (jp b p.1 p.2) (stored c q.1 q.2):=by
    have:=f.put p.1 h.2;rw[<-h.1];exact this
   exact ih e
theorem qo:∀(b a:List (Key×V)),(kW a b).length<=a.length+b.length
 | [],a=>by show a.length<=a.length+0;lia
 | p::r,a=>by
   have d:=qo r (jp a p.1 p.2);have c:=qh a p.1 p.2;show(kW (jp a p.1 p.2) r).length<=_;rw[aR];lia
theorem DM{P:Program}{w:World}:∀{e:List (Key×V)}{f:List (Value×Value)},VV (e.map λg=>(kV g.1,g.2)) f->∃d,Carries (iX P w) f d/\KV e d
 | [],_,r=>by rw[eP]at r;cases r;exact⟨[],True.intro,.nil⟩
 | p::e,_,r=>by
   rw[aq]at r;cases r with
   | @cons a b as bs h t=>
     obtain⟨d,c,q⟩:=DM (P:=P) (w:=w) t;obtain⟨j,i⟩:=b;exact⟨(p.1,i)::d,⟨zO h.1,rfl,c⟩,.cons ⟨rfl,h.2⟩ q⟩
def GH(a:List (TE×TE)):TE:=λf H Q=>∀p,H p=none->zm a f (upd H p (.dK [])) λe d=>d p=some (.dK [])/\∃b:List (Key×V),e=b.map (λc=>(kV c.1,c.2))/\b.length<=15/\Q (.ref p) (upd d p (.dK (kW [] b)))
theorem L1{X:Cx}{j:Pos}{b:List (Option Expr)}{d:List Expr}{g:List (TE×TE)}(h:PPs X j b d g)(l:b.all (·.isSome)=true)(u:b.length=d.length)(r:b≠[])(k:b.length<=15):PE X (.Dict b d j) (GH g):=by
 intro f s K H Q I q;have J:=I.Β.fresh (az s.heap.objs.size);have M:=I.laid (a:=s.heap.objs.size) (o:=.dK []) (h':=s.heap.push { cls:=.type "dict",data:=.dict #[] }) (t':=s.toks) (λ_ _ q=>aF _ q) (az _) (Jo s.heap I.big);refine wpAny_Dict_walk (knd:=iX X.prog X.w) l u r k (ϔ (h f _ K _ _ M (q _ J)) λN O ⟨S,T,p,m,e,n,E,R,y⟩=>?_);subst E;obtain⟨t,c,B⟩:=DM (P:=X.prog) (w:=X.w) m;obtain⟨z,x,v,L,C⟩:=GG p.Β e;cases L;refine⟨t,c,C,λh' i G=>⟨.ref s.heap.objs.size,_,?_,rfl,y⟩⟩;have D:(kW [] n).length<=sizeLine:=by
  have A:=qo n [];rw[ft]at A;rw[sizeLine_eq];lia
 have F:∃q,h'.get? s.heap.objs.size=some q:=let ⟨q,_,_,hq,_⟩:=i;⟨q,hq⟩;exact zS p (by rw[e];exact True.intro) G F (G8 D x (B.merge .nil) i)
end L2
namespace Att
open PySem PySem.W PySem.Calls PyProof.Rows
theorem Dl{P:Params}{h:Heap}:∀(c:fc)(d:gg),WellAll P h d (c.map WData.int)->IntsAre d c:=by
 intro c
 induction c with
 | nil=>
   intro d w;rw[eP]at w;cases w;exact .nil
 | cons n c ih=>
   intro d w;rw[aq]at w;cases w with
   | cons a b=>
     cases a;exact .cons _ _ (ih _ b)
theorem PX{l:OpenLaw}{n:Nat}(u:l.most=some n){P:Params}{h:Heap}{b:List WData}{e:gg}(g:l.row.toRowW.claim.pre b=true)(m:WellAll P h e b):∃a p c,e=[Value.ref a]/\b=[WData.list (c.map WData.int)]/\h.get? a=some { cls:=.type "list",data:=.seq p.toArray }/\IntsAre p c/\c.length<=n:=by
 have k:WShape.hasAll [] b [.list .int]=true:=(pre_splitW g).1;have o:l.pre.holds [] { args:=b }=true:=(pre_splitW g).2;obtain⟨d,r,rfl,s,v⟩:=hasAllW_cons k;obtain rfl:=hasAllW_nil v;obtain⟨x,rfl,w⟩:=hasW_list s;obtain⟨c,rfl⟩:=items_int w;have f:c.length<=n:=by
  unfold OpenLaw.pre at o;have j:(WTm.not (.lt (.lit (.int (n:Int))) (.len (.arg 0)))).holds [] { args:=[.list (c.map .int)] }=true:=by
   have j:=(holds_andW o).1;rw[u]at j;exact j
  have i:=condW_of j (w_not (w_lt w_lit (w_len_list (w_arg rfl))));rw[ah]at i;refine Nat.le_of_not_lt λq=>?_;have t:(n:Int)<((c.length:Nat):Int):=by lia
  first
   | (rw[bq t]at i;exact absurd i (by decide))
   | (simp at i;lia)
 cases m with
 | cons w1 w2=>
   cases w2;cases w1 with
   | list ho afK=>exact⟨_,_,c,rfl,rfl,ho,Dl c _ afK,f⟩
theorem Ph(l:OpenLaw)(a:List WData):l.row.toRowW.claim.post a (.bool true) a=true:=postW_of (r:=l.row.toRowW) (X:=(true==true))
 (show WShape.has [] (.bool true) .bool=true by first|rfl|decide|simp[WShape.has,WShape.arms,WShape.armsAll])
 (show(WTm.eq .res (.lit (.bool true))).value [] { args:=a,res:=some (.bool true),after:=a }=some (.bool (true==true))from w_eq_bool (w_res rfl) w_lit) rfl
theorem abI{l:OpenLaw}{n:Nat}{q:Program}{c:gy}{E:(Str->Option Value)->Heap->Prop}{D:World->Heap->Prop}{d:DefRec}(Q:l.most=some n)(B:d.params.defaults=[])(call:∀(w:World) (e b:Shared) (t x:gx) (j:Addr) (o:Obj) (u p h:Value) (a:Addr) (i:gg) (s:fc),Ground q c [] E w e t x b.heap->D w b.heap->b.heap.get? j=some o->o.data=.func (docDef d.name d.params d.body d.scope u p h)->b.heap.CodeRec p d.name->t d.name=some (.ref j)->b.heap.get? a=some { cls:=.type "list",data:=.seq i.toArray }->IntsAre i s->s.length<=n->b.gens=#[]->codeAny (model l.prog w) callerA (.call (.ref j) ⟨[.ref a],[]⟩) (λr m=>r=.ok (.ret (.bool true))/\OldK b.heap m.heap/\m.os=b.os/\AllBare m.gens) b):WalkO q c E D l.row.toRowW d [] (λf i=>PySem.call f i):=by
 intro w e b t x G Y j o u p h M kV P N C F z R I H as A V K v L;obtain rfl:M=.none:=Dflts.none F B;obtain rfl:kV=.none:=Dflts.noKw F;obtain⟨a,i,s,rfl,rfl,y,g,k⟩:=PX Q A v;refine enter_call (mi (call w e b t x j o u p h a i s G Y P (fd_plain N) C z y g k R) λr m U=>?_);obtain⟨rfl,S,O,T⟩:=U;exact⟨.inl ⟨.bool true,.bool true,[],rfl,λ_=>rfl,.bool true,Ph l _,λ_=>⟨List.Pairwise.nil,λ_ J=>(nomatch J)⟩⟩,S,O,T⟩
end Att
namespace L2
open PySem PySem.Spec PyProof.Rows
theorem FO:∀{b:gg}{a:fc},IntsAre b a->Vals (a.map V.int) b
 | _,_,.nil=>.nil
 | _,_,.cons n t h=>.cons ⟨t,rfl⟩ (FO h)
def Tx(H:Hp):Prop:=∀b,H b=none\/∃o a,H b=some (.frz o (.lst a))
theorem RA{P:Program}{w:World}{K:f3}{G O:gx}{CX:CXT}{k:Nat}{L a:Addr}{fd:FuncData}{x:Str}{sp:Sp}{c:Shared}{p:gg}{A:fc}(KX:K.In c.heap)(I:c.heap.Ns mainGlobals G)(f:c.heap.Ns builtinsNs O)(R:∀x:Str,x≠"__name__"->O x=bootBuiltins x)(T:c.heap.NoLimit)(hg:c.gens=#[])(J:c.heap.get? a=some { cls:=.type "list",data:=.seq p.toArray })(Z:IntsAre p A)(hl:A.length<=sizeLine)(hr:ϊ k callerA)(F:∀i:Heap,K.In i->i.Ns mainGlobals G->Ψ P w K G i CX k L fd [x] sp)(U:∀(s:Shared) (u:Value),BindsTo s fd ⟨[u],[]⟩ [(x,u)])(Q:∀H:Hp,Tx H->ν K H a (A.map V.int)->sp [.ref a] H (λv _=>v=.bl true) λ_ _ _=>False)(M:∀H e g,CX [] H c (λ_ _ _=>False) e g->False):codeAny (model P w) callerA (.call (.ref L) ⟨[.ref a],[]⟩) (λr g=>r=.ok (.ret (.bool true))/\OldK c.heap g.heap/\g.os=c.os/\AllBare g.gens) c:=by
 have rv:=FO Z;have N:=Z.length;have l:∀H:Hp,Tx H->ν K H a (A.map V.int)->ϭ P w H c.heap->(∀b,H b≠none->b=a)->(H a≠none->K.lookup a=none)->codeAny (model P w) callerA (.call (.ref L) ⟨[.ref a],[]⟩) (λr g=>r=.ok (.ret (.bool true))/\OldK c.heap g.heap/\g.os=c.os/\AllBare g.gens) c:=by
  intro H hO hS Β hA hK;have t:∀{b:Addr}{o:Obj},c.heap.get? b=some o->H b=none->(xW c.heap H).get? b=some o:=λe n=>RR e n;have Y:∀{b:Addr}{o:Obj}{y:Array DictEntry}{D:Nat},c.heap.get? b=some o->o.data=.dict y D->H b=none:=λ{b o y D} e d=>by
   cases q:H b with
   | none=>rfl
   | some u=>
     have X:b=a:=hA b (by rw[q];simp);subst X;rw[J]at e;cases e;have d':Data.seq p.toArray _=Data.dict y D:=d;cases d'
  have j:∀{b:Addr}{m:gx},c.heap.Ns b m->(xW c.heap H).Ns b m:=λ{b m} ⟨o,y,D,e,d,r⟩=>⟨o,y,D,t e (Y e d),d,r⟩;have B:K.In (xW c.heap H):=λb o e=>t (KX b o e) (by
   cases q:H b with
   | none=>rfl
   | some u=>
     have X:b=a:=hA b (by rw[q];simp);subst X;rw[hK (by rw[q];simp)]at e;cases e)
  have hM:Mod K G (xW c.heap H):=⟨B,j I,⟨O,j f,R⟩,let ⟨mc,h1,h2⟩:=T;⟨mc,j h1,h2⟩⟩;have e0:aci P w K G (xW c.heap H) callerA [] c H:=⟨rfl,hM,λb o e=>UL e,oj (Pw _ _),trivial,λb f=>absurd (show b∈([]:gf)from f) (by simp),Β,.of_eq hg⟩;refine mi ((F _ B (j I)).run callerA [] c H ⟨[.ref a],[]⟩ [.ref a] [.ref a] _ _ hr e0 (U c (.ref a)) (.cons rfl .nil) (Q H hO hS)) λr g h=>?_;cases r with
  | error e=>exact(M H e g h).elim
  | ok fl=>
    cases fl with
    | next=>exact False.elim h
    | brk=>exact False.elim h
    | cont=>exact False.elim h
    | ret u=>
      obtain⟨v,H',os,C,un,S,r',q⟩:=h;have q':v=.bl true:=q;subst q';obtain rfl:u=Value.bool true:=r';refine⟨rfl,OldK.of_keep λb o e=>?_,os,C⟩;cases q:H b with
      | none=>exact un.keep b o e q (by intro z;exact absurd (show b∈([]:gf)from z) (by simp)) (by simp)
      | some u=>
        rcases hO b with z|⟨ob,xs,z⟩
        .rw[q]at z;cases z
        .have z2:=un.iN b ob _ z;obtain⟨e1,_⟩:=Β b _ z;obtain⟨e2,_⟩:=S b _ z2;rw[e]at e1;cases e1;exact e2
 cases hk:K.lookup a with
 | some o=>
   have e:=KX a o hk;rw[J]at e;cases e;refine l (λ_=>none) (λ_=>.inl rfl) (.inr ⟨_,p.toArray,_,hk,rfl,rfl,rfl,by rw[aY,N];exact hl,by simpa using rv⟩) (λb u z=>by have E:(none:Option HO)=some u:=z;cases E) (λb z=>absurd rfl z) λz=>absurd rfl z
 | none=>
   refine l (λb=>if b=a then some (.frz { cls:=.type "list",data:=.seq p.toArray } (.lst (A.map V.int)))else none) (λb=>?_) (.inl (.inr ⟨{ cls:=.type "list",data:=.seq p.toArray },aj rfl⟩)) (λb u z=>?_) (λb z=>?_) λ_=>hk
   .by_cases f:b=a
    .exact .inr ⟨_,_,aj f⟩
    .exact .inl (ag f)
   .by_cases f:b=a
    .have E:=(aj f).symm.trans z;cases E;subst f;exact⟨J,by rw[ah];exact hl,p,_,rv,J⟩
    .have E:=(ag f).symm.trans z;cases E
   .by_cases f:b=a
    .exact f
    .exact absurd (ag f) z
theorem aey{l:PySem.W.OpenLaw}{n k:Nat}{q:Program}{m:gy}{U:(Str->Option Value)->Heap->Prop}{L:World->Heap->Prop}{d:DefRec}{K:Params->PySem.W.Frag}{CX:World->CXT}{sp:World->Sp}{x:Str}(hn:l.most=some n)(I:n<=sizeLine)(J:d.params.defaults=[])(S:ϊ k callerA)(Z:∀(w:World) (h:Heap),L w h->(K w.params).In h)(F:∀(w:World) (p:gx) (t:Addr) (h:Heap),(K w.params).In h->h.Ns mainGlobals p->p d.name=some (.ref t)->∃E:FuncData,(∀(s:Shared) (u:Value),BindsTo s E ⟨[u],[]⟩ [(x,u)])/\∀c:Heap,(K w.params).In c->c.Ns mainGlobals p->Ψ l.prog w (K w.params) p c (CX w) k t E [x] (sp w))(C:∀(w:World) (H:Hp) (a:Addr) (y:fc),y.length<=n->Tx H->ν (K w.params) H a (y.map V.int)->sp w [.ref a] H (λv _=>v=.bl true) λ_ _ _=>False)(A:∀(w:World) (H:Hp) (s:Shared) (e:Value) (z:Shared),CX w [] H s (λ_ _ _=>False) e z->False):PySem.W.WalkO q m U L l.row.toRowW d [] (λf M=>PySem.call f M):=by
 refine Att.abI hn J λw O r p mb t o pm cd ad a M y G Y ho hd ae D B j i hg=>?_;have N:=Z w _ Y;obtain⟨E,X,R⟩:=F w p t _ N G.T.g D;exact RA N G.T.g G.T.b G.T.builtins G.T.nolimit hg B j (aP i I) S R X (λH Q P=>C w H a y i Q P) λH e z=>A w H r e z
def EM(s:Stmt)(j:Nat):Stmt:=match s with
 | .ClassDef _ _ _ body _ _ _ _ _ _ _=>body.getD j (.Pass ⟨0,0,0,0⟩)
 | _=>.Pass ⟨0,0,0,0⟩
def jq(s:Stmt):Arguments:=match s with
 | .FunctionDef _ a _ _ _ _ _ _ _ _=>a
 | _=>{ posonlyargs:=[],args:=[],vararg:=none,kwonlyargs:=[],kw_defaults:=[],kwarg:=none,defaults:=[] }
def iE(s:Stmt):List Stmt:=match s with
 | .FunctionDef _ _ b _ _ _ _ _ _ _=>b
 | _=>[]
def aG(s:Stmt):Scope:=match s with
 | .FunctionDef _ _ _ _ _ _ sc _ _ _=>sc
 | _=>{ kind:=.function,names:=[],isGenerator:=false,isCoroutine:=false }
abbrev CX0:CXT:=λ_ _ _ _ _ _=>False
abbrev E0:XK:=λ_ _ _=>False
structure Fun(K:f3)(x qual:Str)(st:Stmt)(f:Addr)(fd:FuncData):Prop where
 ex:∃(oc:Value)(od:Option Addr)(kV doc pm:Value)(an:Option Addr)(ρ ct:Value)(osl:Array (Option Value)),fd=PySem.W.fnOf x qual (jq st) (iE st) (aG st) .none kV doc pm an ρ ct/\K.lookup f=some ⟨oc,od,.func fd,osl⟩/\PySem.W.codeIn K ρ qual=true
 kp:PySem.W.keepIn K (.ref f)=true
section
variable{P:Program}{w:World}{K:f3}{b:gx}{a:Heap}
theorem Fun.binds{x c:Str}{st:Stmt}{f:Addr}{l:FuncData}{ps:gy}(F:Fun K x c st f l)(h:∀(kV d i:Value) (j:Option Addr) (k e:Value) (g:gg),g.length=ps.length->bindArgs (PySem.W.fnOf x c (jq st) (iE st) (aG st) .none kV d i j k e) ⟨g,[]⟩=pure (ps.zip g)):Binds K l ps []:=by
 obtain⟨p,o,kV,d,i,j,k,e,n,rfl,q,m⟩:=F.ex;exact .all (h kV d i j k e)
theorem zw{x d:Str}{st:Stmt}{f:Addr}{o:Value}{n j:Option Addr}{g:Array (Option Value)}{kV e m h i:Value}(l:K.lookup f=some ⟨o,n,.func (PySem.W.fnOf x d (jq st) (iE st) (aG st) .none kV e m j h i),g⟩)(c:PySem.W.codeIn K h d=true)(k:PySem.W.keepIn K (.ref f)=true):Fun K x d st f (PySem.W.fnOf x d (jq st) (iE st) (aG st) .none kV e m j h i):=⟨⟨o,n,kV,e,m,j,h,i,g,rfl,l,c⟩,k⟩
end
theorem sJ{A:Around}{k:Nat}(a:ϊ k A):A.units+1<cLine:=gQ (Nat.add_le_add_left (by decide:1<=64) _) a.units
section
variable{X:Cx}
theorem pv(i:Nat){x:Str}{b:Pos}(c:X.N[i]?=some x:=by rfl)(d:Vis X.env.scope x:=by first|exact Or.inl rfl|exact Or.inr (Or.inl rfl)|exact Or.inr (Or.inr rfl))(e:(x==("__debug__":Str))=false:=by decide)(a:(x==("__classdict__":Str))=false:=by decide):PE X (.Name x b) (yZ i):=HK c d e a
end
theorem YN{A B:Prop}(h:B):if false=true then A else B:=by
 rw[ag bD];exact h
theorem VU{A B:Prop}(h:A):if true=true then A else B:=by
 rw[aj rfl];exact h
def δ(H a:Hp):Prop:=∀b o,H b=some o->a b=some o
theorem δ.refl(H:Hp):δ H H:=λ_ _ h=>h
theorem δ.trans{H e d:Hp}(a:δ H e)(b:δ e d):δ H d:=λc o h=>b c o (a c o h)
theorem δ.free{H a:Hp}(e:δ H a){l:Addr}(h:a l=Option.none):H l=Option.none:=by
 cases q:H l with
 | none=>rfl
 | some o=>
   rw[e l o q]at h;cases h
theorem δ.seq{K:f3}{H b:Hp}{a:Addr}{c:List V}(e:δ H b)(h:ν K H a c):ν K b a c:=by
 rcases h with(h|⟨o,h⟩)|h
 .exact .inl (.inl (e _ _ h))
 .exact .inl (.inr ⟨o,e _ _ h⟩)
 .exact .inr h
section
variable{X:Cx}
theorem Qe:oC X (.builtin "len") (λd H Q=>∃a b,d=[V.ref a]/\H a=some (.dK b)/\Q (.int b.length) H):=by
 intro c s k H d i Q I r h;obtain⟨a,b,rfl,g,q⟩:=h;obtain⟨u,rfl,e⟩:=uu r;cases e;exact Zx I (.inl g) λt j f=>⟨.int b.length,H,f,⟨t,rfl⟩,q⟩
end
def Cx.comp(X:Cx)(e:gy)(a:Scope)(cl:List (Str×Addr))(C:Addr)(c:Shared)(b:Hp)(d:gf):Cx where
 prog:=X.prog
 w:=X.w
 K:=X.K
 mg:=X.mg
 base:=X.base
 A:=X.A
 N:=e
 s₀:=c
 H₀:=b
 env:=compEnvC a cl C X.env
 outer:=X.stack
 stack:=X.stack
 ex:=d
 fn:=λ_=>false
 calm:=X.calm
 pn:=[]
 xe:=λ_ _=>False
structure ϣ(X:Cx)(Nc:gy)(own:Nat)(js:List Nat)(scope:Scope)(cl:List (Str×Addr)):Prop where
 afN:closureFor scope X.env=pure cl
 kind:scope.kind=.function
 acn:∀y∈scope.names,y.2≠.cell
 names:∀y∈scope.names,y.2=.local->scope.names.lookup y.1=some .local
 cells:∀x c,cl.lookup x=some c->X.env.cells.lookup x=some c
 has:∀x,((relabel scope X.env).names.lookup x=some .cell\/(relabel scope X.env).names.lookup x=some .free)->∃c,cl.lookup x=some c
 len:Nc.length=own+js.length
 outer:∀i x,Nc[own+i]?=some x->∃j,js[i]?=some j/\X.N[j]?=some x/\X.env.scope.names.lookup x=some .cell/\(relabel scope X.env).names.lookup x=some .cell
def nL(a:Nat)(c:List Nat)(b:St):St:=List.replicate a none++c.map λj=>(b[j]?).getD none
def Mo(h:Nat)(q:List Nat)(r:TI)(g:TG)(s:TT)(u:TE):TE:=λl H Q=>r l H λJ o=>∀p,o p=none->∃W:Nat->Nat->List V->St->Hp->Prop,(∃m,W 0 m [] (nL h q l) (upd o p (.lst [])))/\∀i m c e f,W i m c e f->(J.stop i f/\Q (.ref p) f)\/(J.go i f/\∀x j,J.yld i f x j->g x e j λa t=>s a t λb k=>
 if b=true then u a k λy n=>n p=some (.lst c)/\c.length<sizeLine/\∃d,d<m/\W (i+1) d (c++[y]) a (upd n p (.lst (c++[y])))
 else ∃d,d<m/\W (i+1) d c a k)
def PTs(X:Cx)(b:List Expr)(t:TT):Prop:=∀(a:f5)(s:Shared)(d:St)(H:Hp)(Q:Bool->Hp->Prop),Inv X a d H s->t d H Q->wpAny (model X.prog X.w) X.A (forIn b true λc r=>if r=true then do let e <-isTrue c X.env (eval c X.env);pure (ForInStep.yield e)else pure (ForInStep.yield r)) (TP X a d Q) X.xe s
def afO:TT:=λ_ H Q=>Q true H
theorem kj{X:Cx}:PTs X [] afO:=λa s b H Q I h=>wpAny_tests_nil ⟨H,I,h⟩
theorem Eu{X:Cx}{c:Expr}{t:TT}(h:PT X c t):PTs X [c] t:=λa s b H Q I q=>wpAny_tests_one (h a s b H Q I q)
section
variable{a:Program}{w:World}{A:Around}{E:fz}{R:Result->Shared->Prop}{s:Shared}
theorem Bj{y b q:Expr}{u:List Expr}{g:Scope}{F:Pos}{H t:Value}{e:Env}(I:Nat->Shared->Prop)(G:∀n s,I n s->wpAny (model a w) A (pyNext H) (λr j=>match r with
 | none=>R (.ok .next) j
 | some v=>wpAny (model a w) A (letOwnedTupleGo b H v) (λ_ C=>wpAny (model a w) A (assign b e v) (λ_ p=>
  wpAny (model a w) A (forIn u true λc r=>if r=true then do let ok <-isTrue c e (eval c e);pure (ForInStep.yield ok)else pure (ForInStep.yield r)) (λok f=>
   if ok=true then wpAny (model a w) A (eval y e) (λx k=>
    wpAny (model a w) A (call (.builtin "list.append") [t,x]) (λ_ l=>∃m,m<n/\I m l) (λ_ _=>False) k) (λ_ _=>False) f
   else ∃m,m<n/\I m f) (λ_ _=>False) p) (λ_ _=>False) C) (λ_ _=>False) j) (λ_ _=>False) s)(n:Nat)(h:I n s):codeAny (model a w) A (.compLoop (.ListComp y [⟨b,q,u,0⟩] g F) 0 H t e) R s:=by
 refine codeAny_loop rfl I (λn s K=>?_) n h;show wpAny _ A ((compTurn (.ListComp y [⟨b,q,u,0⟩] g F) 0 H t e).onRaise (λx=>do noteFrame x e;theTreesLotGoes x)) _ _ s;refine wpAny_noted ?_;rw[compTurn_list];refine ao (lg (ao (eB (G n s K) (λr j o=>?_) λ_ _ i=>i.elim)));cases r with
 | none=>exact bi o
 | some v=>
   refine ao (eB o (λ_ C J=>?_) λ_ _ i=>i.elim);refine ao (eB J (λ_ p B=>ao (eB B (λok f d=>?_) λ_ _ i=>i.elim)) λ_ _ i=>i.elim);cases ok with
   | true=>
     rw[aj rfl]at d;simp only[if_true];exact ao (ao (eB d (λx k z=>ao (eB z (λ_ l D=>bi (bi ⟨rfl,D⟩)) λ_ _ i=>i.elim)) λ_ _ i=>i.elim))
   | false=>
     rw[ag bD]at d;simp only[dI,if_false]
     first
      | exact bi ⟨rfl,d⟩
      | exact ao (bi (bi ⟨rfl,d⟩))
end
section
variable{X:Cx}{Nc:gy}{f:Nat}{B:List Nat}{scope:Scope}{l:List (Str×Addr)}
theorem Ee{g:f5}{r:St}{d:Hp}{a:Shared}{C:Addr}{j:gf}(T:ϣ X Nc f B scope l)(I:Inv X g r d a)(k:a.heap.objs.size<=C)(i:∀b∈j,qz X g d b)(m:∀b∈j,b<a.heap.objs.size):(X.comp Nc scope l C a d j).Ok where
 mod:=I.ok.mod
 kind:=by show(relabel scope X.env).kind=_;exact T.kind
 glob:=I.ok.glob
 blt:=I.ok.blt
 above:=k
 inj:=λx y c n q=>I.ok.inj x y c (T.cells x c n) (T.cells y c q)
 has:=λx h=>T.has x h
 cab:=λx c h=>by cases h
 hd:=I.ok.hd
 frames:=I.ok.frames
 stk:=.inl rfl
 exf:=λb hb=>⟨aW (aZ (m b hb) k),λx c h=>(i b hb).2.2.2.2.1 x c (T.cells x c h)⟩
 bs:=I.bs
 bsz:=aP I.ok.bsz I.sz
 acW:=λb o e hb=>by
  rcases(i b hb).2.2.2.1 with z|z
  .exact I.ok.acW b o e z
  .exact absurd (aZ (aM (I.ok.bs b o e).1) z) (dM _)
 acd:=λb hb p=>by
  rcases aw.mp (I.acf b p)with z|z
  .exact(i b hb).2.1 z
  .exact(i b hb).2.2.1 z
 Le:=I.stack
 frf:=I.aav
theorem Jn{s:f5}{A:St}{g:Hp}{a:Shared}{C D:Addr}{L:gf}{h:Heap}{t:Nat}{m:gx}(T:ϣ X Nc f B scope l)(I:Inv X s A g a)(P:a.heap.objs.size<=C)(F:a.heap.objs.size<=D)(G:D≠C)(S:∀b∈L,qz X s g b)(Y:∀b∈L,b<a.heap.objs.size)(E:∀b o,a.heap.get? b=some o->h.get? b=some o)(M:h.Ns C m)(w:∃n,h.get? D=some { cls:=.type "list",data:=.seq ([]:gg).toArray n }):Inv (X.comp Nc scope l C a g L) [] (nL f B A) (upd g D (.lst [])) { a with heap:=h,toks:=t }:=by
 obtain⟨U,w⟩:=w;have r:∀c v,a.heap.IsCell c v->h.IsCell c v:=λc v ⟨o,J,Z⟩=>⟨o,E c o J,Z⟩;refine⟨Ee T I P S Y,rfl,I.bare,Un.laid E F (I.Β.fresh F),⟨m,M,λi x v W e2 e3=>?_⟩,λx c e=>?_,?_,λx c e=>?_,λp hp=>(by cases hp),I.Β.laid E F ?_,?_⟩
 .have hN:Nc[i]?=some x:=W;have d:(nL f B A)[i]?=some (some v):=e2;unfold nL at d;by_cases N:i<f
  .rw[dH (by simpa using N),fX]at d;simp[N]at d
  .obtain⟨k,rfl⟩:∃k,i=f+k:=⟨i-f,by lia⟩;rw[dE (by simp)]at d;simp only[cC,Nat.add_sub_cancel_left,aJ]at d;obtain⟨j,hj,hx,O,Q⟩:=T.outer k x hN;rw[hj]at d;replace d:some (A[j]?.getD none)=some (some v):=d;have K:A[j]?=some (some v):=by
    cases q:A[j]? with
    | none=>rw[q]at d;simp at d
    | some y=>rw[q]at d;simpa using d
   obtain⟨m0,V,H⟩:=I.loc;obtain⟨u,R,lk⟩:=H j x v hx K (.inr (.inl O));refine⟨u,R,.inr ⟨.inl Q,?_⟩⟩;rcases lk with⟨z,_⟩|⟨_,c,hc,Ϻ⟩
   .have z':X.env.scope.names.lookup x=some .local:=z;rw[O]at z';cases z'
   .obtain⟨c',hc'⟩:=T.has x (.inl Q);have:=T.cells x c' hc';rw[hc]at this;cases this;exact⟨c,hc',r c _ Ϻ⟩
 .obtain⟨v,z⟩:=I.cell x c (T.cells x c e);exact⟨v,r c v z⟩
 .show upd g D (.lst []) C=none;rw[aN (Ne.symm G)];exact I.Β.fresh P
 .have e':=T.cells x c e;obtain⟨v,o,J,_⟩:=I.cell x c e';rw[aN (aW (aZ (aM J) F))];exact I.Ϟ x c e'
 .exact⟨bB _,[],U,.nil,w⟩
 .show(nL f B A).length=Nc.length;rw[T.len];simp[nL]
theorem Fj{g:f5}{A x:St}{d i:Hp}{c s':Shared}{C:Addr}{p:gf}{h':Heap}(I:Inv X g A d c)(D:c.heap.objs.size<=C)(s:∀b∈p,qz X g d b)(j:Inv (X.comp Nc scope l C c d p) [] x i s')(E:Heap.SameBut C s'.heap h'):Inv X g A i { s' with heap:=h' }:=by
 have u:Un (Ϯ X.stack) p d i c.heap s'.heap:=j.base;have ne:∀b o,c.heap.get? b=some o->b≠C:=λb o e=>aW (aZ (aM e) D);have k:∀b o,b≠C->s'.heap.get? b=some o->h'.get? b=some o:=λb o n e=>E.extBut b o n e;have F:Un (Ϯ X.stack) p d i c.heap h':=⟨λb o e n h r=>k b o (ne b o e) (u.keep b o e n h r),λb o e n h r=>let ⟨sl,q⟩:=u.slot b o e n h r;⟨sl,k b _ (ne b o e) q⟩,u.free,λb o e r=>let ⟨o',q⟩:=u.there b o e r;⟨o',k b o' (ne b o e) q⟩,u.Ge,u.iN,u.Io⟩
 have m:i C=none:=j.free;have t:ϭ X.prog X.w i h':=λa o e=>(j.Β a o e).iF (λb v h q=>k b v (λz=>by
  rcases h with y|y
  .rw[y]at z;rw[z,m]at e;cases e
  .rw[z,m]at y;cases y) q) (λ_ q=>q) λ_ _ q=>q
 exact I.afe (s':={ s' with heap:=h' }) (ch:=p) j.os F t j.bare λb h=>⟨(s b h).2.2.2.1,(s b h).2.1,(s b h).2.2.2.2.1,(s b h).2.2.2.2.2⟩
theorem kE{af a F:Expr}{ak:List Expr}{av:Pos}{wi:TI}{g:TG}{tc:TT}{te:TE}(hc:X.calm=true)(T:ϣ X Nc f B scope l)(hi:PI X a F wi)(hg:∀C D m k,PG (X.comp Nc scope l C D m k) a g)(ht:∀C D m k,PTs (X.comp Nc scope l C D m k) ak tc)(he:∀C D m k,PE (X.comp Nc scope l C D m k) af te)(hs:∀x,foldedSetIterable F X.env x=pure x:=by intro _;rfl):PE X (.ListComp af [⟨a,F,ak,0⟩] scope av) (Mo f B wi g tc te):=by
 intro Z s σ H Q I h;rw[eval_ListComp];refine wpAny_comprehension_free (use:=none) rfl hs T.afN T.kind T.names (ϔ (hi Z s σ H _ I h) λv s1 h1=>ϔ h1 λcs j h2=>?_);obtain⟨it,k,tn,J,H1,rfl,I1,U,st,f1,R⟩:=h2;have O:∀b∈k,b<j.heap.objs.size:=λb z=>let ⟨o,e,_⟩:=U.obj _ _ st b z;aM e;refine h9 (wpAny_newFunctionEnv T.acn (by intro y hy;simp at hy) (λE aT Ϥ=>?_) T.kind);dsimp only at aT Ϥ ⊢;generalize ab:j.heap.push { cls:=.type "list",dict:=none,data:=.seq ([]:gg).toArray }=M at aT Ϥ ⊢;have hC:M.objs.size=j.heap.objs.size+1:=by rw[<-ab,dR]
 have au:j.heap.objs.size≠M.objs.size:=by rw[hC];exact aW (gw _)
 have ai:j.heap.objs.size<=M.objs.size:=by rw[hC];exact gq _
 have bM:∀b,b<j.heap.objs.size->b≠M.objs.size:=λb z=>by rw[hC];exact aW (ig z)
 have a0:∀b o,j.heap.get? b=some o->E.get? b=some o:=λb o e=>Ϥ.extBut b o (bM b (aM e)) (aF _ (ab▸aF _ e));have bp:∃n,E.get? j.heap.objs.size=some { cls:=.type "list",data:=.seq ([]:gg).toArray n }:=⟨_,Ϥ.extBut _ _ au (aF _ (ab▸bc _ rfl))⟩;have a2:tn 0 E:=U.keep _ _ _ st λb _ o e=>a0 b o e;obtain⟨W,⟨m0,w0⟩,aC⟩:=R j.heap.objs.size I1.fresh;have Ic:=Jn (t:=j.toks+([]:List (Str×Value)).length) T I1 ai (az _) au f1 O a0 aT bp;generalize N:X.comp Nc scope l M.objs.size j H1 k=Xc at Ic;have K:∀{S:Hp},(∀b∈k,S b=none)->∀b∈k,qz Xc [] S b:=λ{S} hn b z=>by
  subst N;exact⟨hn b z,bM b (O b z),(Ee T I1 ai f1 O).acd b z,.inl z,λx c e=>(f1 b z).2.2.2.2.1 x c (T.cells x c e),λp hp=>by cases hp⟩
 have bk:∀b∈k,upd H1 j.heap.objs.size (.lst []) b=none:=λb z=>by
  rw[aN (aW (O b z))];exact(f1 b z).1
 have db:Xc.calm=true:=by subst N;exact hc
 have V:∀L:Shared,L={ j with heap:=E,toks:=j.toks+([]:List (Str×Value)).length }->codeAny (model X.prog X.w) X.A (.compLoop (.ListComp af [⟨a,F,ak,0⟩] scope av) 0 (.ref it) (.ref j.heap.objs.size) (compEnvC scope l M.objs.size X.env))
  (compPost (model X.prog X.w) X.A X.xe none (EP X Z σ Q) (.ref j.heap.objs.size) M.objs.size) L:=by
  rintro L rfl;refine Bj (λn s'=>∃i ys a3 S,Inv Xc [] a3 S s'/\tn i s'.heap/\(∀b∈k,S b=none)/\W i n ys a3 S) ?_ m0 ⟨0,[],_,_,Ic,a2,bk,w0⟩;rintro n s3 ⟨i,ys,P,H3,I3,a4,aS,w3⟩;rcases aC i n ys P H3 w3 with⟨stop,q⟩|⟨go,step⟩
  .subst N;refine ϔ (U.done (X.comp Nc scope l M.objs.size j H1 k) rfl rfl rfl hc i [] s3 P H3 _ I3 (K aS) a4 stop) λr s4 ⟨hr,I4⟩=>?_;subst hr;obtain⟨m4,bm,_⟩:=id I4.loc;exact⟨m4,bm,λh' bY=>⟨.ref j.heap.objs.size,H3,Fj I1 ai f1 I4 bY,rfl,q⟩⟩
  .subst N;refine ϔ (U.item (X.comp Nc scope l M.objs.size j H1 k) rfl rfl rfl hc i [] s3 P H3 _ I3 (K aS) a4 go) λr s4 ⟨u,hr,h4⟩=>?_;subst hr;refine ϔ h4 λ_ s5 ⟨x,H5,I5,r5,y5,al,b0⟩=>?_;have br:=I5.pinned (K b0) (U.obj _ _ al);have Y:∀{ac:St}{H7:Hp}{s7:Shared},Inv (X.comp Nc scope l M.objs.size j H1 k) ([]++xa k s5.heap) ac H7 s7->Inv (X.comp Nc scope l M.objs.size j H1 k) [] ac H7 s7/\tn (i+1) s7.heap/\∀b∈k,H7 b=none:=λ{ac H7 s7} I7=>by
    refine⟨I7.ϰ,U.keep _ _ _ al λb z o e=>(I7.pin (b,o) (bf _ (bf _ (pH z e)))).1,λb z=>?_⟩;obtain⟨o,e,d⟩:=U.obj _ _ al b z;exact(I7.pin (b,o) (bf _ (bf _ (pH z e)))).2.1
   refine ϔ (hg _ _ _ _ _ s5 P H5 x u _ br r5 (step x H5 y5)) λ_ s6 ⟨G,H6,I6,q6⟩=>?_;refine BC (ht _ _ _ _ _ s6 G H6 _ I6 q6) λok s7 H7 I7 q7=>?_;cases ok with
   | false=>
     rw[ag bD]at q7 ⊢;obtain⟨m',hm,w7⟩:=q7;obtain⟨J1,J2,J3⟩:=Y I7;exact⟨m',hm,i+1,ys,G,H7,J1,J2,J3,w7⟩
   | true=>
     rw[aj rfl]at q7 ⊢;refine eJ (he _ _ _ _ _ s7 G H7 _ I7 q7) λy s8 yv H8 I8 r8 ⟨be,bt,m',hm,w8⟩=>?_;refine ϔ (ic _ s8 G H8 (.ref j.heap.objs.size) [yv] _ [y] (λv' S=>W (i+1) m' (ys++[yv]) G S) I8 rfl (.cons r8 .nil) ⟨_,ys,yv,rfl,rfl,be,bt,w8⟩) λv9 s9 ⟨_,H9,I9,_,w9⟩=>?_;obtain⟨J1,J2,J3⟩:=Y I9;exact⟨m',hm,i+1,ys++[yv],G,H9,J1,J2,J3,w9⟩
 exact codeAny_compStart_list (V _ rfl) (U.self _ 0 _ _ _ a2 (V _ rfl))
end
section
variable{X:Cx}
def aaw:V->List V->Hp->VK->Prop:=λx b H Q=>∃(l:Addr)(a:List V)(i:Int)(y:V),x=.ref l/\b=[.int i,y]/\H l=some (.lst a)/\0<=i/\i<=a.length/\a.length<sizeLine/\Q .ο (upd H l (.lst (a.take i.toNat++y::a.drop i.toNat)))
theorem Pg:MtM X "list.insert" aaw:=by
 intro f s K H x D v w Q I o u h;obtain⟨l,E,i,y,rfl,rfl,g,C,B,G,q⟩:=h;cases o;obtain⟨A,b,rfl,⟨t,rfl⟩,j⟩:=u.two;obtain⟨z,a,n,r,m,e⟩:=I.aev g;have J:=u5;have p:Builtin.List.listFitsIndex i=true:=by
  unfold Builtin.List.listFitsIndex;rw[bK];exact⟨bq (by lia),bq (by lia)⟩
 have d:¬(!Builtin.List.listFitsIndex i)=true:=by rw[p];decide
 have c:a.toArray.size<=sizeLine:=by rw[aY,<-m];exact z
 refine call_meets mq ⟨_,e,rfl⟩ PySem.F.entry_list_insert (PySem.F.args_list_insert_3 _ _ _) (PySem.AutoSeq1.list_insert_list_int_val_1 l a.toArray n i t b d c) ⟨e,?_⟩;refine⟨.ο,_,I.afI (its':=a.take i.toNat++b::a.drop i.toNat) g e ?_ ((r.take i.toNat).append (.cons j (r.drop i.toNat))) ?_,rfl,q⟩
 .show(a.toArray.extract 0 (if i<0 then(i+(a.toArray.size:Int)).toNat else min i.toNat a.toArray.size)).push b++a.toArray.extract (if i<0 then(i+(a.toArray.size:Int)).toNat else min i.toNat a.toArray.size)=_;have k:(if i<0 then(i+(a.toArray.size:Int)).toNat else min i.toNat a.toArray.size)=i.toNat:=by
   rw[ag (by lia),aY]
   lia
  rw[k];exact PySem.W.kl_ins_eq a i.toNat b
 .rw[aX,aR,bE,gA]
  lia
theorem qF:Rw X (binaryOp .Mult) (rI (λi j=>IntMulOk i j) λi j=>.int (i*j)):=opI λi j t u s Q E h q=>PyProof.Rows.mul_int q h
theorem SM(J:X.calm=true):oC X (.builtin "all") (λB H Q=>∃(p:Addr)(c:List Bool),B=[.ref p]/\ν X.K H p (c.map V.bl)/\Q (.bl (c.all id)) H):=by
 intro n s Y H B T Q I r h;obtain⟨p,c,rfl,S,q⟩:=h;obtain⟨u,rfl,l⟩:=uu r;cases l;obtain⟨a,C,t,W⟩:=I.list S;have w:=t.isList;have M:=t.lt;have R:X.A.in1.handled=none:=I.ok.hd J;have d:a.length=c.length:=by rw[<-C.length,ah]
 refine call_all_walk (jg w ?_);refine⟨s.heap.objs.size,[s.heap.objs.size,p],[s.heap.objs.size],a.toArray.size,_,_,λi=>(c[i]?).getD true,rfl,Walks.list (A:=X.A.in1) R _ p (aW M) a.toArray,⟨⟨_,bc _ rfl,rfl,rfl⟩,w.push _⟩,λi v D L U P k=>?_,λG N F=>?_⟩
 .have f:a[i]?=some v:=by simpa using P
  have j:i<c.length:=by rw[<-d];exact(aD.mp f).1
  obtain⟨u,y,l⟩:=C.get (i:=i) (x:=V.bl c[i]) (by rw[aJ,ay j];rfl);rw[f]at y;cases y;cases l;replace k:L (c[i]?.getD true) D:=k;rw[ay j]at k;exact dN k
 .have e:((List.range a.toArray.size).all λi=>(c[i]?).getD true)=c.all id:=by
   rw[aY,d];rw[ip,gL,gL]
   constructor
   .intro z b hb;obtain⟨i,f,rfl⟩:=kL hb;have:=z i (cQ.mpr f);rw[ay f]at this;exact this
   .intro z i f;have g:=cQ.mp f;rw[ay g];exact z _ (eT g)
  have O:∀b o,s.heap.get? b=some o->G.get? b=some o:=λb o m=>F b o (λE=>by rw[aK.mp E]at m;exact dM _ (aM m)) (aF _ m);rw[e];exact⟨.bl _,H,I.kept (t':=N) O,rfl,q⟩
end
structure aad(P:Program)(w:World)(l:Addr)(ob:Obj)(src:Heap->Array Value->Prop)(at':Addr->Nat->Heap->Prop):Prop where
 start:∀(A:Around)(s:Shared)(vs:Array Value)(Q:fz)(E:fz),src s.heap vs->Q (.ref s.heap.objs.size) { s with heap:=s.heap.push ob }->wpAny (model P w) A (pyIter (.ref l)) Q E s
 first:∀it h,h.get? it=some ob->at' it 0 h
 atK:∀it i h h',at' it i h->(∀o,h.get? it=some o->h'.get? it=some o)->at' it i h'
 abk:∀h h' vs,src h vs->(∀o,h.get? l=some o->h'.get? l=some o)->src h' vs
 obj:∀it i h,at' it i h->∃o,h.get? it=some o/\∀v,o.data≠.cell v
 item:∀(A:Around)(s:Shared)(it:Addr)(i:Nat)(vs:Array Value)(x:Value)(Q:fz)(E:fz),at' it i s.heap->src s.heap vs->vs[i]?=some x->(∀h',at' it (i+1) h'->Heap.SameBut it s.heap h'->Q x { s with heap:=h' })->wpAny (model P w) A (Builtin.SmallTypes.nextOf (.ref it)) Q E s
 fin:∀(A:Around)(s:Shared)(it:Addr)(i:Nat)(vs:Array Value)(Q:fz)(E:fz),A.handled=none->at' it i s.heap->src s.heap vs->vs[i]?=none->(∀h' e,Heap.ExtBut it s.heap h'->(∃o,h'.get? e=some o/\o.cls=.type "StopIteration")->E (.ref e) { s with heap:=h' })->wpAny (model P w) A (Builtin.SmallTypes.nextOf (.ref it)) Q E s
theorem Qx{P:Program}{w:World}(l:Addr):aad P w l { cls:=.type "list_iterator",data:=.fields #[.ref l,.int 0 0] } (λh b=>h.IsList l b) (λa i h=>h.IsListIter a l i) where
 start:=λA s b Q E m c=>jg m c
 first:=λa h e=>⟨_,e,rfl,rfl⟩
 atK:=λa i h j x k=>x.at k
 abk:=λh j b x k=>x.at k
 obj:=λa i h x=>by
  obtain⟨o,n,_,hd⟩:=x;exact⟨o,n,λv z=>by rw[hd]at z;cases z⟩
 item:=λA s a i b x Q E d f g c=>wpAny_nextOf_list_item d f g c
 fin:=λA s a i b Q E p d f g c=>wpAny_nextOf_list_end p d f g c
section
variable{P:Program}{w:World}{A:Around}{E:fz}{s:Shared}
theorem Ar{c t:Addr}{i:Nat}{j:Array Value}{x:Value}{Q:fz}(d:s.heap.IsTupleIter c t i)(k:s.heap.IsTuple t j)(l:j[i]?=some x)(m:∀f,f.IsTupleIter c t (i+1)->Heap.SameBut c s.heap f->Q x { s with heap:=f }):wpAny (model P w) A (Builtin.SmallTypes.nextOf (.ref c)) Q E s:=by
 obtain⟨n,b,e,a⟩:=id d;obtain⟨o,h,_,p,g⟩:=k;unfold Builtin.SmallTypes.nextOf;refine ao (wpAny_callSpecial?_slot (name:=Str.ofString "__next__") d.typeIs gC (jD gC d.typeIs lJ ?_ (kT _)));show wpAny (model P w) _ (field (.ref c) 0>>=_) _ _ s;refine ao (cZ b a (x:=.ref t) rfl ?_);show wpAny (model P w) _ (if(Value.ref t==Value.none)=true then _ else _) _ _ s;rw[ag (by exact bD)];show wpAny (model P w) _ (field (.ref c) 1>>=_) _ _ s;refine ao (cZ b a (x:=.int i 0) rfl ?_);show wpAny (model P w) _ (seqItems? (.ref t)>>=_) _ _ s;refine ao (eO h g ?_);simp only[bR,l];refine ao (iZ b a (by simp) (bi ⟨x,rfl,bi (m _ ?_ (Heap.SameBut.update ..))⟩));exact⟨_,fI _ b (iq (fe a _)),(Obj.cls_mapFields ..).trans e,by rw[fe a];simp[rawInt]⟩
theorem Br{d t:Addr}{i:Nat}{k:Array Value}{Q:fz}(l:A.handled=none)(f:s.heap.IsTupleIter d t i)(p:s.heap.IsTuple t k)(q:k[i]?=none)(r:∀g e,Heap.ExtBut d s.heap g->(∃o,g.get? e=some o/\o.cls=.type "StopIteration")->E (.ref e) { s with heap:=g }):wpAny (model P w) A (Builtin.SmallTypes.nextOf (.ref d)) Q E s:=by
 obtain⟨u,c,n,b⟩:=id f;obtain⟨v,j,_,y,h⟩:=p;unfold Builtin.SmallTypes.nextOf;refine ao (wpAny_callSpecial?_slot (name:=Str.ofString "__next__") f.typeIs gC (jD gC f.typeIs lJ ?_ (kT _)));show wpAny (model P w) _ (field (.ref d) 0>>=_) _ _ s;refine ao (cZ c b (x:=.ref t) rfl ?_);show wpAny (model P w) _ (if(Value.ref t==Value.none)=true then _ else _) _ _ s;rw[ag (by exact bD)];show wpAny (model P w) _ (field (.ref d) 1>>=_) _ _ s;refine ao (cZ c b (x:=.int i 0) rfl ?_);show wpAny (model P w) _ (seqItems? (.ref t)>>=_) _ _ s;refine ao (eO j h ?_);simp only[bR,q];refine ao (wpAny_rule (ao (iZ c b (by simp) ?_)));show wpAny (model P w) _ (newExc (.type "StopIteration") []>>=_) _ _ _;refine ao ?_;simp only[newExc,newTuple];refine ao (h9 ?_ (by size_fits));refine ao (m:=firstArgMember _ _) (wpAny_of_eq (a:=Value.none) (by first|rfl|(simp only[firstArgMember];rfl)) ?_);refine h9 ?_ (by size_fits);simp only[raiseNew];refine ao (wpAny_handled ?_)
 first|rw[show A.in1.handled=none from l]|rw[l]
 refine ao (bi (wpAny_throw ?_));exact r _ _ (((Heap.SameBut.update ..).extBut.push _).push _) ⟨_,bc _ rfl,rfl⟩
end
theorem Rn{P:Program}{w:World}(l:Addr):aad P w l { cls:=.type "tuple_iterator",data:=.fields #[.ref l,.int 0 0] } (λh b=>h.IsTuple l b) (λa i h=>h.IsTupleIter a l i) where
 start:=λA s b Q E n d=>lB n d
 first:=λa h e=>⟨_,e,rfl,rfl⟩
 atK:=λa i h m x k=>let ⟨o,c,r⟩:=x;⟨o,k o c,r⟩
 abk:=λh m b x k=>let ⟨o,c,r⟩:=x;⟨o,k o c,r⟩
 obj:=λa i h x=>by
  obtain⟨o,c,_,hd⟩:=x;exact⟨o,c,λv z=>by rw[hd]at z;cases z⟩
 item:=λA s a i b x Q E f g j d=>Ar f g j d
 fin:=λA s a i b Q E p f g j d=>Br p f g j d
structure ZAp(z TI TO i1 i2 l1 l2:Addr):Prop where
 a1:TI≠z
 a2:TO≠z
 a3:i1≠z
 a4:i2≠z
 a5:TI≠TO
 a6:TI≠i1
 a7:TI≠i2
 a8:TO≠i1
 a9:TO≠i2
 a0:i1≠i2
 b1:l1≠z/\l1≠TO/\l1≠i1/\l1≠i2
 b2:l2≠z/\l2≠TO/\l2≠i1/\l2≠i2
section
variable{P:Program}{w:World}{A:Around}{E:fz}{s:Shared}{p n:Addr}{f i:Obj}{k j:Heap->Array Value->Prop}{l m:Addr->Nat->Heap->Prop}
theorem GY(I:aad P w p f k l)(K:aad P w n i j m){z TI TO g h:Addr}{M L:Nat}{Z ys:Array Value}{x y a b:Value}{Q:fz}(D:ZAp z TI TO g h p n)(H:IsZip s.heap z TI TO .none)(HI:IsPair s.heap TI (.ref g) (.ref h))(T:IsPair s.heap TO a b)(p1:l g M s.heap)(p2:m h L s.heap)(q1:k s.heap Z)(q2:j s.heap ys)(hx:Z[M]?=some x)(hy:ys[L]?=some y)(hQ:∀q,IsZip q z TI TO (rawInt s.heap.objs.size)->IsPair q TO x y->l g (M+1) q->m h (L+1) q->IsPair q s.heap.objs.size x y->q.objs.size=s.heap.objs.size+1->(∀c o,c≠z->c≠TO->c≠g->c≠h->s.heap.get? c=some o->q.get? c=some o)->Q (.ref s.heap.objs.size) { s with heap:=q }):wpAny (model P w) A (Builtin.«zip.__next__» ⟨[.ref z],[]⟩) (λfn s'=>∃v,fn=.done (.ret v)/\Q v s') E s:=by
 show wpAny (model P w) _ (field (.ref z) 2>>=_) _ _ _;refine ao (cZ H rfl (x:=.bool false) rfl ?_);show wpAny (model P w) _ (field (.ref z) 3>>=_) _ _ _;refine ao (cZ H rfl (x:=.ref TI) rfl ?_);refine ao (eO HI rfl ?_);show wpAny (model P w) _ (Builtin.SmallTypes.ownedTupleIsFree (.ref z)>>=_) _ _ _;refine ao ?_;unfold Builtin.SmallTypes.ownedTupleIsFree;refine ao (cZ H rfl (x:=.none) rfl (bi ?_));simp only[if_true];refine ao (wpAny_rule ?_);refine ao (cZ H rfl (x:=.ref TO) rfl ?_);refine ao (f6 H (by simp) λg1 z1 t=>?_);replace z1:IsZip g1 z TI TO .ellipsis:=z1;refine ao ?_;simp only[List.zipIdx_cons,List.zipIdx_nil,mY,List.forIn_nil];refine ao (ao (lC ?_));show wpAny (model P w) _ (Builtin.SmallTypes.nextOf (.ref g)>>=_) _ _ _;refine ao (I.item _ { s with heap:=g1 } g M Z x _ _ (I.atK _ _ _ _ p1 λo e=>t.extBut _ _ D.a3 e) (I.abk _ _ _ q1 λo e=>t.extBut _ _ D.b1.1 e) hx λg2 V u=>bi ?_);have o2:IsPair g2 TO a b:=u.extBut _ _ D.a8 (t.extBut _ _ D.a2 T);refine ao (eO o2 rfl ?_);refine ao (kh o2 λg3 o3 B=>?_);replace o3:IsPair g3 TO x b:=o3;refine ao (mB (bi ?_));refine ao (ao (lC ?_));show wpAny (model P w) _ (Builtin.SmallTypes.nextOf (.ref h)>>=_) _ _ _;refine ao (K.item _ { s with heap:=g3 } h L ys y _ _ (K.atK _ _ _ _ p2 λo e=>B.extBut _ _ D.a9.symm (u.extBut _ _ D.a0.symm (t.extBut _ _ D.a4 e))) (K.abk _ _ _ q2 λo e=>B.extBut _ _ D.b2.2.1 (u.extBut _ _ D.b2.2.2.1 (t.extBut _ _ D.b2.1 e))) hy λg4 ad F=>bi ?_);have o4:IsPair g4 TO x b:=F.extBut _ _ D.a9 o3;refine ao (eO o4 rfl ?_);refine ao (kh o4 λd R G=>?_);replace R:IsPair d TO x y:=R;refine ao (mB (bi (bi ?_)));refine ao (eO R rfl ?_);refine ao (wpAny_newTuple ?_);have sz:d.objs.size=s.heap.objs.size:=by rw[G.1,F.1,B.1,u.1,t.1]
 have z5:IsZip d z TI TO .ellipsis:=G.extBut _ _ D.a2.symm (F.extBut _ _ D.a4.symm (B.extBut _ _ D.a2.symm (u.extBut _ _ D.a3.symm z1)));have k5:∀c o,c≠z->c≠TO->c≠g->c≠h->s.heap.get? c=some o->d.get? c=some o:=λc o r N W Y e=>
  G.extBut _ _ N (F.extBut _ _ Y (B.extBut _ _ N (u.extBut _ _ W (t.extBut _ _ r e))))
 have ac:l g (M+1) d:=I.atK _ _ _ _ V λo e=>G.extBut _ _ D.a8.symm (F.extBut _ _ D.a0 (B.extBut _ _ D.a8.symm e));have U:m h (L+1) d:=K.atK _ _ _ _ ad λo e=>G.extBut _ _ D.a9.symm e;have J:z<d.objs.size:=aM z5;show wpAny (model P w) _ (Builtin.SmallTypes.ownedTupleHandOut (.ref z) (.ref d.objs.size)>>=_) _ _ _;refine ao ?_;unfold Builtin.SmallTypes.ownedTupleHandOut;have z6:IsZip (d.push { cls:=.type "tuple",data:=.seq #[x,y] }) z TI TO .ellipsis:=aF _ z5;refine ao (f6 z6 (by simp) λg7 X S=>?_);replace X:IsZip g7 z TI TO (rawInt d.objs.size):=X;refine f6 X (by simp) λC O e8=>?_;replace O:IsZip C z TI TO (rawInt d.objs.size):=O;have up:∀c o,c≠z->d.get? c=some o->C.get? c=some o:=λc o r e=>e8.extBut _ _ r (S.extBut _ _ r (aF _ e));have t8:IsPair C d.objs.size x y:=e8.extBut _ _ (fH J) (S.extBut _ _ (fH J) (bc _ rfl));have s8:C.objs.size=d.objs.size+1:=by rw[e8.1,S.1,dR]
 rw[sz]at O t8 s8;refine bi ⟨_,rfl,?_⟩;show Q (.ref d.objs.size) _;rw[sz];exact hQ C O (up _ _ D.a2 R) (I.atK _ _ _ _ ac λo e=>up _ o D.a3 e) (K.atK _ _ _ _ U λo e=>up _ o D.a4 e) t8 s8 λc o r N W Y e=>up c o r (k5 c o r N W Y e)
theorem Ka(K:aad P w p f k l)(V:aad P w n i j m){z TI TO q B:Addr}{C N:Nat}{y L:Array Value}{a b:Value}{Q:Fin->Shared->Prop}(hh:A.handled=none)(D:ZAp z TI TO q B p n)(H:IsZip s.heap z TI TO .none)(HI:IsPair s.heap TI (.ref q) (.ref B))(R:IsPair s.heap TO a b)(p1:l q C s.heap)(p2:m B N s.heap)(q1:k s.heap y)(q2:j s.heap L)(Z:y[C]?=none\/L[N]?=none)(hE:∀O e,(∀c o,c≠z->c≠TO->c≠q->c≠B->s.heap.get? c=some o->O.get? c=some o)->(∃o,O.get? e=some o/\o.cls=.type "StopIteration")->E (.ref e) { s with heap:=O }):wpAny (model P w) A (Builtin.«zip.__next__» ⟨[.ref z],[]⟩) Q E s:=by
 show wpAny (model P w) _ (field (.ref z) 2>>=_) _ _ _;refine ao (cZ H rfl (x:=.bool false) rfl ?_);show wpAny (model P w) _ (field (.ref z) 3>>=_) _ _ _;refine ao (cZ H rfl (x:=.ref TI) rfl ?_);refine ao (eO HI rfl ?_);show wpAny (model P w) _ (Builtin.SmallTypes.ownedTupleIsFree (.ref z)>>=_) _ _ _;refine ao ?_;unfold Builtin.SmallTypes.ownedTupleIsFree;refine ao (cZ H rfl (x:=.none) rfl (bi ?_));simp only[if_true];refine ao (wpAny_rule ?_);refine ao (cZ H rfl (x:=.ref TO) rfl ?_);refine ao (f6 H (by simp) λG M u=>?_);replace M:IsZip G z TI TO .ellipsis:=M;refine ao ?_;simp only[List.zipIdx_cons,List.zipIdx_nil,mY,List.forIn_nil];refine ao (ao (lC ?_));show wpAny (model P w) _ (Builtin.SmallTypes.nextOf (.ref q)>>=_) _ _ _;have J:l q C G:=K.atK _ _ _ _ p1 λo e=>u.extBut _ _ D.a3 e;have I:k G y:=K.abk _ _ _ q1 λo e=>u.extBut _ _ D.b1.1 e;cases hx:y[C]? with
 | none=>
   refine ao (K.fin _ { s with heap:=G } q C y _ _ hh J I hx λY e r X=>?_);obtain⟨W,d,g⟩:=X;have z2:IsZip Y z TI TO .ellipsis:=r _ _ D.a3.symm M;have T:e≠z:=λt=>by subst t;rw[z2]at d;cases d;simp at g
   refine f6 z2 (by simp) λS _ v=>hE S e (λc o F _ U _ t=>v.extBut _ _ F (r _ _ U (u.extBut _ _ F t))) ⟨W,v.extBut _ _ T d,g⟩
 | some x=>
   have hy:L[N]?=none:=by
    rcases Z with h|h
    .rw[hx]at h;cases h
    .exact h
   refine ao (K.item _ { s with heap:=G } q C y x _ _ J I hx λY au r=>bi ?_);have o2:IsPair Y TO a b:=r.extBut _ _ D.a8 (u.extBut _ _ D.a2 R);refine ao (eO o2 rfl ?_);refine ao (kh o2 λS o3 v=>?_);refine ao (mB (bi ?_));refine ao (ao (lC ?_));show wpAny (model P w) _ (Builtin.SmallTypes.nextOf (.ref B)>>=_) _ _ _;refine ao (V.fin _ { s with heap:=S } B N L _ _ hh (V.atK _ _ _ _ p2 λo e=>v.extBut _ _ D.a9.symm (r.extBut _ _ D.a0.symm (u.extBut _ _ D.a4 e))) (V.abk _ _ _ q2 λo e=>v.extBut _ _ D.b2.2.1 (r.extBut _ _ D.b2.2.2.1 (u.extBut _ _ D.b2.1 e))) hy λg4 e e4 X=>?_);obtain⟨W,d,g⟩:=X;have z4:IsZip g4 z TI TO .ellipsis:=e4 _ _ D.a4.symm (v.extBut _ _ D.a2.symm (r.extBut _ _ D.a3.symm M));have T:e≠z:=λt=>by subst t;rw[z4]at d;cases d;simp at g
   refine f6 z4 (by simp) λg5 _ e5=>hE g5 e (λc o F c2 U c4 t=>e5.extBut _ _ F (e4 _ _ c4 (v.extBut _ _ c2 (r.extBut _ _ U (u.extBut _ _ F t))))) ⟨W,e5.extBut _ _ T d,g⟩
abbrev zp1(h:Heap)(f i:Obj):Heap:=(h.push f).push i
abbrev zp2(h:Heap)(f i:Obj):Heap:=(zp1 h f i).push { cls:=.type "tuple",data:=.seq #[.ref h.objs.size,.ref (h.push f).objs.size] }
abbrev zp3(h:Heap)(f i:Obj):Heap:=(zp2 h f i).push { cls:=.type "tuple",data:=.seq #[.none,.none] }
abbrev zp4(h:Heap)(f i:Obj):Heap:=(zp3 h f i).push { cls:=.type "zip",data:=.fields #[.none,.bool false,.bool false,.ref (zp1 h f i).objs.size,.ref (zp2 h f i).objs.size] }
theorem Gr(y:∀P w,aad P w p f k l)(u:∀P w,aad P w n i j m)(ne:∀h x,j h x->∃o,h.get? n=some o)(c q:Array Value):Meets (Builtin.«zip.__new__» ⟨[.type "zip",.ref p,.ref n],[]⟩) (λ_ R s=>k s.heap c/\j s.heap q/\R (.ok (.ret (.ref (zp3 s.heap f i).objs.size))) { s with heap:=zp4 s.heap f i }):=.of_wp λa w A R s b=>by
 obtain⟨v,g,d,t,os⟩:=s;obtain⟨B,z,r⟩:=b;have C:=sub_zip;have F:k (Shared.heap ⟨v,g,d,t,os⟩) c:=B;have D:j (Shared.heap ⟨v.push f,g,d,t,os⟩) q:=(u a w).abk _ _ _ z λo e=>aF _ e
 wp_walk using ((y a w).start _ _ _ _ _ F),((u a w).start _ _ _ _ _ D)
 exact⟨_,rfl,r⟩
theorem SJ(x:∀P w,aad P w p f k l)(C:∀P w,aad P w n i j m)(ne:∀h H,j h H->∃o,h.get? n=some o){z B:Array Value}{Q:fz}(K:k s.heap z)(J:j s.heap B)(h:∀a,IsZip a (s.heap.objs.size+4) (s.heap.objs.size+2) (s.heap.objs.size+3) .none->IsPair a (s.heap.objs.size+2) (.ref s.heap.objs.size) (.ref (s.heap.objs.size+1))->IsPair a (s.heap.objs.size+3) .none .none->l s.heap.objs.size 0 a->m (s.heap.objs.size+1) 0 a->(∀c o,s.heap.get? c=some o->a.get? c=some o)->Q (.ref (s.heap.objs.size+4)) { s with heap:=a })(G:f.isFreed=false)(I:i.isFreed=false):wpAny (model P w) A (call (.type "zip") [.ref p,.ref n]) Q E s:=by
 refine callType_new F.called_zip (by decide) (F.typeCall_zip_2 _ _) (F.newCall_zip_2 _ _) (λb=>F.args_object_init_3 b _ _) F.entry_zip_new (Gr x C ne z B) ⟨K,J,?_⟩;have r:(s.heap.push f).objs.size=s.heap.objs.size+1:=dR ..;have g:(zp1 s.heap f i).objs.size=s.heap.objs.size+2:=by rw[dR,r]
 have d:(zp2 s.heap f i).objs.size=s.heap.objs.size+3:=by rw[dR,g]
 have t:(zp3 s.heap f i).objs.size=s.heap.objs.size+4:=by rw[dR,d]
 have q:(zp4 s.heap f i).get? (zp3 s.heap f i).objs.size=some _:=bc _ rfl;have y:(zp4 s.heap f i).get? (zp2 s.heap f i).objs.size=some _:=aF _ (bc _ rfl);have u:(zp4 s.heap f i).get? (zp1 s.heap f i).objs.size=some _:=aF _ (aF _ (bc _ rfl));have v:(zp4 s.heap f i).get? (s.heap.push f).objs.size=some i:=aF _ (aF _ (aF _ (bc _ I)));have D:(zp4 s.heap f i).get? s.heap.objs.size=some f:=aF _ (aF _ (aF _ (aF _ (bc _ G))));show _/\_;rw[g,d,t]at q;rw[r,g]at u;rw[d]at y;rw[r]at v;rw[t];exact⟨⟨_,q,rfl⟩,h _ q u y ((x P w).first _ _ D) ((C P w).first _ _ v) λc o e=>aF _ (aF _ (aF _ (aF _ (aF _ e))))⟩
end
def ϑ(K:f3):Bool->Hp->Addr->List V->Prop
 | true,H,a,xs=>ν K H a xs
 | false,H,a,xs=>Ξ K H a xs
def Itz(K:f3)(c d:Bool)(a b:Addr):It:=⟨λi H=>∃e f x y,ϑ K c H a e/\ϑ K d H b f/\e[i]?=some x/\f[i]?=some y,λi H v g=>∃p x y,H p=none/\v=.ref p/\g=upd H p (.tup [x,y])/\(∀e,ϑ K c H a e->e[i]?=some x)/\∀f,ϑ K d H b f->f[i]?=some y,λi H=>∃e f,ϑ K c H a e/\ϑ K d H b f/\(e.length<=i\/f.length<=i)⟩
def V5(a:Addr):Bool->Obj
 | true=>{ cls:=.type "list_iterator",data:=.fields #[.ref a,.int 0 0] }
 | false=>{ cls:=.type "tuple_iterator",data:=.fields #[.ref a,.int 0 0] }
def Nz(a:Addr):Bool->Heap->Array Value->Prop
 | true,h,vs=>h.IsList a vs
 | false,h,vs=>h.IsTuple a vs
def zAt(a:Addr):Bool->Addr->Nat->Heap->Prop
 | true,it,i,h=>h.IsListIter it a i
 | false,it,i,h=>h.IsTupleIter it a i
theorem kZ(a:Addr)(c:Bool)(P:Program)(w:World):aad P w a (V5 a c) (Nz a c) (zAt a c):=by
 cases c
 .exact Rn a
 .exact Qx a
theorem zz(a:Addr)(c:Bool):(V5 a c).isFreed=false:=by cases c<;>rfl
theorem ue(a:Addr)(c:Bool)(h:Heap)(b:Array Value)(e:Nz a c h b):∃o,h.get? a=some o:=by
 cases c
 .obtain⟨o,ho,_⟩:=e;exact⟨o,ho⟩
 .obtain⟨o,ho,_⟩:=e;exact⟨o,ho⟩
theorem Inv.gE{X:Cx}{d:f5}{k:St}{H:Hp}{s:Shared}{c:Bool}{a:Addr}{e:List V}(I:Inv X d k H s)(h:ϑ X.K c H a e):∃b:List Value,Vals e b/\Nz a c s.heap b.toArray:=by
 cases c with
 | true=>
   obtain⟨b,r,f,_⟩:=I.list h;exact⟨b,r,f.isList⟩
 | false=>
   obtain⟨b,r,⟨o,j,g,n,i⟩,_⟩:=I.tuple h;exact⟨b,r,⟨o,j,g,n,i⟩⟩
theorem Inv.abl{X:Cx}{b:f5}{g:St}{H:Hp}{s:Shared}{c:Bool}{a:Addr}{e f:List V}(I:Inv X b g H s)(h:ϑ X.K c H a e)(d:ϑ X.K c H a f):e=f:=by
 cases c with
 | true=>exact I.iO h d
 | false=>exact I.aaV h d
theorem QJ{P:Program}{w:World}{K:f3}{U:List Expr}{x1}{aal:Pos}(c d:Bool)(a b z TI TO i1 i2:Addr)(D:ZAp z TI TO i1 i2 a b):Turn P w K (.Tuple U x1 aal) (Itz K c d a b) [z,TI,TO,i1,i2] z (λi h=>IsZip h z TI TO .none/\IsPair h TI (.ref i1) (.ref i2)/\(∃u v,IsPair h TO u v)/\zAt a c i1 i h/\zAt b d i2 i h) where
 mem:=by simp
 obj:=λi h t e he=>by
  obtain⟨t1,J,⟨u,v,N⟩,M,L⟩:=t;simp only[aw,d8,or_false]at he;rcases he with rfl|rfl|rfl|rfl|rfl
  .exact⟨_,t1,λv z=>by cases z⟩
  .exact⟨_,J,λv z=>by cases z⟩
  .exact⟨_,N,λv z=>by cases z⟩
  .exact(kZ a c P w).obj _ _ _ M
  .exact(kZ b d P w).obj _ _ _ L
 keep:=λi h h' t k=>by
  obtain⟨t1,J,⟨u,v,N⟩,M,L⟩:=t;exact⟨k z (by simp) _ t1,k TI (by simp) _ J,⟨u,v,k TO (by simp) _ N⟩,(kZ a c P w).atK _ _ _ _ M λo e=>k i1 (by simp) o e,(kZ b d P w).atK _ _ _ _ L λo e=>k i2 (by simp) o e⟩
 item:=λX e1 e2 e3 hc i B s σ H E I f t g=>by
  subst e1 e2 e3;obtain⟨t1,J,⟨u,v,N⟩,M,L⟩:=t;obtain⟨xs,ys,x,y,s1,s2,hx,hy⟩:=g;obtain⟨us,r1,q1⟩:=I.gE s1;obtain⟨vs,r2,q2⟩:=I.gE s2;obtain⟨xu,aS,rx⟩:=r1.get hx;obtain⟨yu,a9,ry⟩:=r2.get hy;have hT:s.TypeIs (.ref z) "zip":=⟨_,t1,rfl⟩;unfold pyNext;refine ao (wpAny_attempt (wpAny_callSpecial?_slot (name:=Str.ofString "__next__") hT ku (jD ku hT F.entry_zip_next
   (GY (kZ a c _ _) (kZ b d _ _) D t1 J N M L q1 q2 (x:=xu) (y:=yu) (by simpa using aS) (by simpa using a9) λh' w1 w2 w3 w4 w5 w6 w7=>bi ?_) (F.args_zip_next_1 _))))
  refine⟨_,rfl,wpAny_letOwnedTupleGo_zip w1 λZ n1 R=>?_⟩;have G:∀q∈[z,TI,TO,i1,i2],qz X B H q:=f;have am:s.heap.objs.size≠z:=fH (aM t1);have bn:IsPair Z s.heap.objs.size xu yu:=R.extBut _ _ am w5;have kp:∀q o,q∉[z,TI,TO,i1,i2]->s.heap.get? q=some o->Z.get? q=some o:=λq o j e=>by
   simp only[aw,d8,or_false,not_or]at j;exact R.extBut _ _ j.1 (w7 q o j.1 j.2.2.1 j.2.2.2.1 j.2.2.2.2 e)
  have an:Z.get? TI=some _:=R.extBut _ _ D.a1 (w7 TI _ D.a1 D.a5 D.a6 D.a7 J);have Y:∀q u,H q=some u->q∉[z,TI,TO,i1,i2]:=λq u e j=>by rw[(G q j).1]at e;cases e
  have C:Inv X B σ H { s with heap:=Z }:=by
   refine I.step (g':=s.gens) (d':=s.drawn) (t':=s.toks) (ch:=[z,TI,TO,i1,i2]) (λq j=>⟨(G q j).2.2.2.1,(G q j).2.1,(G q j).2.2.2.2.1,(G q j).2.2.2.2.2⟩) (λq o _ _ j e _=>kp q o j e) (λq o _ _ j e _=>⟨o.slots,kp q o j e⟩) (λ_ _ _ _ n=>n)
    (λq o j e=>⟨o,kp q o j e⟩) (λ_ _ e=>e) (λ_ _ _ e=>e) (λq ps e=>⟨#[],by rw[e];simp⟩) (λm hm=>?_) (λq u e=>?_) I.bare
   .obtain⟨o,es,ep,O,r⟩:=hm;exact⟨o,es,ep,kp _ o (λj=>(G _ j).2.1 rfl) O,r⟩
   .refine(I.Β q u e).iF (λV v hq' l=>kp V v ?_ l) (λ_ l=>l) λ_ _ l=>l;rcases hq' with rfl|hq'
    .exact Y _ u e
    .exact Y _ _ hq'
  have S:H s.heap.objs.size=none:=I.fresh;have I3:Inv X B σ (upd H s.heap.objs.size (.tup [x,y])) { s with heap:=Z }:=by
   refine⟨C.ok,C.os,C.bare,?_,C.loc,C.cell,?_,λn c e=>?_,λp hp=>?_,λq u e=>?_,C.len⟩
   .refine⟨C.base.keep,C.base.slot,λq o e n hx=>?_,C.base.there,λq xs e=>?_,λq o u e=>?_,λq ps e=>?_⟩
    .have lt:q<X.s₀.heap.objs.size:=aM e;rw[aN (aW (aZ lt I.sz))];exact C.base.free q o e n hx
    .have l:=C.base.Ge q xs e;rw[aN (λz=>by rw[z,S]at l;cases l)];exact l
    .have l:=C.base.iN q o u e;rw[aN (λz=>by rw[z,S]at l;cases l)];exact l
    .obtain⟨more,l⟩:=C.base.Io q ps e;exact⟨more,by rw[aN (λz=>by rw[z,S]at l;cases l)];exact l⟩
   .rw[aN (aW I.lt)];exact C.free
   .obtain⟨vv,o,O,_⟩:=I.cell n c e;rw[aN (aW (aM O))];exact C.Ϟ n c e
   .obtain⟨k1,k2,k3⟩:=I.pin p hp;rw[aN (aW (aM k1))];exact C.pin p hp
   .by_cases j:q=s.heap.objs.size
    .subst j;rw[aE]at e;cases e;exact⟨by show 2<=sizeLine;decide,[xu,yu],.cons rx (.cons ry .nil),_,bn,rfl,_,rfl⟩
    .rw[aN j]at e;refine(C.Β q u e).iF (λ_ _ _ l=>l) (λV l=>?_) λV xs l=>?_
     .rw[aN (λz=>by rw[z,S]at l;cases l)];exact l
     .rw[aN (λz=>by rw[z,S]at l;cases l)];exact l
  refine⟨.ref s.heap.objs.size,_,I3,rfl,⟨_,x,y,S,rfl,rfl,λca q=>?_,λbY q=>?_⟩,⟨n1,an,⟨_,_,R.extBut _ _ D.a2 w2⟩,(kZ a c X.prog X.w).atK _ _ _ _ w3 λo e=>R.extBut _ _ D.a3 e,(kZ b d X.prog X.w).atK _ _ _ _ w4 λo e=>R.extBut _ _ D.a4 e⟩,λq j=>?_⟩
  .rw[<-I.abl s1 q];exact hx
  .rw[<-I.abl s2 q];exact hy
  .have ϕ:q<s.heap.objs.size:=by
    simp only[aw,d8,or_false]at j;rcases j with rfl|rfl|rfl|rfl|rfl
    .exact aM t1
    .exact aM J
    .exact aM N
    .exact let ⟨o,e,_⟩:=(kZ a c X.prog X.w).obj _ _ _ M;aM e
    .exact let ⟨o,e,_⟩:=(kZ b d X.prog X.w).obj _ _ _ L;aM e
   rw[aN (aW ϕ)];exact(G q j).1
 done:=λX e1 e2 e3 hc i B s σ H E I f t g=>by
  subst e1 e2 e3;obtain⟨t1,J,⟨u,v,N⟩,M,L⟩:=t;obtain⟨xs,ys,s1,s2,bp⟩:=g;obtain⟨us,r1,q1⟩:=I.gE s1;obtain⟨vs,r2,q2⟩:=I.gE s2;have G:∀q∈[z,TI,TO,i1,i2],qz X B H q:=f;have hh:X.A.handled=none:=I.ok.hd hc;have hT:s.TypeIs (.ref z) "zip":=⟨_,t1,rfl⟩;have bd:us.toArray[i]?=none\/vs.toArray[i]?=none:=by
   rcases bp with e|e
   .exact .inl (by have:=r1.length;simp;lia)
   .exact .inr (by have:=r2.length;simp;lia)
  unfold pyNext;refine ao (wpAny_attempt (wpAny_callSpecial?_slot (name:=Str.ofString "__next__") hT ku (jD ku hT F.entry_zip_next
   (Ka (kZ a c _ _) (kZ b d _ _) hh D t1 J N M L q1 q2 bd λh' e hk he=>?_) (F.args_zip_next_1 _))))
  obtain⟨o,O,a0⟩:=he;refine ao (wpAny_isInstance (T:="StopIteration") (b:=true) ⟨o,O,a0⟩ isSubtype_stop (bi ⟨rfl,?_⟩));have kp:∀q o,q∉[z,TI,TO,i1,i2]->s.heap.get? q=some o->h'.get? q=some o:=λq o j e=>by
   simp only[aw,d8,or_false,not_or]at j;exact hk q o j.1 j.2.2.1 j.2.2.2.1 j.2.2.2.2 e
  have Y:∀q u,H q=some u->q∉[z,TI,TO,i1,i2]:=λq u e j=>by rw[(G q j).1]at e;cases e
  refine I.step (g':=s.gens) (d':=s.drawn) (t':=s.toks) (ch:=[z,TI,TO,i1,i2]) (λq j=>⟨(G q j).2.2.2.1,(G q j).2.1,(G q j).2.2.2.2.1,(G q j).2.2.2.2.2⟩) (λq o _ _ j e _=>kp q o j e) (λq o _ _ j e _=>⟨o.slots,kp q o j e⟩) (λ_ _ _ _ n=>n)
   (λq o j e=>⟨o,kp q o j e⟩) (λ_ _ e=>e) (λ_ _ _ e=>e) (λq ps e=>⟨#[],by rw[e];simp⟩) (λm hm=>?_) (λq u e=>?_) I.bare
  .obtain⟨o,es,ep,O,r⟩:=hm;exact⟨o,es,ep,kp _ o (λj=>(G _ j).2.1 rfl) O,r⟩
  .refine(I.Β q u e).iF (λV v hq' l=>kp V v ?_ l) (λ_ l=>l) λ_ _ l=>l;rcases hq' with rfl|hq'
   .exact Y _ u e
   .exact Y _ _ hq'
 self:=λA i s Q E t q=>wpAny_pyIter_zip t.1 q
section
variable{X:Cx}{b:f5}{g:St}{H d:Hp}{s f:Shared}{a:Addr}{o:HO}
theorem Inv.ahF(I:Inv X b g H s)(i:Inv X b g d f)(k:s.heap.objs.size<=a)(j:d a=none)(l:Ν X.prog X.w (upd d a o) f.heap a o):Inv X b g (upd d a o) f:=by
 refine⟨i.ok,i.os,i.bare,?_,i.loc,i.cell,?_,λn c e=>?_,λp t=>?_,λq u e=>?_,i.len⟩
 .refine⟨i.base.keep,i.base.slot,λq m e n x=>?_,i.base.there,λq r e=>?_,λq m u e=>?_,λq y e=>?_⟩
  .rw[aN (aW (aZ (aZ (aM e) I.sz) k))];exact i.base.free q m e n x
  .have h:=i.base.Ge q r e;rw[aN (λz=>by rw[z,j]at h;cases h)];exact h
  .have h:=i.base.iN q m u e;rw[aN (λz=>by rw[z,j]at h;cases h)];exact h
  .obtain⟨more,h⟩:=i.base.Io q y e;exact⟨more,by rw[aN (λz=>by rw[z,j]at h;cases h)];exact h⟩
 .rw[aN (aW (aZ I.lt k))];exact i.free
 .obtain⟨vv,oc,ho,_⟩:=I.cell n c e;rw[aN (aW (aZ (aM ho) k))];exact i.Ϟ n c e
 .obtain⟨k1,k2,k3⟩:=I.pin p t;rw[aN (aW (aZ (aM k1) k))];exact i.pin p t
 .by_cases hq:q=a
  .subst hq;rw[aE]at e;cases e;exact l
  .rw[aN hq]at e;refine(i.Β q u e).iF (λ_ _ _ h=>h) (λv h=>?_) λv r h=>?_
   .rw[aN (λz=>by rw[z,j]at h;cases h)];exact h
   .rw[aN (λz=>by rw[z,j]at h;cases h)];exact h
end
theorem MF:typeLookup (.type "list_reverseiterator") "__len__"=pure none:=by rw[typeLookup_type,builtinLookup_eq_fast];kernel_rfl
theorem Uu:typeLookup (.type "list_reverseiterator") "__length_hint__"=pure (some (.builtin "list_reverseiterator.__length_hint__")):=by rw[typeLookup_type,builtinLookup_eq_fast];kernel_rfl
section
variable{P:Program}{w:World}{A:Around}{E:fz}{s:Shared}
theorem RZ{f:Addr}{Q:Bool->Shared->Prop}(e:s.TypeIs (.ref f) "list_reverseiterator")(h:Q false s):wpAny (model P w) A (Builtin.List.listLengthHint (.ref f)) Q E s:=by
 unfold Builtin.List.listLengthHint;refine ao (mO e MF ?_);refine gI (λa=>absurd a (by decide)) (λ_=>?_);refine gI (λa=>absurd a (by decide)) (λ_=>?_);refine ao (mO e Uu ?_);generalize c:("list_reverseiterator.__length_hint__":String)=d
 wp_delta
 rw[show splitId d=some ("list_reverseiterator","__length_hint__")from by subst c;decide +kernel];subst c;refine ao (wpAny_isInstance (T:="list_reverseiterator") (b:=true) e (by rw[isSubtype_type];kernel_rfl) ?_);refine gI (λa=>absurd a (by decide)) (λ_=>?_);refine gI (λ_=>?_) (λa=>absurd (by decide +kernel) a);refine gI (λa=>absurd a (by decide +kernel)) (λ_=>?_);exact bi h
end
def M8(I l:Addr)(a:Array Value)(i:Nat)(h:Heap):Prop:=i<=a.size/\h.IsRevIter I l ((a.size:Int)-1-(i:Int))/\h.IsList l a
def NZ(a:Array Value)(i:Nat)(v:Value):Prop:=a[a.size-1-i]?=some v
section
variable{P:Program}{w:World}{A:Around}{E:fz}{s:Shared}{R:Result->Shared->Prop}
theorem ML(y:A.handled=none){I l S:Addr}{its:Array Value}{g:Value}{m:Nat}(st:M8 I l its 0 s.heap)(ne:l≠I)(o:S≠I)(u:S≠l)(v:its.size<=sizeLine)(q:s.heap.get? S=some { cls:=.type "list",data:=.seq #[] m })(x:∀c d h,Moved [S,I] (λa b=>b=a) s c->c.heap.get? S=some { cls:=.type "list",dict:=none,data:=.seq d h,slots:=#[] }->ItemsOf (NZ its) d its.size->R (.ok (.ret g)) c):wpAny (model P w) A.in1 (Builtin.List.listExtendWith (.ref S) (.ref I) g) (λB c=>match B with|.done f=>R (.ok f) c|.again h=>h.quiet=true/\codeAny (model P w) A h R c) (λe c=>R (.error e) c) s:=by
 have W:=(Walks.listRev (prog:=P) (w:=w) (A:=A.in1) y I l ne its).toS;have n:s.TypeIs (.ref I) "list_reverseiterator":=st.2.1.typeIs;unfold Builtin.List.listExtendWith;refine ao (wpAny_typeOf n ?_);have t:Builtin.List.listSameRef (.ref S) (.ref I)=false:=by simp[Builtin.List.listSameRef,o]
 have r:(Value.type "list_reverseiterator" == Value.type "list")=false:=by decide
 have z:(Value.type "list_reverseiterator" == Value.type "tuple")=false:=by decide
 simp only[t,r,z,Bool.or_false,dI,if_false];refine ao (j9 st.2.1 ?_);refine ao (lm (RZ n ?_));refine gI (λk=>absurd k (by decide +kernel)) (λ_=>?_);refine bi ⟨plainId_quiet F.plain_extend_loop _,codeAny_extend_loopS W v S (by simp[o,u]) g its.size 0 _ #[] m rfl (bB _) st q (ItemsOf.nil _) λc d h p i j=>?_⟩;exact x c d h p i j
theorem F6(y:A.handled=none){I l:Addr}{its:Array Value}{Q:fz}(st:M8 I l its 0 s.heap)(ne:l≠I)(v:its.size<=sizeLine)(B:∀(c:Shared) (a:Array Value) (p:Nat),c.os=s.os->c.gens=s.gens->c.drawn=s.drawn->(∀b o,b≠I->s.heap.get? b=some o->c.heap.get? b=some o)->c.heap.get? s.heap.objs.size=some { cls:=.type "list",dict:=none,data:=.seq a p,slots:=#[] }->ItemsOf (NZ its) a its.size->Q (.ref s.heap.objs.size) c):wpAny (model P w) A (call (.type "list") [.ref I]) Q E s:=by
 obtain⟨D,j,_⟩:=id st.2.1;obtain⟨C,hol,_⟩:=id st.2.2;have u:s.heap.objs.size≠I:=fH (aM j);have t:s.heap.objs.size≠l:=fH (aM hol);refine callType_codes (Q₁:=λf d=>f=.ref s.heap.objs.size/\d={ s with heap:=s.heap.push { cls:=.type "list",data:=.seq #[] } }) F.called_list (F.typeCall_list_1 _) F.entry_list_init (code_list_new _ ⟨rfl,rfl⟩) λf d g=>?_;obtain⟨rfl,rfl⟩:=g;have i:(s.heap.push { cls:=.type "list",data:=.seq #[] }).get? s.heap.objs.size=some { cls:=.type "list",data:=.seq #[] }:=bc _ rfl;refine⟨⟨_,i,rfl⟩,F.args_list_init_2 _ _,?_⟩;show wpAny (model P w) A.in1.in1 (do let q <-Builtin.List.listItems (.ref s.heap.objs.size);Builtin.List.listUpdate (.ref s.heap.objs.size) (λ_=>#[]);letGo q.toList.reverse;Builtin.List.listExtendWith (.ref s.heap.objs.size) (.ref I) .none) _ _ _;refine ao ?_;unfold Builtin.List.listItems;refine ao (eO i rfl (bi ?_));show wpAny (model P w) A.in1.in1 (updateSeq s.heap.objs.size (λ_=>#[])>>=λ_=>letGo (#[]:Array Value).toList.reverse>>=λ_=>Builtin.List.listExtendWith (.ref s.heap.objs.size) (.ref I) .none) _ _ _;refine ao (wpAny_updateSeq i rfl ?_);have r:=fI (Obj.mapSeq (λ_=>(#[]:Array Value))) i rfl;have n:∀b o,s.heap.get? b=some o->((s.heap.push { cls:=.type "list",data:=.seq #[] }).update s.heap.objs.size (Obj.mapSeq (λ_=>(#[]:Array Value)))).get? b=some o:=λb o e=>(dJ _ _ (fH (aM e))).trans (aF _ e)
 refine ao (mB ?_);refine ML (A:=A.in1) y (I:=I) (l:=l) (its:=its) ⟨st.1,st.2.1.at λo e=>n _ o e,st.2.2.at λo e=>n _ o e⟩ ne u t v r λc a p h k m=>?_;refine⟨rfl,B c a p h.os h.gens h.drawn (λb o x e=>h.heap b o (λz=>?_) (n b o e)) k m⟩;simp only[aw,d8,or_false]at z;rcases z with z|z
 .exact absurd (aM e) (by rw[z];exact dM _)
 .exact x z
end
theorem Pe{b a:gg}(h:ItemsOf (NZ b.toArray) a.toArray b.toArray.size):a=b.reverse:=by
 obtain⟨e,d⟩:=h;simp only[aY]at e;refine fP λj=>?_;by_cases c:j<a.length
 .have q:=d j a[j] (by simp[c]);unfold NZ at q;rw[ay c,cw (by lia)];simp only[aY,List.getElem?_toArray]at q;exact q.symm
 .rw[bO (by lia),bO (by rw[aV];lia)]
section
variable{X:Cx}{e:Expr}{g:TE}{i f d c:Pos}
def UC(K:f3)(g:TE):TE:=λj H Q=>g j H λx b=>∃a h,x=.ref a/\ν K b a h/\∀l,b l=none->Q (.ref l) (upd b l (.lst h.reverse))
theorem UO{j:f5}{s:Shared}{o:St}{H:Hp}{R:List Value->Shared->Prop}(L:Gl X "reversed")(B:X.mg "reversed"=none)(G:PE X e g)(I:Inv X j o H s){q:V->Hp->Prop}(h:g o H q)(D:starEach [.Call (.Name "reversed" f) [e] [] c] X.env=[(false,eval (.Call (.Name "reversed" f) [e] [] c) X.env)])(y:starEach [e] X.env=[(false,eval e X.env)])(k:∀l m x a n (b:gg),Inv X j o m l->q x m->x=.ref a->ν X.K m a n->Vals n b->M8 l.heap.objs.size a b.toArray 0 (l.heap.push (revObj a ((b.toArray.size:Int)-1)))->a≠l.heap.objs.size->b.toArray.size<=sizeLine->R [.ref l.heap.objs.size] { l with heap:=l.heap.push (revObj a ((b.toArray.size:Int)-1)) })(C:∀x m,q x m->∃a n,x=.ref a/\ν X.K m a n):wpAny (model X.prog X.w) X.A (spliced (backTo d (starEach [.Call (.Name "reversed" f) [e] [] c] X.env))) R X.xe s:=by
 rw[D];show wpAny _ _ (spliced ((false,eval (.Call (.Name "reversed" f) [e] [] c) X.env)::backTo d [])) _ _ s;refine hJ ?_;refine Call_ (rD I L B boot_reversed (c7 ?_ y rfl));rw[y];show wpAny _ _ (spliced ((false,eval e X.env)::backTo c [])) _ _ s;refine hJ (eJ (G j s o H _ I h) λu l x m z J v=>iu ?_);obtain⟨a,n,E,r⟩:=C x m v;subst E;cases J;obtain⟨b,t,p,F⟩:=z.list r;have ne:a≠l.heap.objs.size:=aW p.lt;refine call_reversed_list p.isList (iu ?_);refine k l m _ a n b z v rfl r t ⟨bB _,⟨_,bc _ rfl,rfl,?_⟩,p.isList.push _⟩ ne (by rw[aY,<-t.length];exact F);simp[revObj]
theorem Vw(Y:X.calm=true)(hg:Gl X "reversed")(W:X.mg "reversed"=none)(B:Gl X "list")(y:X.mg "list"=none)(he:PE X e g)(J:starEach [.Call (.Name "reversed" f) [e] [] c] X.env=[(false,eval (.Call (.Name "reversed" f) [e] [] c) X.env)]:=by rfl)(h2:starEach [e] X.env=[(false,eval e X.env)]:=by rfl):PE X (.Call (.Name "list" i) [.Call (.Name "reversed" f) [e] [] c] [] d) (UC X.K g):=by
 intro j s R H Q I h;refine Call_ (rD I B y boot_list (c7 ?_ J rfl));refine UO hg W he I h J h2 (λl C x a w k p q1 z r F st ne N=>?_) λx C ⟨a,w,z,r,_⟩=>⟨a,w,z,r⟩;obtain⟨a',bY,n,A,q⟩:=q1;rw[z]at n;cases n;have ey:=p.iO r A;subst ey;refine F6 (p.ok.hd Y) st ne N λV m c' E M P S t v=>?_;obtain⟨O,gs,ds,ts,Z⟩:=V;simp only at E M P S t;subst E M P;obtain⟨T,rfl⟩:∃T:List Value,m=T.toArray:=⟨m.toList,by simp⟩;have U:=Pe v;subst U;have kk:∀b u,l.heap.get? b=some u->O.get? b=some u:=λb u G=>S b u (aW (aM G)) (aF _ G);have I2:Inv X j R C { l with heap:=O,toks:=ts }:=p.kept kk;have D:(l.heap.push (revObj a ((k.toArray.size:Int)-1))).objs.size=l.heap.objs.size+1:=dR ..;rw[D]at t;show EP X j R Q (.ref (l.heap.push (revObj a ((k.toArray.size:Int)-1))).objs.size) _;rw[D];have L:C (l.heap.objs.size+1)=none:=p.Β.fresh (gq _);refine⟨.ref _,_,p.ahF (o:=.lst w.reverse) I2 (gq _) L ⟨?_,k.reverse,c',F.reverse,t⟩,rfl,q _ L⟩;rw[aV,F.length]
 simpa using N
end
theorem mj{a b:Nat}(h:a<b\/b<a):a≠b:=by lia
theorem YE(n a b:Nat)(d:a<n)(c:b<n):ZAp (n+4) (n+2) (n+3) n (n+1) a b:=⟨mj (by lia),mj (by lia),mj (by lia),mj (by lia),mj (by lia),mj (by lia),mj (by lia),mj (by lia),mj (by lia),mj (by lia),⟨mj (by lia),mj (by lia),mj (by lia),mj (by lia)⟩,⟨mj (by lia),mj (by lia),mj (by lia),mj (by lia)⟩⟩
section
variable{X:Cx}
def Tc(K:f3)(c d:Bool)(g:TA):TI:=λh H R=>g h H λj e=>∃a b,j=[.ref a,.ref b]/\(∃f,ϑ K c e a f)/\(∃i,ϑ K d e b i)/\R (Itz K c d a b) e
theorem OB{i:List Expr}{x1}{aal:Pos}{ea eb:Expr}{ta:TA}{p pos:Pos}(c d:Bool)(hg:Gl X "zip")(hm:X.mg "zip"=none)(ha:PA X [ea,eb] ta)(hs:starEach [ea,eb] X.env=[(false,eval ea X.env),(false,eval eb X.env)]:=by rfl)(hs2:starEach [eb] X.env=[(false,eval eb X.env)]:=by rfl):PI X (.Tuple i x1 aal) (.Call (.Name "zip" p) [ea,eb] [] pos) (Tc X.K c d ta):=by
 intro g s O H R I h;refine Call_ (rD I hg hm boot_zip (c7 (vN (ha pos g s O H _ I h) λy f C P k t l=>?_) (by rw[hs,hs2]) (by rw[hs2];rfl)));obtain⟨a,b,e,⟨U,A⟩,⟨V,F⟩,q⟩:=l;subst e;obtain⟨u,v,rfl,B,M⟩:=Uw t;cases B;cases M;obtain⟨y,t,l⟩:=k.gE A;obtain⟨C,W,r⟩:=k.gE F;obtain⟨T,n⟩:=ue a c _ _ l;obtain⟨S,m⟩:=ue b d _ _ r;have z:=aM n;have L:=aM m;refine SJ (kZ a c) (kZ b d) (ue b d) l r (λQ o J E N G x=>?_) (zz a c) (zz b d);refine wpAny_pyIter_zip o ?_;have D:=YE f.heap.objs.size a b z L;refine⟨_,[f.heap.objs.size+4,f.heap.objs.size+2,f.heap.objs.size+3,f.heap.objs.size,f.heap.objs.size+1],_,_,P,rfl,k.kept (t':=f.toks) x,QJ c d a b _ _ _ _ _ D,⟨o,J,⟨_,_,E⟩,N,G⟩,λq w=>?_,q⟩;have j:f.heap.objs.size<=q:=by
  simp only[aw,d8,or_false]at w;rcases w with rfl|rfl|rfl|rfl|rfl
  .exact jE _ 4
  .exact jE _ 2
  .exact jE _ 3
  .exact az _
  .exact jE _ 1
 exact k.acY j (k.Β.fresh j)
end
end L2
namespace Pb
structure Road where
 a:Int
 b:Int
 t:Int
 u:Int
 deriving DecidableEq
abbrev hD:=List Road
def PR(m:Int)(c:hD):Prop:=∀S:Int->Prop,S 0->(∀r∈c,(S r.a↔S r.b))->∀v,0<=v->v<m->S v
structure abm(m:Int)(r:Road):Prop where
 a0:0<=r.a
 a1:r.a<m
 b0:0<=r.b
 b1:r.b<m
 ne:r.a≠r.b
 t0:2<=r.t
 t1:r.t<=1000000
 u0:2<=r.u
 u1:r.u<=1000000
structure Good(m:Int)(rs:hD):Prop where
 m1:1<=m
 Ζ:m<=24
 len:(rs.length:Int)=m-1
 ok:∀r∈rs,abm m r
 jn:PR m rs
theorem sk{b:Type}[DecidableEq b]:∀{l l':List b},l.Nodup->(∀x∈l,x∈l')->l.length<=l'.length
 | [],_,_,_=>bB _
 | x::r,l',hn,hs=>by
   obtain⟨f,d⟩:=bg.mp hn;have a:x∈l':=hs x aA;have:r.length<=(l'.erase x).length:=sk d λy c=>(nI (λ(e:y=x)=>f (by rw[<-e];exact c))).mpr (hs y (ap _ c));rw[List.length_erase_of_mem a]at this;have g:0<l'.length:=List.length_pos_of_mem a;rw[aR]
   lia
def bM(n:Nat):List Int:=(List.range n).map λ(k:Nat)=>(k:Int)
theorem fh{n:Nat}{v:Int}:v∈bM n↔0<=v/\v<n:=by
 unfold bM;rw[aU]
 constructor
 .rintro⟨k,hk,rfl⟩;have:=cQ.mp hk
  lia
 .rintro⟨h0,h1⟩;exact⟨v.toNat,cQ.mpr (by lia),by lia⟩
theorem cq(n:Nat):(bM n).length=n:=by simp[bM]
theorem ij(n:Nat):(bM n).Nodup:=by
 unfold bM;refine List.Pairwise.map _ (λa b h=>?_) (List.nodup_range (n:=n));intro e;exact h (by lia)
theorem g9{m:Int}{l:fc}(c:0<=m)(b:l.Nodup)(h:∀x∈l,0<=x/\x<m):(l.length:Int)<=m:=by
 have:=sk (l':=bM m.toNat) b λx a=>fh.mpr ⟨(h x a).1,by have:=(h x a).2;lia⟩;rw[cq]at this
 lia
theorem Rg{m:Int}{l:fc}(c:0<=m)(h:∀v,0<=v->v<m->v∈l):m<=(l.length:Int):=by
 have:=sk (l:=bM m.toNat) (l':=l) (ij _) λx a=>by
  obtain⟨b,d⟩:=fh.mp a;exact h x b (by lia)
 rw[cq]at this
 lia
def vH(p:Int)(r:Road):List Int:=(if r.a=p then[r.b]else[])++(if r.b=p then[r.a]else[])
def gG(a:hD)(p:Int):List Int:=a.flatMap (vH p)
theorem uG{d:hD}{p e:Int}:e∈gG d p↔∃r∈d,(r.a=p/\r.b=e)\/(r.b=p/\r.a=e):=by
 unfold gG vH;rw[d9]
 constructor
 .rintro⟨r,hr,h⟩;refine⟨r,hr,?_⟩;rcases ba.mp h with h|h
  .by_cases c:r.a=p
   .rw[aj c]at h;exact .inl ⟨c,(aK.mp h).symm⟩
   .rw[ag c]at h;cases h
  .by_cases c:r.b=p
   .rw[aj c]at h;exact .inr ⟨c,(aK.mp h).symm⟩
   .rw[ag c]at h;cases h
 .rintro⟨r,hr,h⟩;refine⟨r,hr,ba.mpr ?_⟩;rcases h with⟨h1,h2⟩|⟨h1,h2⟩
  .exact .inl (by rw[aj h1,h2];exact aK.mpr rfl)
  .exact .inr (by rw[aj h1,h2];exact aK.mpr rfl)
theorem Jx(e:hD)(p:Int):(gG e p).length<=2*e.length:=by
 unfold gG
 induction e with
 | nil=>simp
 | cons r e ih=>
   rw[c9,aX,aR];have:(vH p r).length<=2:=by
    unfold vH;rw[aX];by_cases c:r.a=p<;>by_cases d:r.b=p<;>simp[c,d]
   lia
theorem vq(a:hD)(r:Road)(p:Int):gG (a++[r]) p=gG a p++vH p r:=by
 unfold gG;rw[oB];simp
def Co(c:List Int×List Int)(e:Int):List Int×List Int:=if e∈c.1 then c else(c.1++[e],c.2++[e])
structure abM(m:Int)(rs:hD)(ks ws:fc):Prop where
 nd:ks.Nodup
 zero:0∈ks
 Ι:∀k∈ks,0<=k/\k<m
 sub:∀w∈ws,w∈ks
 cl:∀k∈ks,k∉ws->∀e∈gG rs k,e∈ks
 wl:ws.length<=ks.length
theorem Om{l:fc}{e:Int}(h:l.Nodup)(f:e∉l):(l++[e]).Nodup:=by
 rw[dU];refine⟨h,by simp,λa c b d=>?_⟩;rw[aK.mp d];exact λz=>f (z▸c)
structure abn(m:Int)(rs:hD)(p:Int)(es ks ws ks0:fc)(n0:Nat):Prop where
 nd:ks.Nodup
 zero:0∈ks
 Ι:∀k∈ks,0<=k/\k<m
 sub:∀w∈ws,w∈ks
 cl:∀k∈ks,k∉ws->k=p\/∀e∈gG rs k,e∈ks
 seen:∀e∈es,e∈ks
 pin:p∈ks
 mu:ks.length+n0=ks0.length+ws.length
 up:ks0.length<=ks.length
 wl:ws.length<=ks.length
theorem abn.start{m:Int}{b:hD}{ks a:fc}{p:Int}(h:abM m b ks (a++[p])):abn m b p [] ks a ks a.length where
 nd:=h.nd
 zero:=h.zero
 Ι:=h.Ι
 sub:=λw hw=>h.sub w (bC _ hw)
 cl:=λk hk hw=>by
  by_cases e:k=p
  .exact .inl e
  .exact .inr (h.cl k hk λz=>by
    rcases ba.mp z with z|z
    .exact hw z
    .exact e (aK.mp z))
 seen:=λe c=>by cases c
 pin:=h.sub p (bf _ (aK.mpr rfl))
 mu:=rfl
 up:=az _
 wl:=by have:=h.wl;rw[aX]at this;simp at this;lia
theorem abn.step{m:Int}{j:hD}{p:Int}{l d i b:fc}{n:Nat}{e:Int}(h:abn m j p l d i b n)(o:0<=e)(q:e<m):abn m j p (l++[e]) (Co (d,i) e).1 (Co (d,i) e).2 b n:=by
 unfold Co;by_cases c:e∈d
 .rw[aj c];refine⟨h.nd,h.zero,h.Ι,h.sub,h.cl,λx a=>?_,h.pin,h.mu,h.up,h.wl⟩;rcases ba.mp a with z|z
  .exact h.seen x z
  .rw[aK.mp z];exact c
 .rw[ag c];dsimp only;refine⟨Om h.nd c,bC _ h.zero,λk g=>?_,λw f=>?_,λk g f=>?_,λx a=>?_,bC _ h.pin,?_,by have:=h.up;simp;lia,by have:=h.wl;simp;exact this⟩
  .rcases ba.mp g with z|z
   .exact h.Ι k z
   .rw[aK.mp z];exact⟨o,q⟩
  .rcases ba.mp f with z|z
   .exact bC _ (h.sub w z)
   .exact bf _ z
  .rcases ba.mp g with z|z
   .rcases h.cl k z λy=>f (bC _ y)with y|y
    .exact .inl y
    .exact .inr λx a=>bC _ (y x a)
   .exact absurd (bf _ z) f
  .rcases ba.mp a with z|z
   .exact bC _ (h.seen x z)
   .exact bf _ z
  .have:=h.mu;simp only[aX,aR,ft]
   lia
theorem abn.done{m:Int}{a:hD}{p:Int}{ks c b:fc}{d:Nat}(h:abn m a p (gG a p) ks c b d):abM m a ks c where
 nd:=h.nd
 zero:=h.zero
 Ι:=h.Ι
 sub:=h.sub
 cl:=λk hk hw=>by
  rcases h.cl k hk hw with z|z
  .rw[z];exact h.seen
  .exact z
 wl:=h.wl
theorem abM.start{m:Int}{a:hD}(b:1<=m):abM m a [0] [0] where
 nd:=by simp
 zero:=by simp
 Ι:=λk hk=>by rw[aK.mp hk];lia
 sub:=λw hw=>hw
 cl:=λk hk hw=>absurd hk hw
 wl:=by simp
theorem abM.all{m:Int}{e:hD}{c:fc}(h:abM m e c [])(f:1<=m)(j:PR m e):(c.length:Int)=m:=by
 have up:=g9 (by lia) h.nd h.Ι;have:∀v,0<=v->v<m->v∈c:=j (λv=>v∈c) h.zero λr d=>by
  constructor
  .intro ha;exact h.cl r.a ha (by simp) r.b (uG.mpr ⟨r,d,.inl ⟨rfl,rfl⟩⟩)
  .intro hb;exact h.cl r.b hb (by simp) r.a (uG.mpr ⟨r,d,.inr ⟨rfl,rfl⟩⟩)
 have:=Rg (by lia) this
 lia
theorem So{m:Int}{a:hD}(h:∀r∈a,abm m r){p e:Int}(c:e∈gG a p):0<=e/\e<m:=by
 obtain⟨r,b,z⟩:=uG.mp c;have k:=h r b;rcases z with⟨_,rfl⟩|⟨_,rfl⟩
 .exact⟨k.b0,k.b1⟩
 .exact⟨k.a0,k.a1⟩
structure Row where
 k:Int
 un:Int
 t:Int
 u:Int
 sw:Int
 sp:Int
structure aaX(r:Row):Prop where
 u0:0<=r.un
 u1:r.un<r.k
 t0:2<=r.t
 t1:r.t<=1000000
 v0:2<=r.u
 v1:r.u<=1000000
 s0:0<=r.sp
 s1:r.sp<r.k
structure Rows(n:Nat)(rows:List Row):Prop where
 len:rows.length=n
 ok:∀(i:Nat)(r:Row),rows[i]?=some r->r.k=(i:Int)+1/\aaX r
structure aaz(n:Nat)(ls:fc):Prop where
 len:ls.length=n
 nd:ls.Nodup
 all:∀v:Int,0<=v->v<n->v∈ls
 Ι:∀v∈ls,0<=v/\v<n
theorem DD{a:Type}{l:List a}{k:Nat}{x y:a}:y∈l.take k++x::l.drop k↔y=x\/y∈l:=by
 rw[ba,aw]
 constructor
 .rintro(h|h|h)
  .exact .inr (iA h)
  .exact .inl h
  .exact .inr (cL h)
 .rintro(h|h)
  .exact .inr (.inl h)
  .rw[<-cP k l]at h;rcases ba.mp h with z|z
   .exact .inl z
   .exact .inr (.inr z)
def nh(a:fc)(r:Row):Road:=if r.sw=1 then⟨a.getD r.un.toNat 0,a.getD r.k.toNat 0,r.t,r.u⟩else⟨a.getD r.k.toNat 0,a.getD r.un.toNat 0,r.t,r.u⟩
structure Put(ls:fc)(rows:List Row)(rs:hD):Prop where
 len:rs.length=rows.length
 of:∀r∈rs,∃w∈rows,r=nh ls w
 to:∀w∈rows,nh ls w∈rs
theorem Put.nil(a:fc):Put a [] []:=⟨rfl,λr h=>(by cases h),λr h=>(by cases h)⟩
theorem Put.step{b:fc}{a:List Row}{c:hD}(h:Put b a c)(w:Row)(k:Nat):Put b (a++[w]) (c.take k++nh b w::c.drop k) where
 len:=by
  rw[aX,aR,bE,gA,aX,h.len];simp
  lia
 of:=λr hr=>by
  rcases DD.mp hr with z|z
  .exact⟨w,by simp,z⟩
  .obtain⟨d,hw,e⟩:=h.of r z;exact⟨d,bC _ hw,e⟩
 to:=λd hw=>by
  rw[DD];rcases ba.mp hw with z|z
  .exact .inr (h.to d z)
  .exact .inl (by rw[aK.mp z])
theorem zW{a:fc}{n:Nat}(h:aaz n a){i:Nat}(b:i<n):a[i]?=some (a.getD i 0):=by
 have:i<a.length:=by rw[h.len];exact b
 simp[List.getD,ay this]
theorem Ie{a:fc}{n:Nat}(h:aaz n a){i:Nat}(b:i<n):a.getD i 0∈a:=aO (zW h b)
theorem RP{a:fc}{n:Nat}(h:aaz n a){i j:Nat}(f:i<n)(l:j<n)(e:a.getD i 0=a.getD j 0):i=j:=by
 have c:i<a.length:=by rw[h.len];exact f
 have b:j<a.length:=by rw[h.len];exact l
 have d:=zW h f;have k:=zW h l;rw[e]at d;have g:a[i]'c=a[j]'b:=by
  rw[ay c]at d;rw[ay b]at k;exact bu (d.trans k.symm)
 have nd:=iV.mp h.nd;rcases lQ i j with z|z|z
 .exact absurd g (nd i j c b z)
 .exact z
 .exact absurd g.symm (nd j i b c z)
theorem UN{n:Nat}{d:fc}{a:List Row}{o:hD}(p:1<=n)(u:n<=24)(L:aaz n d)(W:Rows (n-1) a)(P:Put d a o):Good n o where
 m1:=by lia
 Ζ:=by lia
 len:=by rw[P.len,W.len];lia
 ok:=λr hr=>by
  obtain⟨w,hw,rfl⟩:=P.of r hr;obtain⟨i,hi⟩:=cJ hw;obtain⟨ek,ok⟩:=W.ok i w hi;have b:i<a.length:=(aD.mp hi).1;rw[W.len]at b;have hk:w.k.toNat<n:=by lia
  have g:w.un.toNat<n:=by have:=ok.u0;have:=ok.u1;lia
  have l:=L.Ι _ (Ie L hk);have h:=L.Ι _ (Ie L g);have ne:d.getD w.k.toNat 0≠d.getD w.un.toNat 0:=λe=>by
   have:=RP L hk g e;have:=ok.u0;have:=ok.u1
   lia
  unfold nh;by_cases c:w.sw=1
  .rw[aj c];exact⟨h.1,h.2,l.1,l.2,ne.symm,ok.t0,ok.t1,ok.v0,ok.v1⟩
  .rw[ag c];exact⟨l.1,l.2,h.1,h.2,ne,ok.t0,ok.t1,ok.v0,ok.v1⟩
 jn:=by
  intro S s0 t;have f:∀i:Nat,i<n->(S (d.getD i 0)↔S (d.getD 0 0)):=by
   intro i
   induction i using Nat.strongRecOn with
   | ind i ih=>
     intro hi;by_cases z:i=0
     .rw[z]
     .have b:i-1<a.length:=(by rw[W.len];lia);obtain⟨ek,ok⟩:=W.ok (i-1) a[i-1] (ay b);have s:=P.to a[i-1] (eT b);have hr:=t _ s;have hk:(a[i-1]).k.toNat=i:=(by lia);have g:(a[i-1]).un.toNat<i:=(by have:=ok.u0;have:=ok.u1;lia);have q:=ih _ g (by lia);unfold nh at hr;rw[hk]at hr;by_cases c:(a[i-1]).sw=1
      .rw[aj c]at hr;exact hr.symm.trans q
      .rw[ag c]at hr;exact hr.trans q
  have at_:∀v,0<=v->v<(n:Int)->∃i,i<n/\d.getD i 0=v:=λv m p=>by
   obtain⟨i,hi⟩:=cJ (L.all v m p);have b:i<n:=(by have:=(aD.mp hi).1;rw[L.len]at this;exact this);refine⟨i,b,?_⟩;have:=zW L b;rw[hi]at this;exact(bu this).symm
  intro v m hv;obtain⟨i,hi,rfl⟩:=at_ v m hv;obtain⟨j,y,x⟩:=at_ 0 (by lia) (by lia);refine(f i hi).mpr ((f j y).mp ?_);rw[x];exact s0
def Adj(c:hD)(a b:Int):Prop:=∃x∈c,(x.a=a/\x.b=b)\/(x.b=a/\x.a=b)
theorem Adj.symm{d:hD}{a b:Int}(h:Adj d a b):Adj d b a:=by
 obtain⟨x,c,h⟩:=h;rcases h with⟨h1,h2⟩|⟨h1,h2⟩
 .exact⟨x,c,.inr ⟨h2,h1⟩⟩
 .exact⟨x,c,.inl ⟨h2,h1⟩⟩
theorem Bw{c:hD}{a b:Int}:b∈gG c a↔Adj c a b:=uG
theorem Good.adj{m:Int}{c:hD}(g:Good m c){a b:Int}(h:Adj c a b):(0<=a/\a<m)/\(0<=b/\b<m)/\a≠b:=by
 obtain⟨x,d,h⟩:=h;have k:=g.ok x d;rcases h with⟨h1,h2⟩|⟨h1,h2⟩
 .subst h1 h2;exact⟨⟨k.a0,k.a1⟩,⟨k.b0,k.b1⟩,k.ne⟩
 .subst h1 h2;exact⟨⟨k.b0,k.b1⟩,⟨k.a0,k.a1⟩,k.ne.symm⟩
theorem Good.from{m:Int}{d:hD}(g:Good m d){r:Int}(i:0<=r)(j:r<m)(S:Int->Prop)(e:S r)(k:∀x∈d,(S x.a↔S x.b)):∀v,0<=v->v<m->S v:=by
 have c:∀v,0<=v->v<m->(S v↔S 0):=g.jn (λv=>S v↔S 0) Iff.rfl λx f=>by
  have:=k x f;exact⟨λh=>this.symm.trans h,λh=>this.trans h⟩
 intro v a b;exact(c v a b).mpr ((c r i j).mp e)
inductive aaA(rs:hD)(r:Int):Nat->Int->Prop
 | zero:aaA rs r 0 r
 | step {n:Nat} {u v:Int}:aaA rs r n u->Adj rs u v->aaA rs r (n+1) v
theorem Zy{P:Nat->Prop}:∀n,P n->∃k,P k/\∀j,j<k->¬P j:=by
 intro n
 induction n using Nat.strongRecOn with
 | ind n ih=>
   intro h;by_cases z:∃j,j<n/\P j
   .obtain⟨j,b,a⟩:=z;exact ih j b a
   .exact⟨n,h,λj b a=>z ⟨j,b,a⟩⟩
structure ε(m:Int)(rs:hD)(r:Int)(par:fm)(dep:fv):Prop where
 root:dep r=0
 up:∀v,0<=v->v<m->v≠r->(0<=par v/\par v<m)/\Adj rs v (par v)/\dep (par v)+1=dep v
 road:∀x∈rs,(x.a≠r/\par x.a=x.b)\/(x.b≠r/\par x.b=x.a)
 one:(rs.map λx=>if x.a≠r/\par x.a=x.b then x.a else x.b).Nodup
theorem U2{n:Nat}{l:List Nat}(a:l.Nodup)(d:l.length=n)(c:∀x∈l,x<n):∀i,i<n->i∈l:=by
 intro i b;by_cases z:i∈l
 .exact z
 .have:=sk (l:=i::l) (l':=List.range n) (bg.mpr ⟨z,a⟩) λx hx=>by
   rcases aw.mp hx with rfl|hx
   .exact cQ.mpr b
   .exact cQ.mpr (c x hx)
  rw[aR,bG]at this
  lia
theorem zk{m:Int}{s:hD}(g:Good m s){r:Int}(W:0<=r)(h1:r<m):∃f o,ε m s r f o:=by
 classical
 have G:∀v,0<=v->v<m->∃n,aaA s r n v:=g.from W h1 (λv=>∃n,aaA s r n v) ⟨0,.zero⟩ λx hx=>by
  constructor
  .rintro⟨n,d⟩;exact⟨n+1,d.step ⟨x,hx,.inl ⟨rfl,rfl⟩⟩⟩
  .rintro⟨n,d⟩;exact⟨n+1,d.step ⟨x,hx,.inr ⟨rfl,rfl⟩⟩⟩
 have hd:∀v,∃k,(0<=v/\v<m)->aaA s r k v/\∀j,j<k->¬aaA s r j v:=λv=>by
  by_cases z:0<=v/\v<m
  .obtain⟨n,d⟩:=G v z.1 z.2;obtain⟨k,h⟩:=Zy (P:=λk=>aaA s r k v) n d;exact⟨k,λ_=>h⟩
  .exact⟨0,λh=>absurd h z⟩
 obtain⟨o,B⟩:∃o:Int->Nat,∀v,0<=v->v<m->aaA s r (o v) v/\∀j,j<o v->¬aaA s r j v:=⟨λv=>(hd v).choose,λv a b=>(hd v).choose_spec ⟨a,b⟩⟩;have dr:o r=0:=by
  have:=(B r W h1).2 0;by_cases z:o r=0
  .exact z
  .exact absurd aaA.zero (this (by lia))
 have hp:∀v,∃u,(0<=v/\v<m/\v≠r)->Adj s v u/\o u+1=o v:=λv=>by
  by_cases z:0<=v/\v<m/\v≠r
  .obtain⟨a,b,c⟩:=z;obtain⟨d,dm⟩:=B v a b;generalize hk:o v=k at d dm;cases d with
   | zero=>exact absurd rfl c
   | @step n u _ d e=>
     refine⟨u,λ_=>⟨e.symm,?_⟩⟩;obtain⟨⟨u0,u1⟩,_⟩:=g.adj e;have l1:o u<=n:=by
      by_cases w:o u<=n
      .exact w
      .exact absurd d ((B u u0 u1).2 n (by lia))
     have l2:¬o u<n:=λw=>dm (o u+1) (by lia) ((B u u0 u1).1.step e)
     lia
  .exact⟨0,λh=>absurd h z⟩
 obtain⟨f,t⟩:∃f:Int->Int,∀v,0<=v->v<m->v≠r->Adj s v (f v)/\o (f v)+1=o v:=⟨λv=>(hp v).choose,λv a b c=>(hp v).choose_spec ⟨a,b,c⟩⟩;have hi:∀v,∃i:Nat,(0<=v/\v<m/\v≠r)->∃x,s[i]?=some x/\((x.a=v/\x.b=f v)\/(x.b=v/\x.a=f v)):=λv=>by
  by_cases z:0<=v/\v<m/\v≠r
  .obtain⟨x,hx,h⟩:=(t v z.1 z.2.1 z.2.2).1;obtain⟨i,e⟩:=cJ hx;exact⟨i,λ_=>⟨x,e,h⟩⟩
  .exact⟨0,λh=>absurd h z⟩
 obtain⟨A,D⟩:∃A:Int->Nat,∀v,0<=v->v<m->v≠r->∃x,s[A v]?=some x/\((x.a=v/\x.b=f v)\/(x.b=v/\x.a=f v)):=⟨λv=>(hi v).choose,λv a b c=>(hi v).choose_spec ⟨a,b,c⟩⟩;have Z:∀v u,0<=v->v<m->v≠r->0<=u->u<m->u≠r->A v=A u->v=u:=by
  intro v u a b c K N M e;obtain⟨x,hx,h⟩:=D v a b c;obtain⟨y,U,h'⟩:=D u K N M;rw[e,U]at hx;cases hx;have R:=(t v a b c).2;have S:=(t u K N M).2;rcases h with⟨p,q⟩|⟨p,q⟩<;>rcases h' with⟨p',q'⟩|⟨p',q'⟩
  .exact p.symm.trans p'
  .exfalso
   have I:v=f u:=p.symm.trans q';have L:u=f v:=p'.symm.trans q;rw[<-I]at S;rw[<-L]at R
   lia
  .exfalso
   have I:v=f u:=p.symm.trans q';have L:u=f v:=p'.symm.trans q;rw[<-I]at S;rw[<-L]at R
   lia
  .exact p.symm.trans p'
 let E:List Int:=(bM m.toNat).filter λv=>decide (v≠r)
 have J:∀v,v∈E↔(0<=v/\v<m/\v≠r):=λv=>by
  rw[bx,fh,bT]
  constructor
  .rintro⟨⟨a,b⟩,c⟩;exact⟨a,by lia,c⟩
  .rintro⟨a,b,c⟩;exact⟨⟨a,by lia⟩,c⟩
 have nv:E.Nodup:=(ij _).filter _;have lv:E.length=s.length:=by
  have I:(r::E).length<=(bM m.toNat).length:=sk (bg.mpr ⟨λh=>((J r).mp h).2.2 rfl,nv⟩) λx hx=>by
   rcases aw.mp hx with rfl|hx
   .exact fh.mpr ⟨W,by lia⟩
   .have:=(J x).mp hx;exact fh.mpr ⟨this.1,by lia⟩
  have L:(bM m.toNat).length<=(r::E).length:=sk (ij _) λx hx=>by
   have:=fh.mp hx;by_cases z:x=r
   .rw[z];exact aA
   .exact ap _ ((J x).mpr ⟨this.1,by lia,z⟩)
  rw[cq,aR]at I L;have:=g.len;have:=g.m1
  lia
 have il:(E.map A).Nodup:=by
  have:∀(l:fc),l.Nodup->(∀v∈l,0<=v/\v<m/\v≠r)->(l.map A).Nodup:=by
   intro l
   induction l with
   | nil=>intro _ _;simp
   | cons v l ih=>
     intro hn V;obtain⟨n1,n2⟩:=bg.mp hn;rw[aq];refine bg.mpr ⟨λz=>?_,ih n2 λu T=>V u (ap _ T)⟩;obtain⟨u,T,e⟩:=aU.mp z;obtain⟨a,b,c⟩:=V v aA;obtain⟨K,N,M⟩:=V u (ap _ T);exact n1 (Z u v K N M a b c e▸T)
  exact this E nv λv H=>(J v).mp H
 have ib:∀i∈E.map A,i<s.length:=λi C=>by
  obtain⟨v,H,rfl⟩:=aU.mp C;obtain⟨a,b,c⟩:=(J v).mp H;obtain⟨x,hx,_⟩:=D v a b c;exact(aD.mp hx).1
 have Y:=U2 il (by rw[ah,lv]) ib;have F:∀i x,s[i]?=some x->∃v,(0<=v/\v<m/\v≠r)/\A v=i/\((x.a=v/\x.b=f v)\/(x.b=v/\x.a=f v)):=λi x e=>by
  obtain⟨v,H,rfl⟩:=aU.mp (Y i (aD.mp e).1);obtain⟨a,b,c⟩:=(J v).mp H;obtain⟨y,U,h⟩:=D v a b c;rw[e]at U;cases U;exact⟨v,⟨a,b,c⟩,rfl,h⟩
 have X:∀v,0<=v->v<m->v≠r->f v≠r->f (f v)≠v:=λv a b c M z=>by
  have R:=t v a b c;obtain⟨_,⟨K,N⟩,_⟩:=g.adj R.1;have S:=t (f v) K N M;rw[z]at S
  lia
 have Q:∀i x,s[i]?=some x->∃v,(0<=v/\v<m/\v≠r)/\A v=i/\(if x.a≠r/\f x.a=x.b then x.a else x.b)=v:=λi x e=>by
  obtain⟨v,⟨a,b,c⟩,H,h⟩:=F i x e;refine⟨v,⟨a,b,c⟩,H,?_⟩;rcases h with⟨p,q⟩|⟨p,q⟩
  .rw[aj ⟨by rw[p];exact c,by rw[p];exact q.symm⟩];exact p
  .rw[ag]
   .exact p
   .rintro⟨z1,z2⟩;rw[q]at z1 z2;exact X v a b c z1 (z2.trans p)
 refine⟨f,o,dr,λv a b c=>?_,λx hx=>?_,?_⟩
 .obtain⟨p,q⟩:=t v a b c;obtain⟨_,w,_⟩:=g.adj p;exact⟨w,p,q⟩
 .obtain⟨i,e⟩:=cJ hx;obtain⟨v,⟨a,b,c⟩,_,h⟩:=F i x e;rcases h with⟨p,q⟩|⟨p,q⟩
  .exact .inl ⟨by rw[p];exact c,by rw[p];exact q.symm⟩
  .exact .inr ⟨by rw[p];exact c,by rw[p];exact q.symm⟩
 .refine iV.mpr λi j C O lt=>?_;rw[ah]at C O;rw[jB,jB];intro z;obtain⟨v,_,I,k1⟩:=Q i s[i] (ay C);obtain⟨u,_,L,k2⟩:=Q j s[j] (ay O);rw[k1,k2]at z;rw[z]at I
  lia
theorem Os{m:Int}{k:hD}(g:Good m k){p:Int}(u:0<=p)(A:p<m):(gG k p).Nodup:=by
 obtain⟨f,B,R⟩:=zk g u A;have one:=R.one;have ok:=g.ok;have road:=R.road;clear R g
 induction k with
 | nil=>simp[gG]
 | cons x l ih=>
   have q:=ok x aA;have o:∀y∈l,abm m y:=λy hy=>ok y (ap _ hy);rw[aq]at one;obtain⟨r,v⟩:=bg.mp one;have n:=ih v o λy hy=>road y (ap _ hy);have e:gG (x::l) p=vH p x++gG l p:=by unfold gG;rw[c9]
   rw[e];have j:∀y,abm m y->((y.a≠p/\f y.a=y.b)\/(y.b≠p/\f y.b=y.a))->(y.a=p->(if y.a≠p/\f y.a=y.b then y.a else y.b)=y.b)/\(y.b=p->(if y.a≠p/\f y.a=y.b then y.a else y.b)=y.a):=λy D hy=>by
    constructor
    .intro z;rw[ag (λw=>w.1 z)]
    .intro z;rcases hy with hy|hy
     .rw[aj hy]
     .exact absurd z hy.1
   have s:=j x q (road x aA);have i:∀e∈gG l p,e∈l.map λy=>if y.a≠p/\f y.a=y.b then y.a else y.b:=λe C=>by
    obtain⟨y,hy,h⟩:=uG.mp C;have t:=j y (o y hy) (road y (ap _ hy));refine aU.mpr ⟨y,hy,?_⟩;rcases h with⟨p1,q1⟩|⟨p1,q1⟩
    .rw[t.1 p1];exact q1
    .rw[t.2 p1];exact q1
   unfold vH;by_cases c:x.a=p
   .have d:¬x.b=p:=λz=>q.ne (c.trans z.symm);rw[aj c,ag d,b7];refine bg.mpr ⟨λz=>r ?_,n⟩;rw[s.1 c];exact i _ z
   .rw[ag c,iJ];by_cases d:x.b=p
    .rw[aj d];refine bg.mpr ⟨λz=>r ?_,n⟩;rw[s.2 d];exact i _ z
    .rw[ag d];exact n
def kM(m:Int)(a:hD)(p:Int):List Int:=(bM m.toNat).filter λq=>decide (q∈gG a p)
theorem FX:∀{l c:fc},l.Perm c->l.Pairwise (·<=·)->c.Pairwise (·<=·)->l=c
 | [],c,p,_,_=>(List.Perm.nil_eq p)
 | a::l,c,p,h,h'=>by
   cases c with
   | nil=>exact absurd p.symm.nil_eq (by simp)
   | cons b r=>
     obtain⟨j,i⟩:=List.pairwise_cons.mp h;obtain⟨d,f⟩:=List.pairwise_cons.mp h';have e:a=b:=by
      have k:a∈b::r:=p.subset aA;have g:b∈a::l:=p.symm.subset aA;rcases aw.mp k with z|z
      .exact z
      .rcases aw.mp g with w|w
       .exact w.symm
       .have:=j b w;have:=d a z
        lia
     subst e;rw[FX (List.Perm.cons_inv p) i f]
theorem HR(n:Nat):(bM n).Pairwise (·<=·):=by
 unfold bM;refine List.Pairwise.map _ (λa b (h:a<b)=>?_) List.pairwise_lt_range
 lia
theorem KQ(m:Int)(a:hD)(p:Int):(kM m a p).Pairwise (·<=·):=(HR _).filter _
theorem DT(m:Int)(a:hD)(p:Int):(kM m a p).Nodup:=(ij _).filter _
theorem oO{m:Int}{c:hD}(g:Good m c){p q:Int}:q∈kM m c p↔Adj c p q:=by
 unfold kM;rw[bx,bT,Bw,fh]
 constructor
 .exact λh=>h.2
 .intro h;obtain⟨_,⟨a,b⟩,_⟩:=g.adj h;exact⟨⟨a,by lia⟩,h⟩
theorem iP:∀{l c:fc},l.Nodup->c.Nodup->(∀x,x∈l↔x∈c)->l.Perm c
 | [],c,_,_,h=>by
   cases c with
   | nil=>exact .nil
   | cons b r=>exact absurd ((h b).mpr aA) (by simp)
 | a::l,c,n,n',h=>by
   obtain⟨f,d⟩:=bg.mp n;have e:a∈c:=(h a).mp aA;refine List.Perm.trans (List.Perm.cons a ?_) (List.perm_cons_erase e).symm;refine iP d (n'.erase a) λx=>?_
   constructor
   .intro hx;have ne:x≠a:=λz=>f (z▸hx);exact(nI ne).mpr ((h x).mp (ap _ hx))
   .intro hx;have:x≠a:=λz=>by
     subst z;exact(List.Nodup.not_mem_erase n') hx
    rcases aw.mp ((h x).mpr (List.mem_of_mem_erase hx))with z|z
    .exact absurd z this
    .exact z
theorem Vb{m:Int}{a:hD}(g:Good m a){p:Int}(e:0<=p)(f:p<m){b:fc}(d:b.Perm (gG a p))(c:b.Pairwise (·<=·)):b=kM m a p:=by
 refine FX (d.trans (iP (Os g e f) (DT m a p) λx=>?_)) c (KQ m a p);rw[oO g,Bw]
def jk(a b:Int)(x:Road):Option Int:=if x.a=a/\x.b=b then some x.t else if x.a=b/\x.b=a then some x.u else none
def ce(c:hD)(a b:Int):Option Int:=c.findSome? (jk a b)
theorem xJ{e:hD}{a b:Int}:(ce e a b).isSome=true↔Adj e a b:=by
 unfold ce;rw[List.findSome?_isSome_iff]
 constructor
 .rintro⟨x,hx,h⟩;unfold jk at h;by_cases c:x.a=a/\x.b=b
  .exact⟨x,hx,.inl c⟩
  .rw[ag c]at h;by_cases d:x.a=b/\x.b=a
   .exact⟨x,hx,.inr ⟨d.2,d.1⟩⟩
   .rw[ag d]at h;cases h
 .rintro⟨x,hx,h⟩;refine⟨x,hx,?_⟩;unfold jk;rcases h with h|h
  .rw[aj h];rfl
  .by_cases c:x.a=a/\x.b=b
   .rw[aj c];rfl
   .rw[ag c,aj ⟨h.2,h.1⟩];rfl
def rA(x:Road)(a b:Int):Prop:=(x.a=a/\x.b=b)\/(x.b=a/\x.a=b)
theorem FK{m:Int}{c:hD}(g:Good m c){a b:Int}{i j:Nat}{x y:Road}(k:c[i]?=some x)(E:c[j]?=some y)(o:rA x a b)(C:rA y a b):i=j:=by
 obtain⟨⟨t,s⟩,_,_⟩:=g.adj (show Adj c a b from⟨x,aO k,o⟩);obtain⟨d,A,R⟩:=zk g t s;have e:∀z∈c,rA z a b->(if z.a≠a/\d z.a=z.b then z.a else z.b)=b:=λz B v=>by
  rcases v with⟨p,q⟩|⟨p,q⟩
  .rw[ag (λw=>w.1 p)];exact q
  .rcases R.road z B with w|w
   .rw[aj w];exact q
   .exact absurd p w.1
 have h:=(aD.mp k);have f:=(aD.mp E);obtain⟨h,u⟩:=h;obtain⟨f,D⟩:=f;have n:=iV.mp R.one;have l:(c.map λz=>if z.a≠a/\d z.a=z.b then z.a else z.b)[i]'(by rw[ah];exact h)=b:=by
  rw[jB];exact e _ (eT h) (u▸o)
 have r:(c.map λz=>if z.a≠a/\d z.a=z.b then z.a else z.b)[j]'(by rw[ah];exact f)=b:=by
  rw[jB];exact e _ (eT f) (D▸C)
 rcases lQ i j with z|z|z
 .exact absurd (l.trans r.symm) (n i j _ _ z)
 .exact z
 .exact absurd (r.trans l.symm) (n j i _ _ z)
theorem Op{a b:Int}{x:Road}(h:¬rA x a b):jk a b x=none:=by
 unfold jk;rw[ag (λz=>h (.inl z)),ag (λz=>h (.inr ⟨z.2,z.1⟩))]
theorem tJ{m:Int}{d:hD}(g:Good m d){a b:Int}{i:Nat}{x:Road}(l:d[i]?=some x)(j:rA x a b):ce d a b=jk a b x:=by
 have lt:=(aD.mp l);obtain⟨lt,o⟩:=lt;have e:d=d.take i++x::d.drop (i+1):=by rw[<-o,mR,cP]
 have f:ce (d.take i) a b=none:=by
  unfold ce;rw[List.findSome?_eq_none_iff];intro y s;refine Op λq=>?_;obtain⟨k,h⟩:=cJ s;have p:=(aD.mp h).1;rw[bE]at p;rw[jf (by lia)]at h;have:=FK g h l q j
  lia
 have r:(jk a b x).isSome=true:=by
  unfold jk;rcases j with z|z
  .rw[aj z];rfl
  .by_cases c:x.a=a/\x.b=b
   .rw[aj c];rfl
   .rw[ag c,aj ⟨z.2,z.1⟩];rfl
 obtain⟨v,n⟩:=fK.mp r;have:ce (d.take i++x::d.drop (i+1)) a b=jk a b x:=by
  unfold ce at f ⊢;rw[j5,f,lA,n]
  rfl
 rw[<-e]at this;exact this
theorem Qp{c:hD}{a b:Int}(h:¬Adj c a b):ce c a b=none:=by
 cases q:ce c a b with
 | none=>rfl
 | some v=>exact absurd (xJ.mp (by rw[q];rfl)) h
theorem TU{x:Road}(h:x.a≠x.b):jk x.a x.b x=some x.t:=by unfold jk;rw[aj ⟨rfl,rfl⟩]
theorem QY{x:Road}(h:x.a≠x.b):jk x.b x.a x=some x.u:=by unfold jk;rw[ag (λz=>h z.1),aj ⟨rfl,rfl⟩]
theorem OE{m:Int}{a:hD}(p:Int):kM m a p=(bM m.toNat).filter λq=>(ce a p q).isSome:=by
 unfold kM
 congr 1
 funext q
 rw[ip,bT,xJ,Bw]
end Pb
namespace L2
open PySem PySem.Spec PyProof.Rows
def bZ(c:CXT):Prop:=∀a H s e b,¬c a H s E0 e b
theorem md{a:CXT}(q:bZ a){X:Cx}:tj a X E0:=λ_ _ _ _ _ _ _ h=>(q _ _ _ _ _ h).elim
structure Df(K:f3)(mg:gx)(x:Str)(st:Stmt)(ps:gy)(f:Addr)(fd:FuncData):Prop where
 F:Fun K x x st f fd
 m:mg x=some (.ref f)
 b:Binds K fd ps []
section
variable{P:Program}{w:World}{K:f3}{c:gx}{a:Heap}{b:CXT}
theorem Fun.ϖ{x e:Str}{st:Stmt}{f:Addr}{r:FuncData}{N o:gy}{k:Nat}{l:Sp}(F:Fun K x e st f r)(S:ζ N o (aG st))(m:∀g H Q E,l g H Q E->g.length=o.length)(p:∀(i:Value) (A:Around) (d:List Env) (s:Shared) (H:Hp) (g:List V) (Q:VK) (E:XK),ϊ k (A.deeper (envOfC e (aG st) s.heap.objs.size f i))->l g H Q E->∃t,PSs (t7 b P w K c a N e (aG st) f i A d s H E).nox (iE st) t/\t { nx:=λ_ u=>Q .ο u,rt:=Q } (start N g) H):Ψ P w K c a b (k+1) f r o l:=by
 obtain⟨J,G,kV,z,D,I,i,C,B,rfl,y,n⟩:=F.ex;refine Uy y n S m λA d s H g Q E v j=>?_;obtain⟨t,h,q⟩:=p i A d s H g Q E v j;exact⟨t,h.nox,q⟩
end
structure NmL(sc:Scope)(x:Str):Prop where
 l:sc.names.lookup x=some .local
 d:(x==("__debug__":Str))=false
 c:(x==("__classdict__":Str))=false
structure NmC(sc:Scope)(x:Str):Prop where
 l:sc.names.lookup x=some .cell
 d:(x==("__debug__":Str))=false
 c:(x==("__classdict__":Str))=false
structure ώ(sc:Scope)(x:Str):Prop where
 g:sc.names.lookup x=some .globalImplicit
 d:(x==("__debug__":Str))=false
 n:x≠"__name__"
theorem us1{a:gg}(h:a.length=1):∃b,a=[b]:=List.length_eq_one_iff.mp h
theorem us2{a:gg}(h:a.length=2):∃b c,a=[b,c]:=by
 cases a with
 | nil=>cases h
 | cons b t=>
   obtain⟨c,e⟩:=us1 (mh h);subst e;exact⟨b,c,rfl⟩
theorem us3{a:gg}(h:a.length=3):∃b c d,a=[b,c,d]:=by
 cases a with
 | nil=>cases h
 | cons b t=>
   obtain⟨c,d,e⟩:=us2 (mh h);subst e;exact⟨b,c,d,rfl⟩
theorem us4{a:gg}(h:a.length=4):∃b c d f,a=[b,c,d,f]:=by
 cases a with
 | nil=>cases h
 | cons b t=>
   obtain⟨c,d,f,e⟩:=us3 (mh h);subst e;exact⟨b,c,d,f,rfl⟩
theorem us5{a:gg}(h:a.length=5):∃b c d f g,a=[b,c,d,f,g]:=by
 cases a with
 | nil=>cases h
 | cons b t=>
   obtain⟨c,d,f,g,e⟩:=us4 (mh h);subst e;exact⟨b,c,d,f,g,rfl⟩
def nmL(a:Scope)(x:Str):Bool:=decide (a.names.lookup x=some .local)&&!(x==("__debug__":Str))&&!(x==("__classdict__":Str))
def nmC(a:Scope)(x:Str):Bool:=decide (a.names.lookup x=some .cell)&&!(x==("__debug__":Str))&&!(x==("__classdict__":Str))
def nmG(a:Scope)(x:Str):Bool:=decide (a.names.lookup x=some .globalImplicit)&&!(x==("__debug__":Str))&&!decide (x="__name__")
theorem NmL.of{a:Scope}{x:Str}(h:nmL a x=true):NmL a x:=by
 unfold nmL at h;simp only[bK,bT,jS]at h;exact⟨h.1.1,h.1.2,h.2⟩
theorem NmC.of{a:Scope}{x:Str}(h:nmC a x=true):NmC a x:=by
 unfold nmC at h;simp only[bK,bT,jS]at h;exact⟨h.1.1,h.1.2,h.2⟩
theorem ώ.of{a:Scope}{x:Str}(h:nmG a x=true):ώ a x:=by
 unfold nmG at h;simp only[bK,bT,jS,decide_eq_false_iff_not]at h;exact⟨h.1.1,h.1.2,h.2⟩
def Zg(N b:gy)(a:Scope):Bool:=decide (a.kind=.function)&&!a.isCoroutine&&!a.isGenerator&&decide N.Nodup&&decide (N.take b.length=b)&&(b.all λx=>decide (a.names.lookup x=some .local\/a.names.lookup x=some .cell))&&(a.names.all λy=>decide (y.2≠.free))
theorem ζ.of{N a:gy}{b:Scope}(h:Zg N a b=true:=by kernel_rfl):ζ N a b:=by
 unfold Zg at h;simp only[bK,bT,jS,gL]at h;obtain⟨⟨⟨⟨⟨⟨e,d⟩,i⟩,g⟩,f⟩,c⟩,j⟩:=h;exact⟨e,d,i,g,f,c,j⟩
theorem pvl{X:Cx}(i:Nat){x:Str}{a:Pos}(n:NmL X.env.scope x)(b:X.N[i]?=some x:=by rfl):PE X (.Name x a) (yZ i):=HK b (.inl n.l) n.d n.c
theorem pvc{X:Cx}(i:Nat){x:Str}{a:Pos}(n:NmC X.env.scope x)(b:X.N[i]?=some x:=by rfl):PE X (.Name x a) (yZ i):=HK b (.inr (.inl n.l)) n.d n.c
theorem O6{e:CXT}{P:Program}{w:World}{K:f3}{g:gx}{c:Heap}{N:gy}{d:Str}{a:Scope}{f:Addr}{h:Value}{A:Around}{b:List Env}{s:Shared}{H:Hp}{E:XK}:(t7 e P w K g c N d a f h A b s H E).K=K:=rfl
theorem FF(D:Ends)(a:St)(H:Hp):adF D a H=False:=rfl
theorem Vy(i j:Int):tV (.int i) (.int j)=true:=rfl
theorem Vh(i j:Bool):tV (.bl i) (.bl j)=true:=rfl
theorem UM(i:Int):tV (.int i) .ο=true:=rfl
theorem US(i:Int):tV .ο (.int i)=true:=rfl
theorem UH:tV .ο .ο=true:=rfl
theorem UV(i j:Str):tV (.str i) (.str j)=true:=rfl
theorem ixT{K:f3}{H:Hp}{p:Addr}{a:List V}{i:Int}{v:V}{Q:VK}(h:H p=some (.tup a))(e:Ϧ a i=some v)(q:Q v H):MC K (.ref p) (.int i) H Q:=⟨p,a,i,v,rfl,rfl,Ξ.of h,e,q⟩
theorem Φ{K:f3}{H:Hp}{p:Addr}{a:List V}{i:Int}{v:V}{Q:VK}(h:H p=some (.lst a))(e:Ϧ a i=some v)(q:Q v H):GO K (.ref p) (.int i) H Q:=⟨p,a,i,v,rfl,rfl,ν.of h,e,q⟩
theorem ixS{K:f3}{H:Hp}{p:Addr}{a:List V}{i:Int}{v:V}{Q:VK}(h:ν K H p a)(e:Ϧ a i=some v)(q:Q v H):GO K (.ref p) (.int i) H Q:=⟨p,a,i,v,rfl,rfl,h,e,q⟩
theorem tyL{K:f3}{H:Hp}{l:Addr}{a:List V}(h:H l=some (.lst a)):tyV K "list" (.ref l) H:=.inl ⟨rfl,_,ν.of h⟩
theorem tX{H:Hp}{l:Addr}{a:List V}{y:V}{Q:VK}(h:H l=some (.lst a))(b:a.length<sizeLine)(q:Q .ο (upd H l (.lst (a++[y])))):iS (.ref l) [y] H Q:=⟨l,a,y,rfl,rfl,h,b,q⟩
theorem aKa{H:Hp}{l:Addr}{a:List V}{i:Int}{y:V}{Q:VK}(h:H l=some (.lst a))(b:0<=i)(c:i<=a.length)(d:a.length<sizeLine)(q:Q .ο (upd H l (.lst (a.take i.toNat++y::a.drop i.toNat)))):aaw (.ref l) [.int i,y] H Q:=⟨l,a,i,y,rfl,rfl,h,b,c,d,q⟩
theorem Ub{H:Hp}{l:Addr}{a:List V}{y:V}{Q:VK}(h:H l=some (.lst (a++[y])))(q:Q y (upd H l (.lst a))):ahq (.ref l) [] H Q:=⟨l,a++[y],y,rfl,rfl,h,by simp,by rw[List.dropLast_concat];exact q⟩
theorem fV{n:Nat}(h:n<=100000):n<sizeLine:=gQ h (by decide)
theorem dz{n:Nat}(h:n<=100000):n<=sizeLine:=jG (fV h)
theorem dj{a:Type}{b:List a}{i:Int}{v:a}(c:0<=i)(h:b[i.toNat]?=some v):Ϧ b i=some v:=by
 obtain⟨n,rfl⟩:∃n:Nat,i=n:=⟨i.toNat,by lia⟩;exact LV (by simpa using h)
theorem xC{X:Cx}{x:Str}{i:Int}{a:Pos}(b:Gl X x)(c:∃t,X.mg x=some (.int i t))(hd:(x==("__debug__":Str))=false:=by decide):PE X (.Name x a) (tC (.int i)):=by
 obtain⟨t,e⟩:=c;exact VF b e ⟨t,rfl⟩ hd
def Itx(K:f3):Bool->Addr->It
 | true,a=>Itl K a
 | false,a=>Itt K a
def Ul(K:f3)(c:Bool)(d:TE):TI:=λf H R=>d f H λx b=>∃a,x=.ref a/\(∃e,ϑ K c b a e)/\R (Itx K c a) b
theorem Qc{X:Cx}{d l:Expr}{b:TE}(c:Bool)(a:PE X l b):PI X d l (Ul X.K c b):=by
 cases c
 .exact yQ a
 .exact iB a
def wG(J:It)(p:Addr)(Q:VK)(g:TG)(n:TT)(r:TE)(h:St)(q:Hp):Prop:=∃W:Nat->Nat->List V->St->Hp->Prop,(∃m,W 0 m [] h q)/\∀i m c e f,W i m c e f->(J.stop i f/\Q (.ref p) f)\/(J.go i f/\∀x j,J.yld i f x j->g x e j λa o=>n a o λb k=>
 if b=true then r a k λy l=>l p=some (.lst c)/\c.length<sizeLine/\∃d,d<m/\W (i+1) d (c++[y]) a (upd l p (.lst (c++[y])))
 else ∃d,d<m/\W (i+1) d c a k)
theorem Fx{a:Nat}{c:List Nat}{d:TI}{g:TG}{f:TT}{e:TE}{b:St}{H:Hp}{Q:VK}:Mo a c d g f e b H Q=d b H λJ h=>∀p,h p=none->wG J p Q g f e (nL a c b) (upd h p (.lst [])):=rfl
def uf(J:It)(D:Ends)(g:TG)(h:TS)(c:St)(H:Hp):Prop:=∃W:Nat->Nat->St->Hp->Prop,(∃m,W 0 m c H)/\∀i m c H,W i m c H->(J.stop i H/\D.nx c H)\/(J.go i H/\∃N:St->Hp->Prop,(∀b a,N b a->∃e,e<m/\W (i+1) e b a)/\∀x a,J.yld i H x a->g x c a λd f=>h { D with nx:=N,ct:=N,bk:=D.nx } d f)
theorem Lc{c:TI}{g:TG}{b:TS}{D:Ends}{a:St}{H:Hp}:Zc c g b D a H=c a H λJ d=>uf J D g b a d:=rfl
theorem vc{K:f3}{c:Bool}{a p:Addr}{xs:List V}{Q:VK}{g:TG}{v:TT}{z:TE}{n:St}{w:Hp}(l:Nat->List V->St->Hp->Prop)(C:l 0 [] n w)(D:∀i d f H,i<=xs.length->l i d f H->ϑ K c H a xs)(F:∀(i:Nat) (x:V) (d:List V) (f:St) (H:Hp) (N:List V->St->Hp->Prop),(∀o h k,l (i+1) o h k->N o h k)->xs[i]?=some x->l i d f H->g x f H λj I=>v j I λb t=>
 if b=true then z j t λy A=>A p=some (.lst d)/\d.length<sizeLine/\N (d++[y]) j (upd A p (.lst (d++[y])))else N d j t)(E:∀d f H,l xs.length d f H->Q (.ref p) H):wG (Itx K c a) p Q g v z n w:=by
 refine⟨λi m d f H=>m=xs.length-i/\i<=xs.length/\l i d f H,⟨xs.length,by simp,bB _,C⟩,?_⟩;rintro i m d f H ⟨rfl,B,pv⟩;have q:=D i d f H B pv;by_cases r:i<xs.length
 .refine .inr ⟨?_,λx k y=>?_⟩
  .cases c
   .exact⟨xs,xs[i],q,by simp[r]⟩
   .exact⟨xs,xs[i],q,by simp[r]⟩
  .have e:k=H/\xs[i]?=some x:=by
    cases c
    .exact⟨y.1,y.2 xs q⟩
    .exact⟨y.1,y.2 xs q⟩
   obtain⟨rfl,G⟩:=e;exact F i x d f _ (λo h k=>∃u,u<xs.length-i/\(u=xs.length-(i+1)/\i+1<=xs.length/\l (i+1) o h k)) (λo h k s=>⟨xs.length-(i+1),by lia,rfl,r,s⟩) G pv
 .have e:i=xs.length:=by lia
  subst e;refine .inl ⟨?_,E d f H pv⟩;cases c
  .exact⟨xs,q,az _⟩
  .exact⟨xs,q,az _⟩
theorem nK{lo:Int}{n:Nat}{p:Addr}{Q:VK}{g:TG}{t:TT}{v:TE}{k:St}{u:Hp}(j:Nat->List V->St->Hp->Prop)(z:j 0 [] k u)(B:∀(i:Nat) (a:List V) (d:St) (H:Hp) (N:List V->St->Hp->Prop),(∀l c h,j (i+1) l c h->N l c h)->i<n->j i a d H->g (.int (lo+i)) d H λf C=>t f C λb r=>
 if b=true then v f r λy w=>w p=some (.lst a)/\a.length<sizeLine/\N (a++[y]) f (upd w p (.lst (a++[y])))else N a f r)(A:∀a d H,j n a d H->Q (.ref p) H):wG (Itr lo n) p Q g t v k u:=by
 refine⟨λi m a d H=>m=n-i/\i<=n/\j i a d H,⟨n,by simp,bB _,z⟩,?_⟩;rintro i m a d H ⟨rfl,D,pv⟩;by_cases o:i<n
 .refine .inr ⟨o,λx h y=>?_⟩;obtain⟨rfl,rfl⟩:=y;exact B i a d _ (λl c h=>∃s,s<n-i/\(s=n-(i+1)/\i+1<=n/\j (i+1) l c h)) (λl c h q=>⟨n-(i+1),by lia,rfl,o,q⟩) o pv
 .have e:i=n:=by lia
  subst e;exact .inl ⟨az _,A a d H pv⟩
theorem Ts:bootBuiltins "tuple"=some (.type "tuple"):=by decide +kernel
section
variable{X:Cx}{a b o e:Expr}{i:List Expr}{j n k:TE}{t:TA}{g d q:Pos}{f c:Str}{T m:String}{r:V->List V->Hp->VK->Prop}
theorem EY(K:f3)(h:X.K=K):oC X (.type "tuple") (λu H Q=>∃p s,u=[.ref p]/\((ν K H p s/\∀l,H l=none->Q (.ref l) (upd H l (.tup s)))\/(Ξ K H p s/\Q (.ref p) H))):=by subst h;exact kO
theorem pF(K:f3)(h:X.K=K):IxR X (GO K):=by subst h;exact bX
theorem L6(K:f3)(h:X.K=K):IxR X (MC K):=by subst h;exact lW
end
theorem Dg{x:Str}{k:NameKind}:∀{l:List (Str×NameKind)},l.lookup x=some k->∃y,(y,k)∈l
 | [],h=>by simp at h
 | (n,j)::r,h=>by
   rw[c8]at h;cases q:x==n with
   | true=>
     rw[q]at h;cases h;exact⟨n,aA⟩
   | false=>
     rw[q]at h;obtain⟨y,a⟩:=Dg h;exact⟨y,ap _ a⟩
theorem xZ{X:Cx}{Nc:gy}{a:Scope}(own:Nat)(g:∀y∈a.names,y.2≠.free)(f:∀y∈a.names,y.2≠.cell)(hk:a.kind=.function)(hn:∀y∈a.names,y.2=.local->a.names.lookup y.1=some .local)(m:Nc.length=own):ϣ X Nc own [] a [] where
 afN:=closureFor_none g
 kind:=hk
 acn:=f
 names:=hn
 cells:=λx c h=>by cases h
 has:=λx h=>by
  have b:∀k,(relabel a X.env).names.lookup x=some k->k≠.cell/\k≠.free:=λk e=>by
   obtain⟨y,q⟩:=Dg e;obtain⟨⟨n,k0⟩,d,l⟩:=aU.mp q;have j:=g _ d;have p:=f _ d;have o:(k0==NameKind.free)=false:=(by simpa using j);simp only[o,jF,dI,if_false]at l;cases l;exact⟨p,j⟩
  rcases h with h|h
  .exact absurd rfl (b _ h).1
  .exact absurd rfl (b _ h).2
 len:=by simpa using m
 outer:=λi x h=>by
  rw[bO (by lia)]at h;cases h
theorem vw{K:f3}{a:Addr}{xs:List V}{g:TG}{h:TS}{D:Ends}{b:St}{H:Hp}(c:Nat->St->Hp->Prop)(j:c 0 b H)(k:∀i b H,i<=xs.length->c i b H->ν K H a xs)(m:∀(i:Nat) (x:V) (b:St) (H:Hp) (N:St->Hp->Prop),(∀d f,c (i+1) d f->N d f)->xs[i]?=some x->c i b H->g x b H λe o=>h { D with nx:=N,ct:=N,bk:=D.nx } e o)(l:∀b H,c xs.length b H->D.nx b H):uf (Itl K a) D g h b H:=Ti c j k (λi x b H n p=>m i x b H (c (i+1)) (λ_ _ z=>z) n p) l
theorem IA{K:f3}{a:Addr}{xs:List V}{g:TG}{h:TS}{D:Ends}{b:St}{H:Hp}(c:Nat->St->Hp->Prop)(j:c 0 b H)(k:∀i b H,i<=xs.length->c i b H->Ξ K H a xs)(m:∀(i:Nat) (x:V) (b:St) (H:Hp) (N:St->Hp->Prop),(∀d f,c (i+1) d f->N d f)->xs[i]?=some x->c i b H->g x b H λe o=>h { D with nx:=N,ct:=N,bk:=D.nx } e o)(l:∀b H,c xs.length b H->D.nx b H):uf (Itt K a) D g h b H:=Ey c j k (λi x b H n p=>m i x b H (c (i+1)) (λ_ _ z=>z) n p) l
theorem ux{lo:Int}{n:Nat}{g:TG}{f:TS}{D:Ends}{a:St}{H:Hp}(b:Nat->St->Hp->Prop)(j:b 0 a H)(l:∀(i:Nat) (a:St) (H:Hp) (N:St->Hp->Prop),(∀c e,b (i+1) c e->N c e)->i<n->b i a H->g (.int (lo+i)) a H λd m=>f { D with nx:=N,ct:=N,bk:=D.nx } d m)(k:∀a H,b n a H->D.nx a H):uf (Itr lo n) D g f a H:=PJ b j (λi a H h p=>l i a H (b (i+1)) (λ_ _ z=>z) h p) k
theorem wW{c:TT}{h:TS}{D:Ends}{e:St}{H:Hp}(W:Nat->St->Hp->Prop)(i:Nat)(k:W i e H)(m:∀(n:Nat) (e:St) (H:Hp) (N:St->Hp->Prop),(∀g a d,g<n->W g a d->N a d)->(∀a d,N a d->∃f,f<n/\W f a d)->W n e H->c e H λb j=>if b=true then ∃N:St->Hp->Prop,(∀a d,N a d->∃f,f<n/\W f a d)/\h { D with nx:=N,ct:=N,bk:=D.nx } e j else D.nx e j):IK c h D e H:=⟨W,⟨i,k⟩,λn e H w=>m n e H (λa d=>∃f,f<n/\W f a d) (λg _ _ o l=>⟨g,o,l⟩) (λ_ _ z=>z) w⟩
theorem p60:(0:Int)<10^(60:Int).toNat:=p8 (by decide)
theorem zR{a:Int}{n:Nat}(h:a.natAbs<2^n):Builtin.Int.intBits a<=n:=by
 unfold Builtin.Int.intBits;by_cases z:a=0
 .subst z;simp
 .have hz:(a==0)=false:=by simpa using z
  rw[hz];simp only[dI,if_false];have:=(oS (by lia)).mpr h
  lia
theorem Yt{a b:Int}(c:a.natAbs<2^4000)(d:b.natAbs<2^4000):IntMulOk a b:=IntMulOk.of_bits (aP (zR c) (by decide)) (aP (zR d) (by decide))
open Pb
def pI(r:Road):List V:=[.int r.a,.int r.b,.int r.t,.int r.u]
abbrev π(H:Hp):List Addr->List Road->Prop:=Paired λp r=>H p=some (.tup (pI r))
theorem π.same{H a:Hp}(e:δ H a){b:gf}{c:hD}(h:π H b c):π a b c:=Paired.imp' (λp r q=>e p _ q) h
theorem π.get{H:Hp}:∀{c:gf}{d:hD}{i:Nat}{x:V},π H c d->(c.map V.ref)[i]?=some x->∃p r,x=.ref p/\c[i]?=some p/\d[i]?=some r/\H p=some (.tup (pI r))
 | _,_,i,x,.nil,e=>by simp at e
 | _,_,0,x,.cons (a:=p) (b:=r) h hs,e=>⟨p,r,by simpa using e.symm,by simp,by simp,h⟩
 | a::l1,_,i+1,x,.cons h hs,e=>by
   have f:(List.map V.ref l1)[i]?=some x:=by simpa using e
   obtain⟨p,r,j,g,l,k⟩:=π.get hs f;exact⟨p,r,j,by simpa using g,by simpa using l,k⟩
theorem δ.tup{K:f3}{H b:Hp}{a:Addr}{xs:List V}(e:δ H b)(h:Ξ K H a xs):Ξ K b a xs:=by
 rcases h with(h|⟨o,h⟩)|h
 .exact .inl (.inl (e _ _ h))
 .exact .inl (.inr ⟨o,e _ _ h⟩)
 .exact .inr h
theorem δ.gE{K:f3}{H b:Hp}{c:Bool}{a:Addr}{d:List V}(e:δ H b)(h:ϑ K c H a d):ϑ K c b a d:=by
 cases c
 .exact δ.tup e h
 .exact δ.seq e h
theorem δ.new{H:Hp}{p:Addr}(o:HO)(h:H p=none):δ H (upd H p o):=λb u e=>by rw[aN (cG e h)];exact e
end L2
namespace L2
open PySem PySem.Spec PyProof.Rows
abbrev bmV:List Value:=[.type "ValueError",.type "Exception",.type "BaseException",.type "object"]
structure afU(K:f3)(C:Addr):Prop where
 ty:PySem.W.typeIn K (.ref C)=some (.type "type")
 ga:PySem.W.findIn K (.ref C) "__getattribute__"=some (some (.builtin "BaseException.__getattribute__"))
 gt:PySem.W.findIn K (.ref C) "__getattr__"=some none
 cl:PySem.W.findIn K (.ref C) "__class__"=some (some (.builtin "object.__class__"))
 gs:PySem.W.specialIn K (.builtin "object.__class__") "__get__"=some (some (.builtin "getset_descriptor.__get__"))
 tk:PySem.W.takesIn K (.builtin "object.__class__")=some true
 mo:PySem.W.mroIn K C (.type "object")=some true
 mb:PySem.W.mroIn K C (.type "BaseException")=some true
 hd:PySem.W.hasDictIn K C=true
 sf:PySem.W.mroIn K C (.ref C)=some true
def rF(h:Heap)(d:Addr)(cls:Value)(e:Option Addr)(a:Value):Prop:=∃b c,h.get? d=some b/\b.cls=cls/\b.dict=e/\b.data=.fields c/\c[1]?=some a/\c[2]?=some .none
def TbO(h:Heap)(T:Addr)(c:Value):Prop:=∃b a,h.get? T=some b/\b.data=.fields a/\a[3]?=some c
structure Err(h:Heap)(ea T:Addr)(cls:Value)(od:Option Addr)(fl:Value):Prop where
 e:rF h ea cls od (.ref T)
 t:TbO h T fl
 ne:T≠ea
structure Kept(fs xs:gf)(h h':Heap):Prop where
 keep:∀b o,h.get? b=some o->b∉fs->b∉xs->h'.get? b=some o
 slot:∀b o,h.get? b=some o->b∈fs->b∉xs->∃sl,h'.get? b=some { o with slots:=sl }
 there:∀b o,h.get? b=some o->∃o',h'.get? b=some o'
theorem Kept.mono{d c g:gf}{h a:Heap}(k:Kept d c h a)(s:∀b∈c,b∈g):Kept d g h a:=⟨λb o e f x=>k.keep b o e f λz=>x (s b z),λb o e f x=>k.slot b o e f λz=>x (s b z),k.there⟩
theorem Kept.trans{i d:gf}{h k j:Heap}(a:Kept i d h k)(b:Kept i d k j):Kept i d h j where
 keep:=λc o e f x=>b.keep c o (a.keep c o e f x) f x
 slot:=λc o e f x=>by
  obtain⟨s1,g⟩:=a.slot c o e f x;obtain⟨n,l⟩:=b.slot c _ g f x;exact⟨n,l⟩
 there:=λc o e=>by
  obtain⟨m,g⟩:=a.there c o e;exact b.there c m g
theorem Kept.afV{d c:gf}{h a:Heap}(k:∀b o,h.get? b=some o->a.get? b=some o):Kept d c h a:=⟨λb o e _ _=>k b o e,λb o e _ _=>⟨o.slots,k b o e⟩,λb o e=>⟨o,k b o e⟩⟩
theorem BK{k d:gf}{h:Heap}{a:Addr}{f:Obj}{l:Array Value}{i:Nat}{v:Value}(j:h.get? a=some f)(m:f.data=.fields l)(g:a∈d):Kept k d h (h.update a (Obj.mapFields (·.setIfInBounds i v))):=by
 have c:∀b o,h.get? b=some o->b∉d->(h.update a (Obj.mapFields (·.setIfInBounds i v))).get? b=some o:=λb o e x=>by
  rw[dJ _ _ (λ(z:a=b)=>x (z▸g))];exact e
 refine⟨λb o e _ x=>c b o e x,λb o e _ x=>⟨o.slots,c b o e x⟩,λb o e=>?_⟩;by_cases z:b=a
 .subst z;exact⟨_,fI _ j (iq (fe m _))⟩
 .rw[dJ _ _ (Ne.symm z)];exact⟨o,e⟩
theorem SS{h:Heap}{b:Addr}{a n v:Value}{f:Option Addr}(e:rF h b a f n):rF (h.update b (Obj.mapFields (·.setIfInBounds 1 v))) b a f v:=by
 obtain⟨p,i,o,q,r,g,l,j⟩:=e;have m:1<i.size:=(gH.mp l).1;refine⟨_,_,fI _ o (iq (fe g _)),?_,?_,fe g _,by simp[m],by rw[Array.getElem?_setIfInBounds_ne (by decide)];exact j⟩
 .rw[<-q];exact Obj.cls_mapFields _ _
 .rw[<-r];obtain⟨c,d,k,s⟩:=p;cases k<;>rfl
theorem DI{h:Heap}{c a:Addr}{b g:Value}{d:Option Addr}{f:Obj->Obj}(e:rF h c b d g)(ne:a≠c):rF (h.update a f) c b d g:=by
 obtain⟨l,i,k,j⟩:=e;exact⟨l,i,by rw[dJ _ _ ne];exact k,j⟩
theorem F1{h d:Heap}{b:Addr}{a f:Value}{c:Option Addr}(e:rF h b a c f)(k:∀o,h.get? b=some o->d.get? b=some o):rF d b a c f:=by
 obtain⟨j,l,i,g⟩:=e;exact⟨j,l,k _ i,g⟩
theorem Pl{h a:Heap}{c:Addr}{b n:Value}{j:Option Addr}{l:List Env}(e:rF h c b j n)(f:h.FunFrames a l):c∉Ϯ l:=λz=>by
 obtain⟨p,g,k,_,_,m,_⟩:=e;obtain⟨_,o,d,i⟩:=f.mem z;rw[k]at d;cases d;exact i g m
theorem S9{h a:Heap}{T:Addr}{d:Value}{l:List Env}(e:TbO h T d)(f:h.FunFrames a l):T∉Ϯ l:=λz=>by
 obtain⟨k,j,g,i,_⟩:=e;obtain⟨_,o,b,c⟩:=f.mem z;rw[g]at b;cases b;exact c j i
section
variable{M:Model}{A:Around}{E:fz}{s:Shared}{Q:Unit->Shared->Prop}{fs:gf}{i T L:Addr}{g l k:Value}{j:Option Addr}{base:Heap}{d:Env}{c:List Env}
theorem Ma(r:Err s.heap i T g j l)(h:∀b,Err b i T g j .none->Kept fs [T] s.heap b->Q () { s with heap:=b }):wpAny M A (setFlight (.ref i) none) Q E s:=by
 obtain⟨⟨w,x,f,t,q,n,m,p⟩,⟨y,v,e,a,u⟩,ne⟩:=r;have o:3<v.size:=(gH.mp u).1;unfold setFlight;refine ao (cZ f n m ?_);rw[aj (by simp:(Value.ref T != Value.none)=true)];refine iZ e a o (h _ ⟨DI ⟨w,x,f,t,q,n,m,p⟩ ne,⟨_,_,fI _ e (iq (fe a _)),fe a _,by simp[o]⟩,ne⟩ (BK e a (by simp)))
theorem Jz{m:Value}{v:Bool}(w:A.frames=some (d::c))(B:s.heap.FunFrames base (d::c))(K:d.frame=some L)(r:rF s.heap i g j k)(h:∀u y,Err u i y g j (rawInt L)->Kept (Ϯ (d::c)) [i] s.heap u->s.heap.get? y=none->Q () { s with heap:=u }):wpAny M A (do let a <-frameOf d;let p <-entryPlaceOf L v;let b <-EntryCells.newEntry m a .none (rawInt L) .none p;setField (.ref i) 1 b) Q E s:=by
 have N:=Pl r B;refine ao (wpAny_frameOf_fun w B K λn q=>ao (wpAny_entryPlaceOf λp I=>?_));unfold EntryCells.newEntry newFields;refine ao (h9 ?_ (I.sizeOk5 _ _ _ _ _));have G:rF n i g j k:=F1 r λo e=>(q.2.1 i N).trans e;generalize F:({ cls:=.type "traceback",dict:=none,data:=.fields ([m,.ref L,.none,rawInt L,.none]++(if p.isEmpty then List.replicate 6 Value.none else p)).toArray }:Obj)=t;have D:rF (n.push t) i g j k:=F1 G λo e=>aF _ e;obtain⟨R,O,C,P,V,x,H,S⟩:=id D;have lt:i<n.objs.size:=by
  obtain⟨_,_,e,_⟩:=G;exact aM e
 have J:(n.push t).get? n.objs.size=some t:=bc n (by rw[<-F];rfl);refine iZ C x (gH.mp H).1 (h _ n.objs.size ⟨SS D,⟨t,([m,.ref L,.none,rawInt L,.none]++(if p.isEmpty then List.replicate 6 Value.none else p)).toArray,?_,by rw[<-F],by simp⟩,fH lt⟩ ?_ ?_)
 .rw[dJ _ _ (aW lt)];exact J
 .have k1:Kept (Ϯ (d::c)) [i] s.heap n:=⟨λb o e f _=>(q.2.1 b f).trans e,λb o e _ _=>q.2.2 b o e,λb o e=>by
   obtain⟨U,z⟩:=q.2.2 b o e;exact⟨_,z⟩⟩
  exact k1.trans ((Kept.afV λb o e=>aF _ e).trans (BK C x (by simp)))
 .exact Heap.get?_none_of_le (by rw[q.1];exact az _)
theorem TN(a:A.frames=some (d::c))(m:s.heap.FunFrames base (d::c))(f:d.frame=some L)(r:rF s.heap i g j .none)(h:∀b e,Err b i e g j (rawInt L)->Kept (Ϯ (d::c)) [i] s.heap b->s.heap.get? e=none->Q () { s with heap:=b }):wpAny M A (noteFrame (.ref i) d) Q E s:=by
 obtain⟨v,w,p,u,t,n,o,q⟩:=id r;unfold noteFrame;simp only[f];refine ao (cZ p n o ?_);rw[ag (by decide)];exact Jz a m f r h
theorem VH(u:A.frames=some (d::c))(v:s.heap.FunFrames base (d::c))(w:d.frame=some L)(r:Err s.heap i T g j .none)(h:∀f a,Err f i a g j (rawInt L)->Kept (Ϯ (d::c)) [i,T] s.heap f->s.heap.get? a=none->Q () { s with heap:=f }):wpAny M A (noteFrame (.ref i) d) Q E s:=by
 have N:=S9 r.t v;obtain⟨⟨P,K,G,O,U,B,C,S⟩,⟨R,F,p,m,x⟩,ne⟩:=id r;unfold noteFrame;simp only[w];refine ao (cZ G B C ?_);rw[aj (by simp:(Value.ref T != Value.none)=true)];refine ao (cZ p m x ?_);rw[ag (by simp[rawInt])];have y:Kept (Ϯ (d::c)) [i,T] s.heap (s.heap.update T (Obj.mapFields (·.setIfInBounds 3 Value.none))):=BK p m (by simp);refine ao (iZ p m (gH.mp x).1 ?_);refine Jz u (v.of_keeps λb o e H=>⟨o,?_,rfl⟩) w (DI r.e ne) λf a D I n=>h f a D (y.trans (I.mono (by simp))) ?_
 .by_cases z:b=T
  .subst z;rw[p]at e;cases e;exact absurd m (H F)
  .rw[dJ _ _ (Ne.symm z)];exact e
 .cases q:s.heap.get? a with
  | none=>rfl
  | some o=>
    obtain⟨J,z⟩:=y.there a o q;rw[z]at n;cases n
theorem Qj(n:A.frames=some (d::c))(v:s.heap.FunFrames base (d::c))(w:d.frame=some L)(r:rF s.heap i g j .none)(h:∀a t,Err a i t g j .none->Kept (Ϯ (d::c)) [i] s.heap a->s.heap.get? t=none->Q () { s with heap:=a }):wpAny M A (leaving d (.ref i)) Q E s:=by
 unfold leaving;refine ao (TN n v w r λz y D q m=>Ma (fs:=Ϯ (d::c)) (s:={ s with heap:=z }) D λF B p=>h F y B ⟨λb o e f x=>p.keep b o (q.keep b o e f x) f ?_,λb o e f x=>?_,λb o e=>?_⟩ m)
 .simp only[aK];rintro rfl;rw[m]at e;cases e
 .obtain⟨s1,e1⟩:=q.slot b o e f x;obtain⟨u,C⟩:=p.slot b _ e1 f (by
   simp only[aK];rintro rfl;rw[m]at e;cases e)
  exact⟨u,C⟩
 .obtain⟨o1,e1⟩:=q.there b o e;exact p.there b o1 e1
theorem Sk(n:A.frames=some (d::c))(v:s.heap.FunFrames base (d::c))(w:d.frame=some L)(r:Err s.heap i T g j .none)(h:∀a t,Err a i t g j .none->Kept (Ϯ (d::c)) [i,T] s.heap a->s.heap.get? t=none->Q () { s with heap:=a }):wpAny M A (leaving d (.ref i)) Q E s:=by
 unfold leaving;refine ao (VH n v w r λz y D q m=>Ma (fs:=Ϯ (d::c)) (s:={ s with heap:=z }) D λF B p=>h F y B ⟨λb o e f x=>p.keep b o (q.keep b o e f x) f ?_,λb o e f x=>?_,λb o e=>?_⟩ m)
 .simp only[aK];rintro rfl;rw[m]at e;cases e
 .obtain⟨s1,e1⟩:=q.slot b o e f x;obtain⟨u,C⟩:=p.slot b _ e1 f (by
   simp only[aK];rintro rfl;rw[m]at e;cases e)
  exact⟨u,C⟩
 .obtain⟨o1,e1⟩:=q.there b o e;exact p.there b o1 e1
end
def ψ(P:Program)(w:World):CXT:=λa H s E e c=>∃(f T:Addr)(b:Value)(g:Option Addr)(d:Hp),e=.ref f/\c.os=s.os/\AllBare c.gens/\Un (Ϯ a) [] H d s.heap c.heap/\ϭ P w d c.heap/\d f=none/\d T=none/\s.heap.get? f=none/\s.heap.get? T=none/\Err c.heap f T b g .none/\E b g d
theorem bP{P:Program}{w:World}:bZ (ψ P w):=λa H s e b h=>by
 obtain⟨_,_,_,_,_,_,_,_,_,_,_,_,_,_,_,z⟩:=h;exact z
theorem IY{P:Program}{w:World}{H:Hp}{h c:Heap}{g d:gf}(x:ϭ P w H h)(k:Kept g d h c)(f:∀b∈g,H b=none)(u:∀b∈d,H b=none):ϭ P w H c:=λa o e=>by
 refine(x a o e).iF (λb i hb q=>k.keep b i q ?_ ?_) (λ_ q=>q) λ_ _ q=>q
 .intro z;rcases hb with rfl|hb
  .rw[f _ z]at e;cases e
  .rw[f _ z]at hb;cases hb
 .intro z;rcases hb with rfl|hb
  .rw[u _ z]at e;cases e
  .rw[u _ z]at hb;cases hb
theorem My{P:Program}{w:World}{H:Hp}{h:Heap}{b:Addr}(x:ϭ P w H h)(n:h.get? b=none):H b=none:=by
 cases q:H b with
 | none=>rfl
 | some o=>
   have lt:=x.lt q;cases z:h.get? b with
   | some o'=>rw[z]at n;cases n
   | none=>
     exfalso
     have:=(x b o q);cases o with
     | lst xs=>obtain⟨_,_,_,_,e⟩:=this;rw[n]at e;cases e
     | tup xs=>obtain⟨_,_,_,a,e,_⟩:=this;rw[n]at e;cases e
     | dK η=>obtain⟨_,_,_,_,a,_,_,e,_⟩:=this;rw[n]at e;cases e
     | dT η=>obtain⟨_,_,_,_,a,_,_,e,_⟩:=this;rw[n]at e;cases e
     | set S m=>obtain⟨a,_,_,_,e,_⟩:=this;rw[n]at e;cases e
     | ins C dx fs=>obtain⟨_,_,_,e,_⟩:=this;rw[n]at e;cases e
     | own y=>obtain⟨_,e⟩:=this;rw[n]at e;cases e
     | xd fs=>obtain⟨_,⟨_,_,_,e,_⟩,_⟩:=this;rw[n]at e;cases e
     | Ι lo hi=>obtain⟨_,_,_,e⟩:=this;rw[n]at e;cases e
     | frz a u=>obtain⟨e,_⟩:=this;rw[n]at e;cases e
     | tbl ps=>have e:h.get? b=some _:=this;rw[n]at e;cases e
     | met f y=>have e:h.get? b=some _:=this;rw[n]at e;cases e
     | ext φ=>obtain⟨_,⟨_,e⟩,_⟩:=this;rw[n]at e;cases e
section
variable{P:Program}{w:World}{K:f3}{i:gx}{base:Heap}{N:gy}{d:Str}{c:Scope}{f:Addr}{g:Value}{A:Around}{a:List Env}{s:Shared}{H:Hp}{E:XK}
theorem Iq{x:CXT}{j:f5}{y:St}{r:Hp}{q:Shared}{u:Heap}{t:gf}(J:Inv (t7 x P w K i base N d c f g A a s H E) j y r q)(k:Kept (Ϯ (envOfC d c s.heap.objs.size f g::a)) t q.heap u)(B:∀b∈t,s.heap.get? b=none):Un (Ϯ a) [] H r s.heap u:=by
 have h:Un (Ϯ a) [] H r s.heap q.heap:=J.base;have nl:∀b o,s.heap.get? b=some o->b∉t:=λb o e z=>by rw[B b z]at e;cases e
 have v:∀b o,s.heap.get? b=some o->b∉Ϯ a->b∉Ϯ (envOfC d c s.heap.objs.size f g::a):=λb o e z m=>by
  unfold Ϯ at m z;rw[jd]at m;have:(envOfC d c s.heap.objs.size f g).frame=some s.heap.objs.size:=rfl;rw[this]at m;rcases aw.mp m with m|m
  .exact absurd (aM e) (by rw[m];exact dM _)
  .exact z m
 refine⟨λb o e n p l=>k.keep b o (h.keep b o e n p l) (v b o e p) (nl b o e),λb o e n p l=>?_,h.free,λb o e l=>?_,h.Ge,h.iN,h.Io⟩
 .obtain⟨sl,e1⟩:=h.slot b o e n p l;by_cases m:b∈Ϯ (envOfC d c s.heap.objs.size f g::a)
  .obtain⟨s2,e2⟩:=k.slot b _ e1 m (nl b o e);exact⟨s2,e2⟩
  .exact⟨sl,k.keep b _ e1 m (nl b o e)⟩
 .obtain⟨o1,e1⟩:=h.there b o e l;exact k.there b o1 e1
theorem sD{m:CXT}{h:f5}{p:St}{k:Hp}{j:Shared}(J:Inv (t7 m P w K i base N d c f g A a s H E) h p k j){b:Addr}(n:j.heap.get? b=none):s.heap.get? b=none:=by
 cases q:s.heap.get? b with
 | none=>rfl
 | some o=>
   have l:Un (Ϯ a) [] H k s.heap j.heap:=J.base;obtain⟨r,e⟩:=l.there b o q (by simp);rw[n]at e;cases e
theorem cR:tj (ψ P w) (t7 (ψ P w) P w K i base N d c f g A a s H E) E:=by
 intro o M O L e F I h;obtain⟨D,T,j,B,n,rfl,os,bare,C,m,r,y,p,z,u,q⟩:=h;have J:=I.afe (ch:=[]) os C m bare (by simp);refine Sk (base:=base) J.ok.frames J.stack rfl u λG x l k t=>?_;have v:∀b∈Ϯ (envOfC d c s.heap.objs.size f g::a),n b=none:=J.aav;refine⟨D,x,j,B,n,rfl,J.os,J.bare,Iq J k ?_,IY m k v ?_,r,My m t,sD I p,sD J t,l,q⟩
 .intro b hb;simp only[aw,List.not_mem_nil,or_false]at hb;rcases hb with rfl|rfl
  .exact sD I p
  .exact sD I z
 .intro b hb;simp only[aw,List.not_mem_nil,or_false]at hb;rcases hb with rfl|rfl
  .exact r
  .exact y
end
def OQ(X:Cx)(E:XK):Prop:=∀(c:f5)(h:St)(H:Hp)(s:Shared)(d:Addr)(a:Value)(f:Option Addr)(e:Heap)(g:Nat),Inv X c h H s->(∀b o,s.heap.get? b=some o->e.get? b=some o)->s.heap.get? d=none->rF e d a f .none->E a f H->X.xe (.ref d) { s with heap:=e,toks:=g }
section
variable{P:Program}{w:World}{K:f3}{h:gx}{a:Heap}{N:gy}{e:Str}{c:Scope}{f:Addr}{g:Value}{A:Around}{d:List Env}{s:Shared}{H:Hp}{E:XK}
theorem pK:OQ (t7 (ψ P w) P w K h a N e c f g A d s H E) E:=by
 intro m D o B x j u z v I y i p q;have J:=I.kept (t':=v) y;refine Qj (base:=a) J.ok.frames J.stack rfl p λC t l k n=>?_;have r:∀b∈Ϯ (envOfC e c s.heap.objs.size f g::d),o b=none:=J.aav;refine⟨x,t,j,u,o,rfl,J.os,J.bare,Iq J k ?_,IY J.Β k r ?_,My I.Β i,My J.Β n,sD I i,sD J n,l,q⟩
 .intro b hb;rw[aK.mp hb];exact sD I i
 .intro b hb;rw[aK.mp hb];exact My I.Β i
end
def p9(K:f3)(C:Addr):Prop:=∃(m h:Str)(N:Addr)(i d:gg)(a:Bool)(e:gy)(c:gg)(f:Bool)(b:Option Bool)(j:Option Addr)(k l g o n:Option Value),K.lookup C=some (excClassObj m h C N i d a e c f b j k l g o n "ValueError.__new__")/\PySem.W.nsOkIn K N=true/\PySem.W.nsIn K N "__init__"=some none/\PySem.W.tailIn K bmV d=true
theorem VE{K:f3}{C:Addr}{o:Obj}(i j:Str)(N:Addr)(k h:gg)(d:Bool)(q:gy)(g:gg)(r:Bool)(f:Option Bool)(p:Option Addr)(m t s n u:Option Value)(l:K.lookup C=some o)(e:o=excClassObj i j C N k h d q g r f p m t s n u "ValueError.__new__")(a:PySem.W.nsOkIn K N=true)(b:PySem.W.nsIn K N "__init__"=some none)(c:PySem.W.tailIn K bmV h=true):p9 K C:=by
 subst e;exact⟨_,_,_,_,_,_,_,_,_,_,_,_,_,_,_,_,l,a,b,c⟩
def P9(C:Addr)(E:XK)(t:TA):TS:=λ_ b H=>t b H λc a=>c.length<=sizeLine/\E (.ref C) none a
section
variable{X:Cx}{x:Str}{e c d:Pos}{b:Expr}{a:List Expr}{t:TA}{C:Addr}{E:XK}
theorem nM(q:p9 X.K C)(z:X.calm=true)(P:OQ X E)(S:Gl X x)(v:X.mg x=some (.ref C))(J:PA X (b::a) t)(hdb:(x==("__debug__":Str))=false:=by decide)(o:starEach (b::a) X.env=(false,eval b X.env)::starEach a X.env:=by rfl)(A:(backTo c (starEach a X.env)).any (·.1)=false:=by rfl):PS X (.Raise (some (.Call (.Name x e) (b::a) [] c)) none d) (P9 C E t):=by
 intro f s p H D I h;obtain⟨nm,M,N,bs,bm,hdct,sn,sub,ab,col,dd,k0,k1,k2,k3,k5,O,l,L,G⟩:=q;have B:=I.mod.kin;have k:=PySem.W.tail_of_in B G;have y:X.base.Ns N (X.base.nsMap N):=.of_isNs (PySem.W.isNs_of_in B l);have T:(backTo c (starEach (b::a) X.env)).any (·.1)=false:=by
  rw[o];show(false||(backTo c (starEach a X.env)).any (·.1))=false;rw[A]
  rfl
 refine wpAny_Raise_call_subT (C:=C) (nm:=nm) (q:=M) (N:=N) (bs:=bs) (bm:=bm) (hdct:=hdct) (sn:=sn) (sub:=sub) (ab:=ab) (col:=col) (dd:=dd) (k0:=k0) (k1:=k1) (k2:=k2) (k3:=k3) (k5:=k5) PySem.F.excBase_ValueError
  (k.hasType (by decide +kernel)) (I.ok.hd z) T (PySem.W.nsMap_none_of_in B l L) (Ag I S v ⟨rfl,?_⟩ hdb)
 have g:=J c f s p H _ I h;rw[o]at g ⊢;refine Calls.evalArgs_plain (ϔ g λr j ⟨V,U,i,R,n⟩=>⟨rfl,by show r.length<=_;rw[<-R.length];exact n.1,i.bk _ _ (B _ _ O),y.keeps i.bk,k.keeps i.bk,λw Q m=>?_⟩);obtain⟨Y,u,_,_⟩:=m.there;exact P f p U j Q (.ref C) none w j.toks i m.keeps m.new ⟨_,_,u,rfl,rfl,rfl,rfl,rfl⟩ n.2
end
abbrev TH:=Ends->St->Value->Option Addr->Hp->Prop
def ve(a:List (Str×Addr)):List (Str×NameKind)->List (Str×Addr)->List (Str×Addr)
 | [],acc=>acc
 | (n,k)::r,acc=>if k==.free then ve a r ((n,(a.lookup n).getD 0)::acc)else ve a r acc
theorem Nj{b:Scope}{d:Env}(h:∀y∈b.names,y.2=.free->(d.cells.lookup y.1).isSome=true):closureFor b d=pure (ve d.cells b.names []):=by
 have f:∀(l:List (Str×NameKind))(e:List (Str×Addr)),(∀y∈l,y.2=.free->(d.cells.lookup y.1).isSome=true)->(forIn l e λ(y:Str×NameKind)(c:List (Str×Addr))=>(if y.2==NameKind.free then do let a <-cellOf d y.1;pure (ForInStep.yield ((y.1,a)::c))else pure (ForInStep.yield c):Sem (ForInStep (List (Str×Addr)))))=(pure (ve d.cells l e):Sem (List (Str×Addr))):=by
  intro l
  induction l with
  | nil=>intro e _;rfl
  | cons y l ih=>
    obtain⟨n,k⟩:=y;intro e j;have m:=j (n,k) aA;have g:∀y∈l,y.2=.free->(d.cells.lookup y.1).isSome=true:=λy o=>j y (ap _ o);rw[mY];unfold ve;cases q:k==NameKind.free with
    | false=>
      simp only[dI,if_false,pure_bind];exact ih e g
    | true=>
      obtain⟨c,i⟩:=fK.mp (m (by simpa using q));dsimp only at i;simp only[if_true,cellOf,i,pure_bind,Option.getD_some];exact ih _ g
 have:=f b.names [] h;unfold closureFor;simp only[bind_pure];exact this
theorem Cn{b:List (Str×Addr)}{x:Str}{c:Addr}:∀{l:List (Str×NameKind)}{e:List (Str×Addr)},(∀y∈l,y.2=.free->(b.lookup y.1).isSome=true)->(∀x c,e.lookup x=some c->b.lookup x=some c)->(ve b l e).lookup x=some c->b.lookup x=some c
 | [],e,_,h2,h3=>h2 x c h3
 | (n,k)::r,e,h1,h2,h3=>by
   have g:∀y∈r,y.2=.free->(b.lookup y.1).isSome=true:=λy f=>h1 y (ap _ f);unfold ve at h3;cases q:k==NameKind.free with
   | false=>
     rw[q]at h3;exact Cn g h2 (by simpa using h3)
   | true=>
     rw[q]at h3;simp only[if_true]at h3;obtain⟨a,h⟩:=fK.mp (h1 (n,k) aA (by simpa using q));dsimp only at h;rw[h]at h3;refine Cn g (λy d f=>?_) h3;rw[c8]at f;cases z:y==n with
     | true=>
       rw[z]at f;cases f;rw[eq_of_beq z];exact h
     | false=>
       rw[z]at f;exact h2 y d f
theorem Cf{a:List (Str×Addr)}{x:Str}:∀{l:List (Str×NameKind)}{b:List (Str×Addr)},((∃c,b.lookup x=some c)\/(x,NameKind.free)∈l)->∃c,(ve a l b).lookup x=some c
 | [],b,h=>by
   rcases h with h|h
   .exact h
   .cases h
 | (n,k)::r,b,h=>by
   unfold ve;cases q:k==NameKind.free with
   | false=>
     simp only[dI,if_false];refine Cf ?_;rcases h with h|h
     .exact .inl h
     .rcases aw.mp h with z|z
      .cases z;simp at q
      .exact .inr z
   | true=>
     simp only[if_true];refine Cf ?_;by_cases z:x=n
     .subst z;exact .inl ⟨(a.lookup x).getD 0,by rw[c8];simp⟩
     .rcases h with⟨c,h⟩|h
      .refine .inl ⟨c,?_⟩;rw[c8];have:(x==n)=false:=(by simpa using z);rw[this];exact h
      .rcases aw.mp h with y|y
       .cases y;exact absurd rfl z
       .exact .inr y
theorem rV{env:Env}{x:Str}{k:NameKind}:∀{l:List (Str×NameKind)},l.lookup x=some k->(l.map λ(n,k)=>if(k==NameKind.free&&env.scope.kind==.function&&env.kindOf n==some .cell)then(n,NameKind.cell)else(n,k)).lookup x=some (if(k==NameKind.free&&env.scope.kind==.function&&env.kindOf x==some .cell)then NameKind.cell else k)
 | [],h=>by simp at h
 | (n,j)::r,h=>by
   have a:=@rV env x k r;rw[aq];rw[c8]at h;cases z:x==n with
   | true=>
     rw[z]at h;cases h;have e:=eq_of_beq z;subst e;by_cases q:(k==NameKind.free&&env.scope.kind==.function&&env.kindOf x==some .cell)=true
     .simp only[q,if_true,c8,z]
     .simp only[q,if_false,c8,z,dI]
   | false=>
     rw[z]at h;dsimp only;by_cases q:(j==NameKind.free&&env.scope.kind==.function&&env.kindOf n==some .cell)=true
     .rw[aj q,c8,z];exact a h
     .rw[ag q,c8,z];exact a h
theorem VC{X:Cx}{f:gy}{scope:Scope}(a:Nat)(b:List Nat)(m:∀y∈scope.names,y.2≠.cell)(u:scope.kind=.function)(C:∀y∈scope.names,y.2=.local->scope.names.lookup y.1=some .local)(v:f.length=a+b.length)(p:∀y∈scope.names,y.2=.free->X.env.scope.names.lookup y.1=some .cell)(D:X.env.scope.kind=.function)(F:∀x,X.env.scope.names.lookup x=some .cell->∃c,X.env.cells.lookup x=some c)(A:∀i,i<b.length->∃x j,f[a+i]?=some x/\b[i]?=some j/\X.N[j]?=some x/\scope.names.lookup x=some .free):ϣ X f a b scope (ve X.env.cells scope.names []):=by
 have s:∀y∈scope.names,y.2=.free->(X.env.cells.lookup y.1).isSome=true:=λy G e=>by
  obtain⟨c,q⟩:=F _ (p y G e);rw[q]
  rfl
 have d:∀x,scope.names.lookup x=some .free->X.env.scope.names.lookup x=some .cell:=λx h=>p (x,.free) (dX h) rfl;refine⟨Nj s,u,m,C,λx c h=>Cn s (λx c z=>by simp at z) h,λx h=>?_,v,λi x h=>?_⟩
 .cases q:scope.names.lookup x with
  | none=>
    exfalso
    have:(relabel scope X.env).names.lookup x=none:=by
     unfold relabel;dsimp only
     revert q
     generalize scope.names=l
     induction l with
     | nil=>intro _;rfl
     | cons y l ih=>
       obtain⟨n,k⟩:=y;intro q;rw[c8]at q;cases z:x==n with
       | true=>rw[z]at q;cases q
       | false=>
         rw[z]at q;rw[aq];dsimp only;by_cases w:(k==NameKind.free&&X.env.scope.kind==.function&&X.env.kindOf n==some .cell)=true
         .rw[aj w,c8,z];exact ih q
         .rw[ag w,c8,z];exact ih q
    rw[this]at h;rcases h with h|h<;>cases h
  | some k=>
    have r:(relabel scope X.env).names.lookup x=some _:=rV (env:=X.env) q;cases k with
    | free=>exact Cf (.inr (dX q))
    | cell=>exact absurd rfl (m _ (dX q))
    | _=>
      rw[r]at h;simp at h
 .have hi:i<b.length:=by
   have:=(aD.mp h).1
   lia
  obtain⟨y,j,o,B,E,g⟩:=A i hi;rw[h]at o;cases o;have t:=d x g;refine⟨j,B,E,t,?_⟩;have r:(relabel scope X.env).names.lookup x=some _:=rV (env:=X.env) g;rw[r];have:X.env.kindOf x=some .cell:=t;rw[this,D]
  rfl
theorem Ls:∀{a:fc}{b:gg},Vals (a.map V.int) b->IntsAre b a
 | [],_,h=>by cases h;exact .nil
 | n::a,_,h=>by
   cases h with
   | cons r t=>
     obtain⟨k,rfl⟩:=(show ∃t,_=Value.int n t from r);exact .cons n k (Ls t)
theorem LM:∀{a:fc}{b:gg},IntsAre b a->Vals (a.map V.int) b
 | _,_,.nil=>.nil
 | _,_,.cons n t r=>.cons ⟨t,rfl⟩ (LM r)
section
variable{X:Cx}
theorem KO:oC X (.builtin "sorted") (λk H Q=>∃(p:Addr)(f:fc),k=[.ref p]/\ν X.K H p (f.map V.int)/\f.length<64/\∀(l:Addr)(c:fc),H l=none->c.Perm f->c.Pairwise (·<=·)->Q (.ref l) (upd H l (.lst (c.map V.int)))):=by
 intro j s G H k D Q I r h;obtain⟨p,f,rfl,C,x,q⟩:=h;obtain⟨u,rfl,v⟩:=uu r;cases v;obtain⟨g,y,w,F⟩:=I.list C;have i:=Ls y;have E:=IntsAre.length i;refine sorted_ints w.isList i (by lia) λd c t m z=>?_;obtain⟨e,A⟩:=sortedAll_at s.heap g d;have B:H (s.heap.objs.size+1)=none:=I.Β.fresh (gq _);have n:c.length=f.length:=m.length_eq;refine⟨.ref (s.heap.objs.size+1),_,I.laid (a:=s.heap.objs.size+1) (o:=.lst (c.map V.int)) (t':=s.toks) (λb o e=>sortedAll_old e) (gq _) ⟨?_,d.toList,e,LM t,?_⟩,rfl,q _ c B m z⟩
 .rw[ah,n];exact dz (by lia)
 .exact A
end
theorem U0{K:f3}{C T:Addr}{g:Value}{i:Option Addr}{e:ClassData}{f:Array (Option Value)}(h:K.lookup C=some ⟨g,i,.cls e,f⟩)(m:e.mro=.ref C::.ref T::bmV)(c:Addr):PySem.W.mroIn K C (.ref c)=some (decide (c=C)||decide (c=T)):=by
 unfold PySem.W.mroIn PySem.W.clsIn;rw[h];simp only[Option.bind_some,m,List.isEmpty_cons,dI,if_false]
 congr 1
 by_cases d:c=C
 .subst d;simp
 .by_cases h2:c=T
  .subst h2;simp
  .have a:(Value.ref c==Value.ref C)=false:=(by simpa using d);have b:(Value.ref c==Value.ref T)=false:=(by simpa using h2);simp[fE,a,b,d,h2]
structure ϱ(K:f3)(T C:Addr):Prop where
 x:afU K C
 mr:∀C',PySem.W.mroIn K C (.ref C')=some (decide (C'=C)||decide (C'=T))
 mv:PySem.W.mroIn K C (.type "ValueError")=some true
theorem DR{K:f3}{C:Addr}{c:Value}{d:Option Addr}{a:ClassData}{b:Array (Option Value)}{r:gg}(h:K.lookup C=some ⟨c,d,.cls a,b⟩)(m:a.mro=.ref C::r){v:Value}(e:(Value.ref C::r).contains v=true):PySem.W.mroIn K C v=some true:=by
 unfold PySem.W.mroIn PySem.W.clsIn;rw[h];simp only[Option.bind_some,m,List.isEmpty_cons,dI,if_false,e]
section
variable{K:f3}{T C:Addr}{f:Value}{g:Option Addr}{d:ClassData}{e:Array (Option Value)}
theorem Lx{r:gg}(j:PySem.W.typeIn K (.ref C)=some (.type "type"))(i:PySem.W.findIn K (.ref C) "__getattribute__"=some (some (.builtin "BaseException.__getattribute__")))(n:PySem.W.findIn K (.ref C) "__getattr__"=some none)(l:PySem.W.findIn K (.ref C) "__class__"=some (some (.builtin "object.__class__")))(k:PySem.W.specialIn K (.builtin "object.__class__") "__get__"=some (some (.builtin "getset_descriptor.__get__")))(c:PySem.W.takesIn K (.builtin "object.__class__")=some true)(o:PySem.W.hasDictIn K C=true)(h:K.lookup C=some ⟨f,g,.cls d,e⟩)(m:d.mro=.ref C::r)(a:r.contains (.type "object")=true)(b:r.contains (.type "BaseException")=true):afU K C:=⟨j,i,n,l,k,c,DR h m (by rw[fE,a,mG]),DR h m (by rw[fE,b,mG]),o,DR h m (by simp)⟩
structure afW(K:f3)(T:Addr):Prop where
 x:afU K T
theorem Vk(c:PySem.W.typeIn K (.ref C)=some (.type "type"))(b:PySem.W.findIn K (.ref C) "__getattribute__"=some (some (.builtin "BaseException.__getattribute__")))(k:PySem.W.findIn K (.ref C) "__getattr__"=some none)(j:PySem.W.findIn K (.ref C) "__class__"=some (some (.builtin "object.__class__")))(i:PySem.W.specialIn K (.builtin "object.__class__") "__get__"=some (some (.builtin "getset_descriptor.__get__")))(a:PySem.W.takesIn K (.builtin "object.__class__")=some true)(l:PySem.W.hasDictIn K C=true)(h:K.lookup C=some ⟨f,g,.cls d,e⟩)(m:d.mro=.ref C::bmV):afW K C:=⟨Lx c b k j i a l h m (by decide +kernel) (by decide +kernel)⟩
theorem Vn(k:PySem.W.typeIn K (.ref C)=some (.type "type"))(j:PySem.W.findIn K (.ref C) "__getattribute__"=some (some (.builtin "BaseException.__getattribute__")))(o:PySem.W.findIn K (.ref C) "__getattr__"=some none)(n:PySem.W.findIn K (.ref C) "__class__"=some (some (.builtin "object.__class__")))(l:PySem.W.specialIn K (.builtin "object.__class__") "__get__"=some (some (.builtin "getset_descriptor.__get__")))(i:PySem.W.takesIn K (.builtin "object.__class__")=some true)(p:PySem.W.hasDictIn K C=true)(h:K.lookup C=some ⟨f,g,.cls d,e⟩)(m:d.mro=.ref C::.ref T::bmV):ϱ K T C:=by
 have a:(Value.ref T::bmV).contains (.type "object")=true:=by rw[fE];simp[bmV]
 have b:(Value.ref T::bmV).contains (.type "BaseException")=true:=by rw[fE];simp[bmV]
 have c:(Value.ref T::bmV).contains (.type "ValueError")=true:=by rw[fE];simp[bmV]
 exact⟨Lx k j o n l i p h m a b,U0 h m,DR h m (by rw[fE,c,mG])⟩
end
section
variable{P:Program}{w:World}{K:f3}{b:gx}{a:Heap}
theorem Fun.gT{x d:Str}{st:Stmt}{f:Addr}{o:FuncData}{N m:gy}{k:Nat}{i:Sp}(F:Fun K x d st f o)(S:ζ N m (aG st))(j:∀e H Q E,i e H Q E->e.length=m.length)(n:∀(g:Value) (A:Around) (c:List Env) (s:Shared) (H:Hp) (e:List V) (Q:VK) (E:XK),ϊ k (A.deeper (envOfC d (aG st) s.heap.objs.size f g))->i e H Q E->∃t,PSs (t7 (ψ P w) P w K b a N d (aG st) f g A c s H E) (iE st) t/\t { nx:=λ_ p=>Q .ο p,rt:=Q } (start N e) H):Ψ P w K b a (ψ P w) (k+1) f o m i:=by
 obtain⟨D,B,kV,u,z,C,g,y,v,rfl,r,l⟩:=F.ex;exact Uy r l S j λA c s H e Q E q h=>n g A c s H e Q E q h
end
theorem FS{C:Addr}{E:XK}{t:TA}{D:Ends}{a:St}{H:Hp}:P9 C E t D a H=t a H λc b=>c.length<=sizeLine/\E (.ref C) none b:=rfl
theorem δ.put{H a:Hp}{l:Addr}(e:δ H a)(n:H l=none)(o:HO):δ H (upd a l o):=λb u h=>by rw[aN (cG h n)];exact e b u h
theorem TL{M:Model}{A:Around}{E:fz}{s:Shared}{a:Env}{x:Str}{b:Pos}{v:Value}{Q:Unit->Shared->Prop}(h:wpAny M A (storeName a x v) Q E s):wpAny M A (assign (.Name x b) a v) Q E s:=by
 show wpAny M A (do standAt b;bindName a x v) Q E s;exact ao (lg (wpAny_bindName h))
section
variable{X:Cx}{Nc:gy}{f:Nat}{j:List Nat}{scope:Scope}{a:List (Str×Addr)}
theorem xR{i:Nat}{x:Str}{px a2:Pos}{U k B:Expr}{ab:List Expr}{ϟ:Pos}{wi:TI}{g:TG}{tc:TT}{te:TE}(hN:X.N.Nodup)(cv:X.N[i]?=some x)(a4:X.env.scope.names.lookup x=some .local)(hc:X.calm=true)(T:ϣ X Nc f j scope a)(hi:PI X k B wi)(hg:∀C G E m,PG (X.comp Nc scope a C G E m) k g)(ht:∀C G E m,PTs (X.comp Nc scope a C G E m) ab tc)(he:∀C G E m,PE (X.comp Nc scope a C G E m) U te)(hs:∀x,foldedSetIterable B X.env x=pure x:=by intro _;rfl)(cA:swapsWith (.ListComp U [⟨k,B,ab,0⟩] scope ϟ) (some (.Name x px)) a2.line X.env=pure true:=by rfl):PS X (.Assign [.Name x px] (.ListComp U [⟨k,B,ab,0⟩] scope ϟ) a2) (D7 (Mo f j wi g tc te) (xf i)):=by
 intro Q s σ H D I h;rw[exec_Assign_Name_used _ _ _ _ cA];refine ao (lg (ao ?_));rw[arm_evalThenUse_ListComp];refine ao ?_;refine wpAny_comprehension_free (use:=some (assign (.Name x px) X.env)) rfl hs T.afN T.kind T.names (ϔ (hi Q s σ H _ I h) λv s1 h1=>ϔ h1 λdb l h2=>?_);obtain⟨it,m,tn,J,H1,rfl,I1,Tn,st,f1,R⟩:=h2;have V:∀b∈m,b<l.heap.objs.size:=λb F=>let ⟨o,e,_⟩:=Tn.obj _ _ st b F;aM e;refine h9 (wpAny_newFunctionEnv T.acn (by intro y hy;simp at hy) (λL aT Ϥ=>?_) T.kind);dsimp only at aT Ϥ ⊢;generalize ak:l.heap.push { cls:=.type "list",dict:=none,data:=.seq ([]:gg).toArray }=z at aT Ϥ ⊢;have hC:z.objs.size=l.heap.objs.size+1:=by rw[<-ak,dR]
 have a0:l.heap.objs.size≠z.objs.size:=by rw[hC];exact aW (gw _)
 have K:l.heap.objs.size<=z.objs.size:=by rw[hC];exact gq _
 have bM:∀b,b<l.heap.objs.size->b≠z.objs.size:=λb F=>by rw[hC];exact aW (ig F)
 have a6:∀b o,l.heap.get? b=some o->L.get? b=some o:=λb o e=>Ϥ.extBut b o (bM b (aM e)) (aF _ (ak▸aF _ e));have b0:∃n,L.get? l.heap.objs.size=some { cls:=.type "list",data:=.seq ([]:gg).toArray n }:=⟨_,Ϥ.extBut _ _ a0 (aF _ (ak▸bc _ rfl))⟩;have a8:tn 0 L:=Tn.keep _ _ _ st λb _ o e=>a6 b o e;obtain⟨W,⟨m0,w0⟩,a3⟩:=R l.heap.objs.size I1.fresh;have Ic:=Jn (t:=l.toks+([]:List (Str×Value)).length) T I1 K (az _) a0 f1 V a6 aT b0;generalize S:X.comp Nc scope a z.objs.size l H1 m=Xc at Ic;have O:∀{Z:Hp},(∀b∈m,Z b=none)->∀b∈m,qz Xc [] Z b:=λ{Z} hn b F=>by
  subst S;exact⟨hn b F,bM b (V b F),(Ee T I1 K f1 V).acd b F,.inl F,λx c e=>(f1 b F).2.2.2.2.1 x c (T.cells x c e),λp hp=>by cases hp⟩
 have bv:∀b∈m,upd H1 l.heap.objs.size (.lst []) b=none:=λb F=>by
  rw[aN (aW (V b F))];exact(f1 b F).1
 have dV:Xc.calm=true:=by subst S;exact hc
 have ae:∀P:Shared,P={ l with heap:=L,toks:=l.toks+([]:List (Str×Value)).length }->codeAny (model X.prog X.w) X.A (.compLoop (.ListComp U [⟨k,B,ab,0⟩] scope ϟ) 0 (.ref it) (.ref l.heap.objs.size) (compEnvC scope a z.objs.size X.env))
  (compPost (model X.prog X.w) X.A X.xe (some (assign (.Name x px) X.env)) (λ_ s'=>wpAny (model X.prog X.w) X.A (pure ()) (λ_ cl=>wpAny (model X.prog X.w) X.A (pure Flow.next) (SP X Q D) X.xe cl) X.xe s') (.ref l.heap.objs.size) z.objs.size) P:=by
  rintro P rfl;refine Bj (λn s'=>∃i ys a9 Z,Inv Xc [] a9 Z s'/\tn i s'.heap/\(∀b∈m,Z b=none)/\W i n ys a9 Z) ?_ m0 ⟨0,[],_,_,Ic,a8,bv,w0⟩;rintro n s3 ⟨i,ys,Y,H3,I3,bd,a5,w3⟩;rcases a3 i n ys Y H3 w3 with⟨stop,q⟩|⟨go,step⟩
  .subst S;refine ϔ (Tn.done (X.comp Nc scope a z.objs.size l H1 m) rfl rfl rfl hc i [] s3 Y H3 _ I3 (O a5) bd stop) λr s4 ⟨hr,I4⟩=>?_;subst hr;obtain⟨m4,bV,_⟩:=id I4.loc;have J:=Fj I1 K f1 I4 (h':=s4.heap) (Heap.SameBut.refl _ _);have a1:z.objs.size≠X.env.locals:=fH (aZ I1.lt K);have cy:X.s₀.heap.objs.size<=z.objs.size:=aP I1.sz K;have cc:∀y c,X.env.cells.lookup y=some c->c≠z.objs.size:=λy c e=>by
    obtain⟨v',o',ar,_⟩:=I1.cell y c e;exact aW (aZ (aM ar) K)
   have cp:∀p∈X.pn++Q,p.1≠z.objs.size:=λp hp=>by
    obtain⟨ar,_⟩:=I1.pin p hp;exact aW (aZ (aM ar) K)
   refine TL (FG (v:=.ref l.heap.objs.size) J hN cv (.inl a4) rfl (λs5 I5 ⟨ad,sb,had⟩=>?_) (.inr a4));have cd:z.objs.size≠ad:=by
    rcases had with rfl|had
    .exact a1
    .exact(cc _ _ had).symm
   obtain⟨oo,es,ep,e1,e2⟩:=bV;refine⟨m4,⟨oo,es,ep,(sb.2 _ cd).trans e1,e2⟩,λh' cm=>bi (bi ⟨_,H3,?_,q⟩)⟩;exact I5.turned (it:=z.objs.size) (t':=s5.toks) (λb o n e=>cm.extBut b o n e) I4.free a1 (.inr cy) cc cp
  .subst S;refine ϔ (Tn.item (X.comp Nc scope a z.objs.size l H1 m) rfl rfl rfl hc i [] s3 Y H3 _ I3 (O a5) bd go) λr s4 ⟨u,hr,h4⟩=>?_;subst hr;refine ϔ h4 λ_ s5 ⟨x,H5,I5,r5,y5,au,cr⟩=>?_;have b2:=I5.pinned (O cr) (Tn.obj _ _ au);have af:∀{al:St}{H7:Hp}{s7:Shared},Inv (X.comp Nc scope a z.objs.size l H1 m) ([]++xa m s5.heap) al H7 s7->Inv (X.comp Nc scope a z.objs.size l H1 m) [] al H7 s7/\tn (i+1) s7.heap/\∀b∈m,H7 b=none:=λ{al H7 s7} I7=>by
    refine⟨I7.ϰ,Tn.keep _ _ _ au λb F o e=>(I7.pin (b,o) (bf _ (bf _ (pH F e)))).1,λb F=>?_⟩;obtain⟨o,e,d⟩:=Tn.obj _ _ au b F;exact(I7.pin (b,o) (bf _ (bf _ (pH F e)))).2.1
   refine ϔ (hg _ _ _ _ _ s5 Y H5 x u _ b2 r5 (step x H5 y5)) λ_ s6 ⟨M,H6,I6,q6⟩=>?_;refine BC (ht _ _ _ _ _ s6 M H6 _ I6 q6) λok s7 H7 I7 q7=>?_;cases ok with
   | false=>
     rw[ag bD]at q7 ⊢;obtain⟨m',hm,w7⟩:=q7;obtain⟨J1,J2,J3⟩:=af I7;exact⟨m',hm,i+1,ys,M,H7,J1,J2,J3,w7⟩
   | true=>
     rw[aj rfl]at q7 ⊢;refine eJ (he _ _ _ _ _ s7 M H7 _ I7 q7) λy s8 yv H8 I8 r8 ⟨bt,ca,m',hm,w8⟩=>?_;refine ϔ (ic _ s8 M H8 (.ref l.heap.objs.size) [yv] _ [y] (λv' Z=>W (i+1) m' (ys++[yv]) M Z) I8 rfl (.cons r8 .nil) ⟨_,ys,yv,rfl,rfl,bt,ca,w8⟩) λv9 s9 ⟨_,H9,I9,_,w9⟩=>?_;obtain⟨J1,J2,J3⟩:=af I9;exact⟨m',hm,i+1,ys++[yv],M,H9,J1,J2,J3,w9⟩
 exact codeAny_compStart_list (ae _ rfl) (Tn.self _ 0 _ _ _ a8 (ae _ rfl))
end
end L2
namespace Pb
open L2 PySem
def front(r:Int)(a:fm)(p:Int):V:=if p=r then .ο else .int (a p)
def bQ(m:Int)(s:hD)(a:V)(p:Int):List Int:=(kM m s p).filter λv=>decide (V.int v≠a)
variable{m:Int}{s:hD}{r:Int}{par:fm}{d:fv}
theorem ε.ne(R:ε m s r par d){v:Int}(c:0<=v)(b:v<m)(a:v≠r):par v≠v:=λz=>by
 have:=(R.up v c b a).2.2;rw[z]at this
 lia
theorem bz(g:Good m s)(R:ε m s r par d){p v:Int}(l:0<=p)(o:p<m):v∈bQ m s (front r par p) p↔(0<=v/\v<m)/\v≠r/\par v=p:=by
 unfold bQ;rw[bx,oO g,bT]
 constructor
 .rintro⟨ad,hf⟩;obtain⟨_,i,_⟩:=g.adj ad;refine⟨i,?_⟩;obtain⟨x,k,j⟩:=ad;have f:∀u w:Int,(u≠r/\par u=w)\/(w≠r/\par w=u)->u=p->w=v->v≠r/\par v=p:=λu w h n t=>by
   subst n t;rcases h with h|h
   .exfalso
    apply hf;unfold front;rw[ag h.1,h.2]
   .exact h
  rcases j with⟨a,b⟩|⟨a,b⟩
  .exact f x.a x.b (R.road x k) a b
  .exact f x.b x.a (R.road x k).symm a b
 .rintro⟨i,hr,hp⟩;have u:=R.up v i.1 i.2 hr;rw[hp]at u;refine⟨?_,λz=>?_⟩
  .obtain⟨x,k,j⟩:=u.2.1;exact⟨x,k,j.elim (λq=>.inr ⟨q.2,q.1⟩) (λq=>.inl ⟨q.2,q.1⟩)⟩
  .unfold front at z;by_cases c:p=r
   .rw[aj c]at z;cases z
   .rw[ag c]at z;have e:v=par p:=(by injection z);have w:=(R.up p l o c).2.2;have y:=u.2.2;rw[<-e]at w
    lia
theorem jQ{a:V}{p:Int}:(bQ m s a p).Nodup:=(DT m s p).filter _
def nl(m:Int)(par:fm)(a:fc):List V:=(bM m.toNat).map λv=>if v∈a then .int (par v)else .ο
def oz(m r:Int)(par:fm):List V:=(bM m.toNat).map (front r par)
theorem vx{a:fc}:(nl m par a).length=m.toNat:=by unfold nl;rw[ah,cq]
theorem fy{n i:Nat}(h:i<n):(bM n)[i]?=some (i:Int):=by unfold bM;rw[aJ,eR h];rfl
theorem QD{ks:fc}{v:Int}(a:0<=v)(b:v<m):(nl m par ks)[v.toNat]?=some (if v∈ks then .int (par v)else .ο):=by
 unfold nl;rw[aJ,fy (by lia)];show some (if((v.toNat:Nat):Int)∈ks then V.int (par ((v.toNat:Nat):Int))else V.ο)=_;rw[bA a]
theorem Za{ks:fc}{v:Int}(b:0<=v)(f:v<m):(nl m par ks).set v.toNat (.int (par v))=nl m par (ks++[v]):=by
 refine fP λi=>?_;rw[List.getElem?_set];by_cases c:i<m.toNat
 .have e:∀l:List Int,(nl m par l)[i]?=some (if(i:Int)∈l then .int (par (i:Int))else .ο):=λl=>by
   have:=QD (par:=par) (ks:=l) (v:=(i:Int)) (m:=m) (by lia) (by lia)
   rwa [bR]at this
  rw[e,vx];by_cases z:v.toNat=i
  .have a:v=(i:Int):=(by lia);rw[aj z,aj (by lia),e,aj (by rw[a];simp),<-a]
  .rw[ag z,e];have a:¬((i:Int)=v):=(by lia);simp[a]
 .have e:∀l:List Int,(nl m par l)[i]?=none:=λl=>bO (by rw[vx];lia);rw[e,e,vx];by_cases z:v.toNat=i
  .lia
  .rw[ag z]
structure ϗ(m:Int)(s:hD)(r:Int)(par:fm)(ks ws:fc):Prop where
 nd:ks.Nodup
 Ι:∀k∈ks,0<=k/\k<m
 nr:r∉ks
 sub:∀w∈ws,w=r\/w∈ks
 wnd:ws.Nodup
 ok:∀v∈ks,par v∉ws/\(par v=r\/par v∈ks)
 dn:∀v,0<=v->v<m->v≠r->(par v=r\/par v∈ks)->par v∉ws->v∈ks
theorem ϗ.start:ϗ m s r par [] [r] where
 nd:=List.nodup_nil
 Ι:=λ_ h=>by cases h
 nr:=λh=>by cases h
 sub:=λw h=>.inl (aK.mp h)
 wnd:=by simp
 ok:=λ_ h=>by cases h
 dn:=λv _ _ _ h n=>by
  rcases h with h|h
  .exact absurd (by rw[h];simp) n
  .cases h
theorem ϗ.at_(J:ϗ m s r par ks ws)(c:0<=r)(a:r<m){p:Int}(b:p∈ws):0<=p/\p<m:=by
 rcases J.sub p b with h|h
 .rw[h];exact⟨c,a⟩
 .exact J.Ι p h
theorem ϗ.front(J:ϗ m s r par ks ws){p:Int}(a:p∈ws):(if p∈ks then V.int (par p)else V.ο)=front r par p:=by
 unfold Pb.front;by_cases c:p=r
 .rw[aj c,ag (by rw[c];exact J.nr)]
 .rw[ag c,aj ((J.sub p a).resolve_left c)]
theorem ϗ.step(g:Good m s)(R:ε m s r par d)(K:0<=r)(I:r<m){l j ws':fc}{p:Int}(J:ϗ m s r par l j)(e:j.Perm (p::ws')):ϗ m s r par (l++bQ m s (Pb.front r par p) p) (ws'++bQ m s (Pb.front r par p) p):=by
 have B:p∈j:=e.mem_iff.mpr aA;have D:=J.at_ K I B;have f:∀v,v∈bQ m s (Pb.front r par p) p↔(0<=v/\v<m)/\v≠r/\par v=p:=λv=>bz g R D.1 D.2;have t:(bQ m s (Pb.front r par p) p).Nodup:=jQ;generalize bQ m s (Pb.front r par p) p=E at f t ⊢;have i:∀v∈E,v∉l:=λv u z=>(J.ok v z).1 (by rw[((f v).mp u).2.2];exact B);obtain⟨H,G⟩:=bg.mp (e.nodup_iff.mp J.wnd);have A:∀w∈ws',w∈j:=λw C=>e.mem_iff.mpr (ap _ C);refine⟨?_,?_,?_,?_,?_,?_,?_⟩
 .rw[dU];exact⟨J.nd,t,λa y b q z=>i b q (z▸y)⟩
 .intro k hk;rcases ba.mp hk with h|h
  .exact J.Ι k h
  .exact((f k).mp h).1
 .intro z;rcases ba.mp z with h|h
  .exact J.nr h
  .exact((f r).mp h).2.1 rfl
 .intro w C;rcases ba.mp C with h|h
  .exact(J.sub w (A w h)).imp id (bC _)
  .exact .inr (bf _ h)
 .rw[dU];refine⟨G,t,λa y b q z=>?_⟩;subst z;rcases J.sub a (A a y)with h|h
  .exact((f a).mp q).2.1 h
  .exact i a q h
 .intro v u;rcases ba.mp u with h|h
  .obtain⟨o1,o2⟩:=J.ok v h;refine⟨λz=>?_,o2.imp id (bC _)⟩;rcases ba.mp z with z|z
   .exact o1 (A _ z)
   .rcases o2 with o|o
    .exact((f _).mp z).2.1 o
    .exact i _ z o
  .obtain⟨q1,q2,q3⟩:=(f v).mp h;rw[q3];refine⟨λz=>?_,(J.sub p B).imp id (bC _)⟩;rcases ba.mp z with z|z
   .exact H z
   .obtain⟨w1,w2,w3⟩:=(f p).mp z;exact R.ne w1.1 w1.2 w2 w3
 .intro v v0 v1 vr h n;have x:par v∉E:=λz=>n (bf _ z);have F:par v=r\/par v∈l:=h.imp id λz=>(ba.mp z).resolve_right x;by_cases c:par v=p
  .exact bf _ ((f v).mpr ⟨⟨v0,v1⟩,vr,c⟩)
  .refine bC _ (J.dn v v0 v1 vr F λz=>?_);rcases aw.mp (e.mem_iff.mp z)with z|z
   .exact c z
   .exact n (bC _ z)
theorem ϗ.perm{ks b a:fc}(J:ϗ m s r par ks b)(e:b.Perm a):ϗ m s r par ks a where
 nd:=J.nd
 Ι:=J.Ι
 nr:=J.nr
 sub:=λw h=>J.sub w (e.mem_iff.mpr h)
 wnd:=e.nodup_iff.mp J.wnd
 ok:=λv h=>⟨λz=>(J.ok v h).1 (e.mem_iff.mpr z),(J.ok v h).2⟩
 dn:=λv c f hr h n=>J.dn v c f hr h λz=>n (e.mem_iff.mp z)
theorem ϗ.all(R:ε m s r par d){h:fc}(J:ϗ m s r par h []):∀v,0<=v->v<m->v≠r->v∈h:=by
 have g:∀n v,d v=n->0<=v->v<m->v≠r->v∈h:=by
  intro n
  induction n with
  | zero=>
    intro v e a f b;have:=(R.up v a f b).2.2
    lia
  | succ n ih=>
    intro v e a f b;have u:=R.up v a f b;refine J.dn v a f b ?_ (by simp);by_cases c:par v=r
    .exact .inl c
    .exact .inr (ih (par v) (by lia) u.1.1 u.1.2 c)
 exact λv=>g _ v rfl
theorem ϗ.done(R:ε m s r par d){b:fc}(J:ϗ m s r par b []):nl m par b=oz m r par:=by
 unfold nl oz;refine bH λv e=>?_;have a:0<=v/\v<m:=by
  unfold bM at e;obtain⟨k,f,rfl⟩:=aU.mp e;have:=cQ.mp f
  lia
 unfold Pb.front;by_cases c:v=r
 .rw[aj c,ag (by rw[c];exact J.nr)]
 .rw[ag c,aj (J.all R v a.1 a.2 c)]
theorem uN(n:Nat)(v:V):(List.replicate n [v]).flatten=List.replicate n v:=by
 induction n with
 | zero=>rfl
 | succ n ih=>rw[cN,fN,ih,cN];rfl
theorem XF:nl m par []=List.replicate m.toNat V.ο:=by
 unfold nl;refine fP λi=>?_;by_cases c:i<m.toNat
 .rw[aJ,fy c,fX,aj c];simp
 .rw[bO (by rw[ah,cq];lia),bO (by rw[cC];lia)]
def n9(par:fm):Nat->Int->List Int
 | 0,v=>[v]
 | n+1,v=>v::n9 par n (par v)
theorem ε.pos(R:ε m s r par d){v:Int}(c:0<=v)(b:v<m)(a:v≠r):d v=d (par v)+1:=(R.up v c b a).2.2.symm
theorem Ds(R:ε m s r par d):∀(n:Nat)(v:Int),d v=n->0<=v->v<m->(n9 par n v).Nodup/\(∀x∈n9 par n v,(0<=x/\x<m)/\d x<=n)/\(n9 par n v).length=n+1
 | 0,v,e,h0,h1=>⟨by unfold n9;simp,λx hx=>by
  unfold n9 at hx;rw[aK.mp hx];exact⟨⟨h0,h1⟩,by lia⟩,rfl⟩
 | n+1,v,e,h0,h1=>by
   have b:v≠r:=λz=>by rw[z,R.root]at e;lia
   have u:=R.up v h0 h1 b;obtain⟨c,a,f⟩:=Ds R n (par v) (by lia) u.1.1 u.1.2;unfold n9;refine⟨bg.mpr ⟨λz=>?_,c⟩,λx hx=>?_,by rw[aR,f]⟩
   .have:=(a v z).2
    lia
   .rcases aw.mp hx with rfl|hx
    .exact⟨⟨h0,h1⟩,by lia⟩
    .exact⟨(a x hx).1,by have:=(a x hx).2;lia⟩
theorem gP(R:ε m s r par d){v:Int}(f:0<=v)(e:v<m):d v+1<=m.toNat:=by
 obtain⟨a,b,g⟩:=Ds R _ v rfl f e;have:=g9 (m:=m) (by lia) a λx c=>(b x c).1
 lia
theorem xA{v:Int}(a:0<=v)(b:v<m):(oz m r par)[v.toNat]?=some (front r par v):=by
 unfold oz;rw[aJ,fy (by lia)];show some (front r par ((v.toNat:Nat):Int))=_;rw[bA a]
theorem kC(g:Good m s)(R:ε m s r par d){v:Int}(o:0<=v)(n:v<m)(f:v≠r):∃k,ce s v (par v)=some k/\2<=k/\k<=1000000:=by
 obtain⟨x,e,j⟩:=(R.up v o n f).2.1;obtain⟨i,h⟩:=cJ e;have ok:=g.ok x e;rw[tJ g h j];unfold jk;by_cases c:x.a=v/\x.b=par v
 .rw[aj c];exact⟨_,rfl,ok.t0,ok.t1⟩
 .rw[ag c];have l:x.a=par v/\x.b=v:=by
   rcases j with j|j
   .exact absurd j c
   .exact⟨j.2,j.1⟩
  rw[aj l];exact⟨_,rfl,ok.u0,ok.u1⟩
def tY(m:Int)(s:hD)(r:Int)(par:fm):Nat->Int->List Int
 | 0,v=>[v]
 | n+1,v=>v::(bQ m s (front r par v) v).flatMap (tY m s r par n)
def cI(m:Int)(s:hD)(r:Int)(par:fm)(d:fv)(v:Int):List Int:=tY m s r par (m.toNat-1-d v) v
theorem wv{f h:Int->List Int}:∀{l:fc},(∀x∈l,f x=h x)->l.flatMap f=l.flatMap h
 | [],_=>rfl
 | a::l,e=>by rw[c9,c9,e a aA,wv λx b=>e x (ap _ b)]
theorem jv(g:Good m s)(R:ε m s r par d){v:Int}(i:0<=v)(h:v<m):cI m s r par d v=v::(bQ m s (front r par v) v).flatMap (cI m s r par d):=by
 have k:∀u,u∈bQ m s (front r par v) v->(0<=u/\u<m)/\u≠r/\par u=v:=λu=>(bz g R i h).mp;have c:∀u∈bQ m s (front r par v) v,d u=d v+1/\d u+1<=m.toNat:=λu a=>by
  obtain⟨b,j,f⟩:=k u a;have:=R.pos b.1 b.2 j;rw[f]at this;exact⟨this,gP R b.1 b.2⟩
 unfold cI;cases e:m.toNat-1-d v with
 | zero=>
   have:bQ m s (front r par v) v=[]:=hV.mpr λu a=>by
    have:=c u a
    lia
   rw[this]
   rfl
 | succ n=>
   show v::(bQ m s (front r par v) v).flatMap (tY m s r par n)=_;rw[wv λu a=>show tY m s r par n u=tY m s r par (m.toNat-1-d u) u by rw[show m.toNat-1-d u=n by have:=c u a;lia]]
def up(par:fm):Nat->Int->Int
 | 0,x=>x
 | k+1,x=>par (up par k x)
theorem DG{f:Int->List Int}:∀{l:fc},l.Nodup->(∀u∈l,(f u).Nodup)->(∀u∈l,∀w∈l,∀x,x∈f u->x∈f w->u=w)->(l.flatMap f).Nodup
 | [],_,_,_=>by simp
 | a::l,n,h1,h2=>by
   obtain⟨i,g⟩:=bg.mp n;rw[c9,dU];refine⟨h1 a aA,DG g (λu e=>h1 u (ap _ e)) (λu e w b=>h2 u (ap _ e) w (ap _ b)),λx h y j z=>?_⟩;subst z;obtain⟨w,b,c⟩:=d9.mp j;have:=h2 a aA w (ap _ b) x h c;exact i (this▸b)
theorem uD(g:Good m s)(R:ε m s r par d):∀(n:Nat)(v:Int),0<=v->v<m->(tY m s r par n v).Nodup/\∀x∈tY m s r par n v,(0<=x/\x<m)/\∃k,d x=d v+k/\up par k x=v
 | 0,v,h0,h1=>⟨by unfold tY;simp,λx hx=>by
  unfold tY at hx;rw[aK.mp hx];exact⟨⟨h0,h1⟩,0,rfl,rfl⟩⟩
 | n+1,v,h0,h1=>by
   have h:∀u,u∈bQ m s (front r par v) v->(0<=u/\u<m)/\u≠r/\par u=v:=λu=>(bz g R h0 h1).mp;have l:(bQ m s (front r par v) v).Nodup:=jQ;have b:=λu a=>uD g R n u (h u a).1.1 (h u a).1.2;have c:∀u∈bQ m s (front r par v) v,d u=d v+1:=λu a=>by
    obtain⟨i,t,q⟩:=h u a;have:=R.pos i.1 i.2 t;rw[q]at this;exact this
   unfold tY;refine⟨bg.mpr ⟨λz=>?_,DG l (λu a=>(b u a).1) λu a w j x hx A=>?_⟩,λx hx=>?_⟩
   .obtain⟨u,a,hv⟩:=d9.mp z;obtain⟨_,k,e,_⟩:=(b u a).2 v hv;have:=c u a
    lia
   .obtain⟨_,k1,e1,f1⟩:=(b u a).2 x hx;obtain⟨_,y,D,p⟩:=(b w j).2 x A;have B:=c u a;have C:=c w j;have:k1=y:=(by lia);rw[<-f1,<-p,this]
   .rcases aw.mp hx with rfl|hx
    .exact⟨⟨h0,h1⟩,0,rfl,rfl⟩
    .obtain⟨u,a,hv⟩:=d9.mp hx;obtain⟨o,k,e,f⟩:=(b u a).2 x hv;exact⟨o,k+1,by rw[e,c u a];lia,by show par (up par k x)=v;rw[f];exact(h u a).2.2⟩
theorem Ih(g:Good m s)(R:ε m s r par d){v:Int}(e:0<=v)(c:v<m):(cI m s r par d v).length<=24:=by
 obtain⟨f,a⟩:=uD g R (m.toNat-1-d v) v e c;have:=g9 (m:=m) (by lia) f λx b=>(a x b).1;have:=g.Ζ;unfold cI
 lia
end Pb
namespace L2
open PySem PySem.Spec PyProof.Rows
def Itv(K:f3)(a:Addr)(n:Nat):It:=⟨λi H=>i<n/\∃b x,ν K H a b/\b[n-1-i]?=some x,λi H x c=>c=H/\∀b,ν K H a b->b[n-1-i]?=some x,λi H=>n<=i⟩
theorem Ui{P:Program}{w:World}{K:f3}{Q:Expr}(a j:Addr)(n:Nat):Turn P w K Q (Itv K a n) [j] j (λi h=>i<=n/\h.IsRevIter j a ((n:Int)-1-(i:Int))) where
 mem:=by simp
 obj:=λi h st b hb=>by
  have e:b=j:=by simpa using hb
  subst e;obtain⟨_,o,e,c,d⟩:=st;exact⟨o,e,λv z=>by rw[d]at z;cases z⟩
 keep:=λi h m st k=>⟨st.1,st.2.at λo e=>k j (by simp) o e⟩
 item:=by
  intro X C hw B G i g s J H E I q st D;subst C hw B;obtain⟨hi,xs,x,M,L⟩:=D;obtain⟨T,Y,p,hz⟩:=I.list M;obtain⟨u,U,N⟩:=Y.get L;obtain⟨r,t,R,A,y,F⟩:=q j (by simp);have O:(n:Int)-1-(i:Int)=((n-1-i:Nat):Int):=by lia
  have f:=st.2;rw[O]at f;refine wpAny_pyNext_rev_item f p.isList (x:=u) (by simpa using U) λm l S=>?_;have I1:Inv X g J H { s with heap:=m }:=I.turned (t':=s.toks) (λb o hb e=>(S.2 b hb).trans e) r t A y F;obtain⟨o,e,c,d⟩:=id l;have V:((n-1-i:Nat):Int)-1=(n:Int)-1-((i+1:Nat):Int):=by lia
  rw[V]at l;exact⟨u,rfl,GI (s:={ s with heap:=m }) e c d (by decide) ⟨x,H,I1,N,⟨rfl,λys hy=>by rw[I.iO hy M];exact L⟩,⟨hi,l⟩,λb hb=>(q b hb).1⟩⟩
 done:=by
  intro X C hw B G i g s J H E I q st D;subst C hw B;have ab:n<=i:=D;obtain⟨r,t,R,A,y,F⟩:=q j (by simp);have f:=st.2;have ad:=st.1;rw[show(n:Int)-1-(i:Int)=-1 by lia]at f;exact wpAny_pyNext_rev_end (I.ok.hd G) f λm Z=>⟨rfl,I.turned (t':=s.toks) (λb o hb e=>Z b o hb e) r t A y F⟩
 self:=λ_ _ _ _ _ st h=>j9 st.2 h
def QQ(K:f3)(d:TE):TI:=λe H R=>d e H λx b=>∃a c,x=.ref a/\ν K b a c/\R (Itv K a c.length) b
section
variable{X:Cx}{f e:Expr}{d:TE}{g c:Pos}
theorem sY(F:Gl X "reversed")(t:X.mg "reversed"=none)(D:PE X e d)(r:starEach [e] X.env=[(false,eval e X.env)]:=by rfl):PI X f (.Call (.Name "reversed" g) [e] [] c) (QQ X.K d):=by
 intro j s G H R I h;refine Call_ (rD I F t boot_reversed (c7 ?_ r rfl));rw[r];show wpAny _ _ (spliced ((false,eval e X.env)::backTo c [])) _ _ s;refine hJ (eJ (D j s G H _ I h) λu k x J m E A=>iu ?_);obtain⟨a,p,B,v,q⟩:=A;subst B;cases E;obtain⟨n,z,w,L⟩:=m.list v;refine call_reversed_list w.isList ?_;have y:n.toArray.size=p.length:=by rw[aY,z.length]
 rw[y];refine j9 (i:=(p.length:Int)-1) (l:=a) ⟨_,bc _ rfl,rfl,rfl⟩ ?_;refine⟨k.heap.objs.size,[k.heap.objs.size],_,_,J,rfl,m.kept (t':=k.toks) λb o e=>aF _ e,Ui a _ p.length,⟨bB _,?_⟩,λb C=>?_,q⟩
 .exact⟨_,bc _ rfl,rfl,by simp[revObj]⟩
 .have e:b=k.heap.objs.size:=by simpa using C
  subst e;exact m.acY (az _) (m.Β.fresh (az _))
end
theorem qy{K:f3}{a:Addr}{xs:List V}{g:TG}{k:TS}{D:Ends}{b:St}{H:Hp}(f:Nat->St->Hp->Prop)(o:f 0 b H)(r:∀i b H,i<=xs.length->f i b H->ν K H a xs)(u:∀(i:Nat) (x:V) (b:St) (H:Hp) (N:St->Hp->Prop),(∀c d,f (i+1) c d->N c d)->xs.reverse[i]?=some x->f i b H->g x b H λj v=>k { D with nx:=N,ct:=N,bk:=D.nx } j v)(s:∀b H,f xs.length b H->D.nx b H):uf (Itv K a xs.length) D g k b H:=by
 refine⟨λi m b H=>m=xs.length-i/\i<=xs.length/\f i b H,⟨xs.length,by simp,bB _,o⟩,?_⟩;rintro i m b H ⟨rfl,n,p⟩;have q:=r i b H n p;by_cases h:i<xs.length
 .have hx:xs[xs.length-1-i]?=some xs[xs.length-1-i]:=ay (by lia);refine .inr ⟨⟨h,xs,_,q,hx⟩,λc d=>∃l,l<xs.length-i/\(l=xs.length-(i+1)/\i+1<=xs.length/\f (i+1) c d),λc d z=>z,λx d y=>?_⟩;obtain⟨e,y⟩:=y;subst e;exact u i x b _ _ (λc d t=>⟨xs.length-(i+1),by lia,rfl,h,t⟩) (by rw[cw h];exact y xs q) p
 .have e:i=xs.length:=by lia
  subst e;exact .inl ⟨az _,s b H p⟩
theorem Ba(a:fc):∀n,n<=a.length->preSum (λi=>a.getD i 0) n=(a.take n).sum
 | 0,_=>by simp[preSum]
 | n+1,h=>by
   have c:=Ba a n (by lia);have b:n<a.length:=by lia
   rw[bI,ay b,fB,<-c];simp[preSum,List.getD,b]
section
variable{X:Cx}
theorem xw(P:X.calm=true):oC X (.builtin "sum") (λN H Q=>∃(p:Addr)(d:fc),N=[.ref p]/\(ν X.K H p (d.map V.int)\/Ξ X.K H p (d.map V.int))/\Q (.int d.sum) H):=by
 intro L s S H N R Q I r h;obtain⟨p,d,rfl,hp,q⟩:=h;obtain⟨u,rfl,C⟩:=uu r;cases C;have O:X.A.in1.handled=none:=I.ok.hd P;have f:∀{a:gg},Vals (d.map V.int) a->a.length=d.length/\∀(i:Nat)(v:Value),a.toArray[i]?=some v->∃t,v=Value.int (d.getD i 0) t:=by
  intro a k;have c:a.length=d.length:=by rw[<-k.length,ah]
  refine⟨c,λi v y=>?_⟩;have J:a[i]?=some v:=by simpa using y
  have w:i<d.length:=by rw[<-c];exact(aD.mp J).1
  obtain⟨u,M,C⟩:=k.get (i:=i) (x:=V.int d[i]) (by rw[aJ,ay w];rfl);rw[J]at M;cases M;obtain⟨t,e⟩:=(show ∃t,v=Value.int d[i] t from C);exact⟨t,by rw[e];simp[List.getD,w]⟩
 have l:∀{n:Nat},n=d.length->preSum (λi=>d.getD i 0) n=d.sum:=λ{n} e=>by rw[Ba d n (by lia),cW (by lia)]
 rcases hp with hp|hp
 .obtain⟨a,k,pl,hz⟩:=I.list hp;obtain⟨c,E⟩:=f k;have j:=pl.isList;have m:=pl.lt;refine call_sum_walkG (jg j ?_);refine⟨s.heap.objs.size,[s.heap.objs.size,p],[s.heap.objs.size],a.toArray.size,_,_,λi=>d.getD i 0,rfl,Walks.list (A:=X.A.in1) O _ p (aW m) a.toArray,⟨⟨_,bc _ rfl,rfl,rfl⟩,j.push _⟩,λb G=>?_,λi v y=>E i v y,λD F t' B=>?_⟩
  .simp only[Heap.push,Array.size_push];rcases aw.mp G with e|e
   .rw[e];exact gw _
   .rw[aK.mp e];exact ig m
  .have kk:∀b o,s.heap.get? b=some o->D.get? b=some o:=λb o g=>B b o (λz=>by rw[aK.mp z]at g;exact dM _ (aM g)) (aF _ g);rw[l (by rw[aY,c])];exact⟨.int _,H,I.kept (t':=F) kk,⟨t',rfl⟩,q⟩
 .obtain⟨a,k,pl,hz⟩:=I.tuple hp;obtain⟨c,E⟩:=f k;have j:s.heap.IsTuple p a.toArray:=pl;have m:p<s.heap.objs.size:=by
   obtain⟨o,e,_⟩:=id j;exact aM e
  refine call_sum_walkG (lB j ?_);refine⟨s.heap.objs.size,[s.heap.objs.size,p],[s.heap.objs.size],a.toArray.size,_,_,λi=>d.getD i 0,rfl,Walks.tuple (A:=X.A.in1) O _ p (aW m) a.toArray,⟨⟨_,bc _ rfl,rfl,rfl⟩,j.push _⟩,λb G=>?_,λi v y=>E i v y,λD F t' B=>?_⟩
  .simp only[Heap.push,Array.size_push];rcases aw.mp G with e|e
   .rw[e];exact gw _
   .rw[aK.mp e];exact ig m
  .have kk:∀b o,s.heap.get? b=some o->D.get? b=some o:=λb o g=>B b o (λz=>by rw[aK.mp z]at g;exact dM _ (aM g)) (aF _ g);rw[l (by rw[aY,c])];exact⟨.int _,H,I.kept (t':=F) kk,⟨t',rfl⟩,q⟩
end
def Zv(_ j:Int):Prop:=0<j/\j<18446744073709551616
theorem GL{X:Cx}:Rw X (binaryOp .FloorDiv) (rI Zv λi j=>.int (i/j)):=opI λi j _ _ _ _ _ a q=>by
 have d:(0:Int)<j:=a.1;have c:j<18446744073709551616:=a.2;refine floordiv_int (by lia) (by rw[iU i (by lia)];exact q) (.inl ?_);have e:j.natAbs.log2<64:=(oS (by lia)).mpr (by lia);unfold Builtin.divisionGoesByPylong;have b:(j==0)=false:=by simp;lia
 simp only[b,dI,if_false];have:¬(j.natAbs.log2/30+1>300):=by lia
 simp[this]
theorem zV{X:Cx}(K:f3)(f:X.K=K){a:List Expr}{k:Nat}{c:Pos}{t:TGs}{n:Nat}(e:X.calm=true)(h:PGs X a t)(d:(assignEach a X.env).length=n:=by rfl)(b:(assignEach a X.env).findIdx? (·.1)=none:=by rfl):PG X (.Tuple a k c) (Nw K n t):=by
 subst f;exact j1 e h d b
theorem GV{K:f3}{c d:Bool}{a b p:Addr}{xs zs:List V}{Q:VK}{g:TG}{A:TT}{C:TE}{o:St}{B:Hp}(l:Nat->List V->St->Hp->Prop)(F:l 0 [] o B)(I:∀i f h H,l i f h H->ϑ K c H a xs/\ϑ K d H b zs)(R:∀(i:Nat) (x z:V) (f:List V) (h:St) (H:Hp) (q:Addr) (N:List V->St->Hp->Prop),(∀r j n,l (i+1) r j n->N r j n)->xs[i]?=some x->zs[i]?=some z->l i f h H->H q=none->g (.ref q) h (upd H q (.tup [x,z])) λk T=>A k T λb v=>
 if b=true then C k v λy D=>D p=some (.lst f)/\f.length<sizeLine/\N (f++[y]) k (upd D p (.lst (f++[y])))else N f k v)(M:∀f h H,l (min xs.length zs.length) f h H->Q (.ref p) H):wG (Itz K c d a b) p Q g A C o B:=by
 refine⟨λi m f h H=>m=min xs.length zs.length-i/\i<=min xs.length zs.length/\l i f h H,⟨_,rfl,bB _,F⟩,?_⟩;rintro i m f h H ⟨rfl,U,pv⟩;obtain⟨t,s⟩:=I i f h H pv;by_cases L:i<min xs.length zs.length
 .refine .inr ⟨⟨xs,zs,xs[i]'(by lia),zs[i]'(by lia),t,s,ay (by lia),ay (by lia)⟩,λx n y=>?_⟩;obtain⟨P,E,G,S,rfl,rfl,J,O⟩:=y;exact R i E G f h H P (λr j n=>∃w,w<min xs.length zs.length-i/\(w=min xs.length zs.length-(i+1)/\i+1<=min xs.length zs.length/\l (i+1) r j n)) (λr j n u=>⟨min xs.length zs.length-(i+1),by lia,rfl,L,u⟩) (J xs t) (O zs s) pv S
 .have e:i=min xs.length zs.length:=by lia
  subst e;exact .inl ⟨⟨xs,zs,t,s,by lia⟩,M f h H pv⟩
theorem rE{H:Hp}{l:Addr}{a:List V}{i:Int}{v:V}{Q:Hp->Prop}(h:H l=some (.lst a))(b:0<=i)(c:i<a.length)(q:Q (upd H l (.lst (a.set i.toNat v)))):adK (.ref l) (.int i) v H Q:=⟨l,a,i,i.toNat,rfl,rfl,h,by unfold ixN;rw[aj b,aj (by lia)],q⟩
theorem Ac{xs:fc}{i:Int}(a:0<=i)(b:i<xs.length):Ϧ (xs.map V.int) i=some (.int (xs.getD i.toNat 0)):=dj a (by
 have h:i.toNat<xs.length:=by lia
 rw[aJ,ay h];simp[List.getD,h])
theorem GF(n:Nat)(v:V):(List.replicate n [v]).flatten=List.replicate n v:=by
 induction n with
 | zero=>rfl
 | succ n ih=>rw[cN,fN,ih,cN];rfl
theorem Qk{a:fc}{n:Nat}{v:Int}(h:∀x∈a,0<=x)(c:0<=v):∀x∈a.set n v,0<=x:=λx b=>by
 rcases iQ b with h1|h1
 .exact h x h1
 .rw[h1];exact c
theorem LD{a:fc}(h:∀x∈a,0<=x)(n:Nat):0<=a.getD n 0:=by
 by_cases z:n<a.length
 .rw[List.getD,ay z];exact h _ (eT z)
 .rw[List.getD,bO (by lia)];exact bw _
theorem xH{X:Cx}:Xv X (GO X.K):=by
 intro b s E H x y v u Q I m A h;obtain⟨p,F,i,z,rfl,rfl,D,o,q⟩:=h;cases m;obtain⟨t,rfl⟩:=A;obtain⟨e,r,g,G⟩:=I.list D;obtain⟨j,c,B,L,C,n⟩:=Ep o;obtain⟨w,k,d⟩:=r.get B;have l:=r.length;have J:=u5;have a:EP X b E Q w s:=⟨z,H,I,d,q⟩;by_cases f:0<=i
 .have hj:i.toNat=j:=by
   rw[seqIndex_of f n]at c;exact bu c
  exact wpAny_getItem_list g.isList f (by lia) (by rw[hj];simpa using k) a
 .have hj:(i+(e.toArray.size:Int)).toNat=j:=by
   rw[seqIndex_neg (by lia) C]at c;rw[aY,<-l];exact bu c
  exact wpAny_getItem_list_neg g.isList (by lia) (by rw[aY]<;>lia) (by lia) (by rw[hj];simpa using k) a
theorem R8{K:f3}{a p:Addr}{xs:List V}{Q:VK}{g:TG}{u:TT}{w:TE}{l:St}{v:Hp}(j:Nat->List V->St->Hp->Prop)(B:j 0 [] l v)(C:∀i c d H,i<=xs.length->j i c d H->ν K H a xs)(E:∀(i:Nat) (x:V) (c:List V) (d:St) (H:Hp) (N:List V->St->Hp->Prop),(∀n f k,j (i+1) n f k->N n f k)->xs.reverse[i]?=some x->j i c d H->g x d H λh F=>u h F λb s=>
 if b=true then w h s λy z=>z p=some (.lst c)/\c.length<sizeLine/\N (c++[y]) h (upd z p (.lst (c++[y])))else N c h s)(D:∀c d H,j xs.length c d H->Q (.ref p) H):wG (Itv K a xs.length) p Q g u w l v:=by
 refine⟨λi m c d H=>m=xs.length-i/\i<=xs.length/\j i c d H,⟨xs.length,by simp,bB _,B⟩,?_⟩;rintro i m c d H ⟨rfl,A,pv⟩;have q:=C i c d H A pv;by_cases o:i<xs.length
 .have hx:xs[xs.length-1-i]?=some xs[xs.length-1-i]:=ay (by lia);refine .inr ⟨⟨o,xs,_,q,hx⟩,λx k y=>?_⟩;obtain⟨e,y⟩:=y;subst e;exact E i x c d _ (λn f k=>∃t,t<xs.length-i/\(t=xs.length-(i+1)/\i+1<=xs.length/\j (i+1) n f k)) (λn f k r=>⟨xs.length-(i+1),by lia,rfl,o,r⟩) (by rw[cw o];exact y xs q) pv
 .have e:i=xs.length:=by lia
  subst e;exact .inl ⟨az _,D c d H pv⟩
end L2
namespace Pb
open L2
def After(a:fm):List Int->List Int->Prop
 | _,[]=>True
 | S,c::t=>a c∈S/\After a (c::S) t
section
variable{m:Int}{q:hD}{r:Int}{f:fm}{o:fv}
theorem After.mono:∀{l S b:fc},(∀x∈S,x∈b)->After f S l->After f b l
 | [],_,_,_,_=>trivial
 | c::t,S,b,h,a=>⟨h _ a.1,After.mono (λx d=>by
  rcases aw.mp d with e|e
  .exact aw.mpr (.inl e)
  .exact ap _ (h x e)) a.2⟩
theorem After.append:∀{e d S:fc},After f S e->After f S d->After f S (e++d)
 | [],_,_,_,b=>b
 | c::t,d,S,a,b=>⟨a.1,After.append a.2 (b.mono λx g=>ap _ g)⟩
theorem After.snoc{c:Int}:∀{l S:fc},After f S l->(f c∈S\/f c∈l)->After f S (l++[c])
 | [],S,_,h=>⟨h.resolve_right (by simp),trivial⟩
 | d::t,S,a,h=>⟨a.1,After.snoc a.2 (by
  rcases h with h|h
  .exact .inl (ap _ h)
  .rcases aw.mp h with e|e
   .exact .inl (aw.mpr (.inl e))
   .exact .inr e)⟩
theorem After.up:∀{A B S:fc},After f S (A++B)->∀k∈A,f k∈S\/f k∈A
 | [],_,_,_,k,hk=>by cases hk
 | c::t,B,S,a,k,hk=>by
   rcases aw.mp hk with e|e
   .rw[e];exact .inl a.1
   .rcases After.up (A:=t) (B:=B) a.2 k e with h|h
    .rcases aw.mp h with h|h
     .exact .inr (by rw[h];exact aA)
     .exact .inl h
    .exact .inr (ap _ h)
structure Order(m r:Int)(f:fm)(t:fc):Prop where
 nd:(r::t).Nodup
 Ι:∀v∈t,0<=v/\v<m
 all:∀v,0<=v->v<m->v=r\/v∈t
 af:After f [r] t
theorem Order.ne{t:fc}(O:Order m r f t){v:Int}(h:v∈t):v≠r:=λz=>(bg.mp O.nd).1 (z▸h)
theorem DK(g:Good m q)(R:ε m q r f o):∀(n:Nat)(v:Int)(S:fc),0<=v->v<m->f v∈S->After f S (tY m q r f n v)
 | 0,v,S,_,_,h=>⟨h,trivial⟩
 | n+1,v,S,h0,h1,h=>by
   refine⟨h,?_⟩;have:∀(a:fc)(S:fc),v∈S->(∀u∈a,u∈bQ m q (front r f v) v)->After f S (a.flatMap (tY m q r f n)):=by
    intro a
    induction a with
    | nil=>intro S _ _;exact trivial
    | cons u a ih=>
      intro S d c;rw[c9];obtain⟨b,k,i⟩:=(bz g R h0 h1).mp (c u aA);exact(DK g R n u S b.1 b.2 (by rw[i];exact d)).append (ih S d λx e=>c x (ap _ e))
   exact this _ _ aA λu j=>j
theorem CZ(g:Good m q)(R:ε m q r f o)(j:0<=r)(i:r<m)(d:(cI m q r f o r).Nodup)(b:∀v,v∈cI m q r f o r↔0<=v/\v<m):∃t,cI m q r f o r=r::t/\Order m r f t:=by
 have e:=jv g R j i;refine⟨_,e,?_⟩;rw[e]at d b;refine⟨d,λv l=>(b v).mp (ap _ l),λv k s=>aw.mp ((b v).mpr ⟨k,s⟩),?_⟩;have:∀a:List Int,(∀u∈a,u∈bQ m q (front r f r) r)->After f [r] (a.flatMap (cI m q r f o)):=by
  intro a
  induction a with
  | nil=>intro _;exact trivial
  | cons u a ih=>
    intro c;rw[c9];obtain⟨h,y,n⟩:=(bz g R j i).mp (c u aA);exact(DK g R _ u [r] h.1 h.2 (by rw[n];exact aA)).append (ih λx w=>c x (ap _ w))
 exact this _ λu p=>p
def wg(m:Int)(q:hD)(r:Int)(f:fm)(a:fm)(p:g8):Nat->Int->Int
 | 0,v=>a v
 | n+1,v=>a v+((bQ m q (front r f v) v).map λc=>p c (wg m q r f a p n c)).sum
def Ε(m:Int)(q:hD)(r:Int)(f:fm)(o:fv)(a:fm)(p:g8)(v:Int):Int:=wg m q r f a p (m.toNat-1-o v) v
variable{held:fm}{p:g8}
theorem eG(g:Good m q)(R:ε m q r f o){v:Int}(i:0<=v)(h:v<m):Ε m q r f o held p v=held v+((bQ m q (front r f v) v).map λc=>p c (Ε m q r f o held p c)).sum:=by
 have l:∀u,u∈bQ m q (front r f v) v->(0<=u/\u<m)/\u≠r/\f u=v:=λu=>(bz g R i h).mp;have d:∀u∈bQ m q (front r f v) v,o u=o v+1/\o u+1<=m.toNat:=λu a=>by
  obtain⟨b,k,j⟩:=l u a;have:=R.pos b.1 b.2 k;rw[j]at this;exact⟨this,gP R b.1 b.2⟩
 unfold Ε;cases e:m.toNat-1-o v with
 | zero=>
   have:bQ m q (front r f v) v=[]:=hV.mpr λu a=>by
    have:=d u a
    lia
   rw[this];simp[wg]
 | succ n=>
   show held v+_=_;rw[bH λu a=>show p u (wg m q r f held p n u)=p u (wg m q r f held p (m.toNat-1-o u) u) by rw[show m.toNat-1-o u=n by have:=d u a;lia]]
theorem sx{l a:fc}(h:l.Perm a):l.sum=a.sum:=by
 induction h with
 | nil=>rfl
 | cons x _ ih=>rw[aH,aH,ih]
 | swap x y l=>simp only[aH];lia
 | trans _ _ h1 h2=>exact h1.trans h2
def qr(f:fm)(p:g8)(a:fc)(v:Int):List Int:=a.set (f v).toNat (a.getD (f v).toNat 0+p v (a.getD v.toNat 0))
structure ϋ(m:Int)(q:hD)(r:Int)(f:fm)(o:fv)(held:fm)(p:g8)(t cs:fc):Prop where
 len:(cs.length:Int)=m
 val:∀v,0<=v->v<m->cs.getD v.toNat 0=held v+((t.filter λc=>decide (f c=v)).map λc=>p c (Ε m q r f o held p c)).sum
theorem ϋ.nil{a:fc}(h:(a.length:Int)=m):ϋ m q r f o (λv=>a.getD v.toNat 0) p [] a:=⟨h,λv _ _=>by simp⟩
theorem AL(g:Good m q)(R:ε m q r f o){t:fc}(i:t.Nodup)(a:∀x∈t,(0<=x/\x<m)/\x≠r){v:Int}(d:0<=v)(e:v<m)(b:∀k,0<=k->k<m->k≠r->f k=v->k∈t):(t.filter λc=>decide (f c=v)).Perm (bQ m q (front r f v) v):=by
 refine iP (i.filter _) jQ λx=>?_;rw[bx,bz g R d e,bT];exact⟨λh=>⟨(a x h.1).1,(a x h.1).2,h.2⟩,λh=>⟨b x h.1.1 h.1.2 h.2.1 h.2.2,h.2.2⟩⟩
theorem ϋ.full(g:Good m q)(R:ε m q r f o){t c:fc}(s:ϋ m q r f o held p t c)(h:t.Nodup)(e:∀x∈t,(0<=x/\x<m)/\x≠r){v:Int}(a:0<=v)(b:v<m)(d:∀k,0<=k->k<m->k≠r->f k=v->k∈t):c.getD v.toNat 0=Ε m q r f o held p v:=by
 rw[s.val v a b,eG g R a b,sx ((AL g R h e a b d).map _)]
theorem ϋ.step(g:Good m q)(R:ε m q r f o){t a:fc}(s:ϋ m q r f o held p t a){v:Int}(d:0<=v)(h:v<m)(hr:v≠r)(e:a.getD v.toNat 0=Ε m q r f o held p v):ϋ m q r f o held p (v::t) (qr f p a v) where
 len:=by unfold qr;rw[b4];exact s.len
 val:=λu u0 u1=>by
  have j:=(R.up v d h hr).1;have i:=s.len;have b:=s.val u u0 u1;unfold qr;rw[e];by_cases c:f v=u
  .have hl:u.toNat<a.length:=(by lia);rw[eV (by simpa using c),aq,aH,c];rw[show(a.set u.toNat (a.getD u.toNat 0+p v (Ε m q r f o held p v))).getD u.toNat 0=a.getD u.toNat 0+p v (Ε m q r f o held p v) by simp[List.getD,hl],b]
   lia
  .rw[eW (by simpa using c),<-b];have:(f v).toNat≠u.toNat:=(by lia);simp[List.getD,cT this]
theorem Order.places{t:fc}(O:Order m r f t):∀x∈t,(0<=x/\x<m)/\x≠r:=λx a=>⟨O.Ι x a,O.ne a⟩
theorem Order.turn(g:Good m q)(R:ε m q r f o){t n:fc}(O:Order m r f t){i:Nat}{v:Int}(s:ϋ m q r f o held p (t.drop (t.length-i)) n)(b:t.reverse[i]?=some v):((0<=v/\v<m)/\v≠r)/\n.getD v.toNat 0=Ε m q r f o held p v/\ϋ m q r f o held p (t.drop (t.length-(i+1))) (qr f p n v):=by
 have F:i<t.length:=by
  have:=(aD.mp b).1
  rwa [aV]at this
 rw[cw F]at b;generalize J:t.length-1-i=j at b;have H:t.length-i=j+1:=by lia
 have l:t.length-(i+1)=j:=by lia
 rw[H]at s;rw[l];have d:j<t.length:=by lia
 have G:v∈t:=aO b;have a:=O.places v G;have C:t.drop j=v::t.drop (j+1):=by
  rw[dy d];rw[ay d]at b;cases b
  rfl
 have y:t=t.take j++v::t.drop (j+1):=by rw[<-C,cP]
 have c:=(bg.mp O.nd).2;have h:=c;rw[y]at h;have E:v∉t.take j:=λz=>(dU.mp h).2.2 v z v aA rfl;have e:=s.full g R (c.sublist (List.drop_sublist _ _)) (λx I=>O.places x (cL I)) a.1.1 a.1.2 λk B D A u=>by
  rcases O.all k B D with z|z
  .exact absurd z A
  .rw[y]at z;rcases ba.mp z with z|z
   .have af:=O.af;rw[y]at af;rcases af.up k z with w|w
    .rw[u]at w;exact absurd (aK.mp w) a.2
    .rw[u]at w;exact absurd w E
   .rcases aw.mp z with z|z
    .subst z;exact absurd u (R.ne B D A)
    .exact z
 exact⟨a,e,by rw[C];exact s.step g R a.1.1 a.1.2 a.2 e⟩
def rK(m:Int)(q:hD)(r:Int)(f:fm)(o:fv)(held:fm)(p:g8):List Int:=(bM m.toNat).map (Ε m q r f o held p)
theorem se{v:Int}(a:0<=v)(b:v<m):(rK m q r f o held p).getD v.toNat 0=Ε m q r f o held p v:=by
 unfold rK;rw[List.getD,aJ,fy (by lia),bA a]
 rfl
theorem Order.done(g:Good m q)(R:ε m q r f o){t a:fc}(O:Order m r f t)(s:ϋ m q r f o held p t a):a=rK m q r f o held p:=by
 have j:=s.len;refine fP λi=>?_;by_cases h:i<m.toNat
 .have hc:i<a.length:=by lia
  have e:=s.full g R (bg.mp O.nd).2 O.places (v:=(i:Int)) (by lia) (by lia) λk c b d l=>(O.all k c b).resolve_left d;unfold rK;rw[aJ,fy h];rw[bR,List.getD,ay hc]at e;rw[ay hc];exact congrArg some e
 .unfold rK;rw[bO (by lia),bO (by rw[ah,cq];lia)]
def ϛ(q:hD)(f:fm)(v x:Int):Int:=x/(ce q v (f v)).getD 1
theorem ε.adj(R:ε m q r f o){a b:Int}(h:Adj q a b):(b≠r/\f b=a)\/(a≠r/\f a=b):=by
 obtain⟨x,c,j⟩:=h;have:=R.road x c;rcases j with⟨e1,e2⟩|⟨e1,e2⟩
 .subst e1;subst e2;exact this.symm
 .subst e1;subst e2;exact this
end
section
variable{m:Int}{f:hD}{r:Int}{par:fm}{dep:fv}{d:fm}
theorem LS(a:∀v,0<=d v)(b:∀v x,0<=x->0<=ϛ f par v x):∀(n:Nat)(v:Int),0<=wg m f r par d (ϛ f par) n v
 | 0,v=>a v
 | n+1,v=>by
   show 0<=d v+_;have:∀l:List Int,0<=(l.map λc=>ϛ f par c (wg m f r par d (ϛ f par) n c)).sum:=by
    intro l
    induction l with
    | nil=>exact bw _
    | cons c l ih=>
      rw[aq,aH];have:=b c _ (LS a b n c)
      lia
   have g:=this (bQ m f (front r par v) v);have e:=a v
   lia
theorem Yr(g:Good m f)(v x:Int)(h:0<=x):0<=ϛ f par v x:=by
 unfold ϛ;refine ja h ?_;cases e:ce f v (par v)with
 | none=>decide
 | some k=>
   have l:=xJ.mp (show(ce f v (par v)).isSome=true by rw[e];rfl);obtain⟨x,c,j⟩:=l;obtain⟨i,n⟩:=cJ c;have ok:=g.ok x c;rw[tJ g n (by rcases j with⟨a,b⟩|⟨a,b⟩;exact .inl ⟨a,b⟩;exact .inr ⟨a,b⟩)]at e;unfold jk at e;have t0:=ok.t0;have u0:=ok.u0;show 0<=k;split at e
   .cases e;lia
   .split at e
    .cases e;lia
    .cases e
theorem JB(g:Good m f)(a:∀v,0<=d v)(v:Int):0<=Ε m f r par dep d (ϛ f par) v:=LS a (Yr g) _ _
theorem kK(l:fc)(i j:Nat)(x:Int)(h:i<l.length):(l.set i x).getD j 0=if i=j then x else l.getD j 0:=by
 by_cases c:i=j
 .subst c;rw[aj rfl];simp[List.getD,h]
 .rw[ag c];simp[List.getD,cT c]
end
end Pb
namespace L2
open PySem PySem.Spec PyProof.Rows
def ED(a:fc)(lo b:Option Int):List Int:=(a.drop (HT.sIx a.length 0 lo)).take (HT.sIx a.length a.length b-HT.sIx a.length 0 lo)
theorem Ji(a:fc)(lo b:Option Int):yX (a.map V.int) lo b=(ED a lo b).map V.int:=by
 unfold yX ED;rw[ah,List.map_take,List.map_drop]
theorem slI{K:f3}{H:Hp}{a:Addr}{c:fc}{lo b:Option Int}{Q:VK}(h:ν K H a (c.map V.int))(q:∀p,H p=none->Q (.ref p) (upd H p (.lst ((ED c lo b).map V.int)))):Xb K (.ref a) lo b H Q:=⟨a,_,rfl,h,λp d=>by rw[Ji];exact q p d⟩
def TJ(K:f3)(c:Bool):R2:=λx y H Q=>∃p a i v,x=.ref p/\y=.int i/\ϑ K c H p a/\Ϧ a i=some v/\Q v H
theorem Cq{X:Cx}(c:Bool):IxR X (TJ X.K c):=by
 cases c
 .exact lW
 .exact bX
theorem Vq{X:Cx}(c:Bool)(K:f3)(h:X.K=K):IxR X (TJ K c):=by subst h;exact Cq c
theorem ixX{K:f3}{c:Bool}{H:Hp}{p:Addr}{a:List V}{i:Int}{v:V}{Q:VK}(h:ϑ K c H p a)(e:Ϧ a i=some v)(q:Q v H):TJ K c (.ref p) (.int i) H Q:=⟨p,a,i,v,rfl,rfl,h,e,q⟩
theorem Zq{K:f3}{H:Hp}{p:Addr}{a:List V}{i:Int}{v:V}{Q:VK}(h:Ξ K H p a)(e:Ϧ a i=some v)(q:Q v H):MC K (.ref p) (.int i) H Q:=⟨p,a,i,v,rfl,rfl,h,e,q⟩
theorem Vt{c:Prop}[Decidable c]{A B:Prop}{P:Int->Prop}(m1 m2:Int)(hB:P m2->B)(hA:P m1->A)(h:∀m,(m=m1\/m=m2)->P m):if c then A else B:=by
 by_cases z:c
 .rw[aj z];exact hA (h _ (.inl rfl))
 .rw[ag z];exact hB (h _ (.inr rfl))
end L2
namespace Pb
open L2 PySem
theorem Mb{d c:Type}{R:d->c->Prop}:∀(n:Nat){b:List d}{a:List c},Paired R b a->Paired R (b.take n) (a.take n)
 | 0,_,_,_=>by rw[dY,dY];exact .nil
 | _+1,_,_,.nil=>.nil
 | n+1,_,_,.cons x xs=>.cons x (Mb n xs)
theorem K9{d c:Type}{R:d->c->Prop}:∀(n:Nat){b:List d}{a:List c},Paired R b a->Paired R (b.drop n) (a.drop n)
 | 0,_,_,h=>h
 | _+1,_,_,.nil=>.nil
 | n+1,_,_,.cons x xs=>K9 n xs
theorem PF{f e:Type}{R:f->e->Prop}{c:List f}{b:List e}(h:Paired R c b):∀{d:List f}{a:List e},Paired R d a->Paired R (d++c) (a++b)
 | _,_,.nil=>h
 | _,_,.cons x xs=>.cons x (PF h xs)
theorem WJ{d a:Type}{R:d->a->Prop}{b:List d}{c:List a}{q:d}{r:a}(n:Nat)(h:Paired R b c)(e:R q r):Paired R (b.take n++q::b.drop n) (c.take n++r::c.drop n):=PF (.cons e (K9 n h)) (Mb n h)
theorem IR(n:Nat):aaz n (bM n):=⟨cq n,ij n,λv b a=>fh.mpr ⟨b,a⟩,λv h=>fh.mp h⟩
theorem CQ{n:Nat}{v:Int}(a:0<=v)(b:v<n):(bM n).getD v.toNat 0=v:=by
 rw[List.getD,fy (by lia),bA a]
 rfl
theorem Qw{n:Nat}{a:List Row}{b:Row}(R:Rows n a)(k:b.k=(n:Int)+1)(ok:aaX b):Rows (n+1) (a++[b]):=by
 have e:=R.len;refine⟨by rw[aX,e];rfl,λj r c=>?_⟩;by_cases d:j<a.length
 .rw[dH d]at c;exact R.ok j r c
 .have hj2:j=a.length:=by
   have:=(aD.mp c).1;rw[aX]at this;simp at this
   lia
  rw[hj2,dE (az _),dD]at c;cases c;exact⟨by rw[hj2,e];exact k,ok⟩
section
variable{m:Int}{f:hD}{r:Int}{d:fm}{n:fv}
def ϝ(f:hD)(d:fm)(v x:Int):Int:=if 0<=x then x/(ce f v (d v)).getD 1 else x*(ce f (d v) v).getD 1
theorem Aa(g:Good m f)(R:ε m f r d n){v:Int}(s:0<=v)(q:v<m)(l:v≠r):∃k,ce f (d v) v=some k/\2<=k/\k<=1000000:=by
 obtain⟨x,e,j⟩:=(R.up v s q l).2.1;obtain⟨i,o⟩:=cJ e;have ok:=g.ok x e;have h:rA x (d v) v:=by
  rcases j with⟨a,b⟩|⟨a,b⟩
  .exact .inr ⟨b,a⟩
  .exact .inl ⟨b,a⟩
 rw[tJ g o h];unfold jk;by_cases c:x.a=d v/\x.b=v
 .rw[aj c];exact⟨_,rfl,ok.t0,ok.t1⟩
 .rw[ag c];have p:x.a=v/\x.b=d v:=by
   rcases h with w|w
   .exact absurd w c
   .exact⟨w.2,w.1⟩
  rw[aj p];exact⟨_,rfl,ok.u0,ok.u1⟩
def mF(f:hD)(a:V)(p:Int)(i:Nat):List Int:=((bM i).filter λq=>(ce f p q).isSome).filter λv=>decide (V.int v≠a)
theorem rj(i:Nat):bM (i+1)=bM i++[(i:Int)]:=by
 unfold bM;rw[df,aI]
 rfl
theorem DP(p:Int)(a:V):mF f a p m.toNat=bQ m f a p:=by
 unfold mF bQ;rw[OE]
theorem NR{a:V}{p:Int}{i:Nat}(c:(ce f p (i:Int)).isSome=true)(b:V.int (i:Int)≠a):mF f a p (i+1)=mF f a p i++[(i:Int)]:=by
 unfold mF;rw[rj,cX,cX]
 congr 1
 simp[c,b]
theorem DA{a:V}{p:Int}{i:Nat}(h:(ce f p (i:Int)).isSome=true->¬V.int (i:Int)≠a):mF f a p (i+1)=mF f a p i:=by
 unfold mF;rw[rj,cX,cX];have:([(i:Int)].filter λq=>(ce f p q).isSome).filter (λv=>decide (V.int v≠a))=[]:=by
  by_cases c:(ce f p (i:Int)).isSome=true
  .have:=h c;simp[c]
   simpa using this
  .simp[c]
 rw[this,b7]
structure Bfs(m:Int)(f:hD)(r:Int)(d:fm)(t:fc)(k:Nat):Prop where
 J:ϗ m f r d t ((r::t).drop k)
 af:After d [r] t
theorem Bfs.start:Bfs m f r d [] 0:=⟨ϗ.start,trivial⟩
theorem Bfs.step(g:Good m f)(R:ε m f r d n)(w:0<=r)(v:r<m){t:fc}{k:Nat}(b:Bfs m f r d t k){p:Int}(i:(r::t)[k]?=some p):Bfs m f r d (t++bQ m f (front r d p) p) (k+1):=by
 have j:=(aD.mp i).1;have s:(r::t).drop k=p::(r::t).drop (k+1):=by
  rw[dy j];rw[ay j]at i;cases i
  rfl
 have J:=b.J.step g R w v (p:=p) (ws':=(r::t).drop (k+1)) (by rw[s]);have q:=b.J.at_ w v (p:=p) (by rw[s];exact aA);have y:p∈r::t:=aO i;refine⟨?_,?_⟩
 .rw[<-jX,kt (by lia)];exact J
 .have:∀(a l:fc),(∀u∈a,u∈bQ m f (front r d p) p)->After d [r] l->p∈r::l->After d [r] (l++a):=by
   intro a
   induction a with
   | nil=>intro l _ h _;rw[b7];exact h
   | cons u a ih=>
     intro l c h o;obtain⟨C,D,z⟩:=(bz g R q.1 q.2).mp (c u aA);have A:After d [r] (l++[u]):=h.snoc (by
      rw[z];rcases aw.mp o with e|e
      .exact .inl (by rw[e];exact aA)
      .exact .inr e)
     have:=ih (l++[u]) (λx B=>c x (ap _ B)) A (by
      rcases aw.mp o with e|e
      .rw[e];exact aA
      .exact ap _ (bC _ e))
     rwa [cU]at this
  exact this _ t (λu c=>c) b.af y
theorem Bfs.done(R:ε m f r d n){t:fc}{k:Nat}(a:(r::t).length<=k)(b:Bfs m f r d t k):Order m r d t:=by
 have J:=b.J;rw[m5 a]at J;refine⟨bg.mpr ⟨J.nr,J.nd⟩,J.Ι,λv c e=>?_,b.af⟩;by_cases z:v=r
 .exact .inl z
 .exact .inr (J.all R v c e z)
end
def fG(m:Int)(a b:fc):List Int:=(List.range m.toNat).map λi=>a.getD i 0-b.getD i 0
theorem Qr{m:Int}(h:0<=m)(a b:fc):((fG m a b).length:Int)=m:=by unfold fG;rw[ah,bG];lia
end Pb
namespace L2
open PySem PySem.Spec PyProof.Rows
theorem JD{P:Program}{w:World}{A:Around}{l:Addr}(c:Bool){it:Addr}(m:A.handled=none)(ne:l≠it)(a:Array Value):Draws P w A it [it,l] a.size (λi v=>a[i]?=some v) (λi h=>zAt l c it i h/\Nz l c h a) where
 live:=λi h st=>let ⟨o,e,_⟩:=(kZ l c P w).obj _ _ _ st.1;⟨o,e⟩
 frame:=λi h b st k=>⟨(kZ l c P w).atK _ _ _ _ st.1 λo e=>k it (by simp) o e,(kZ l c P w).abk _ _ _ st.2 λo e=>k l (by simp) o e⟩
 item:=λi s Q E hi st f=>(kZ l c P w).item A s it i a a[i] Q E st.1 st.2 (by simp[hi]) λb d g=>f a[i] b s.toks (by simp[hi]) ⟨d,(kZ l c P w).abk _ _ _ st.2 λo e=>g.extBut _ _ ne e⟩ g
 done:=λs Q E st f=>(kZ l c P w).fin A s it a.size a Q E m st.1 st.2 (by simp) λb e j n=>f b e j n
section
variable{P:Program}{w:World}{A:Around}{E:fz}{s:Shared}{l:Addr}{f:Obj}{a:Heap->Array Value->Prop}{i:Addr->Nat->Heap->Prop}
abbrev GJ(n:Nat):Obj:={ cls:=.type "enumerate",data:=.fields #[.none,.bool false,.ref n,rawInt 0,.none,.none] }
theorem EL(S:∀P w,aad P w l f a i)(k:Array Value):Meets (Builtin.«enumerate.__new__» ⟨[.type "enumerate",.ref l],[]⟩) (λ_ R s=>a s.heap k/\R (.ok (.ret (.ref (s.heap.push f).objs.size))) { s with heap:=(s.heap.push f).push (GJ s.heap.objs.size) }):=.of_wp λe w A R s j=>by
 obtain⟨q,g,d,m,os⟩:=s;obtain⟨n,r⟩:=j;have p:=sub_enumerate;have h:a (Shared.heap ⟨q,g,d,m,os⟩) k:=n
 wp_walk using ((S e w).start _ _ _ _ _ h)
 refine wpAny_stack_any λst=>?_;dsimp only;refine bi ?_;have o:∀b:Bool,b=true\/b=false:=λb=>by cases b<;>simp
 split
 .rename_i c _ _ _ _ _
  rcases o (c==Value.type "enumerate")with z|z
  .rw[z]
   wp_walk using ((S e w).start _ _ _ _ _ h)
   exact⟨_,rfl,r⟩
  .rw[z]
   wp_walk using ((S e w).start _ _ _ _ _ h)
   exact⟨_,rfl,r⟩
 .wp_walk using ((S e w).start _ _ _ _ _ h)
  exact⟨_,rfl,r⟩
theorem Py(S:∀P w,aad P w l f a i){j:Array Value}{Q:fz}(n:a s.heap j)(p:f.isFreed=false)(h:∀b,IsEnum b (s.heap.objs.size+1) s.heap.objs.size 0 .none->i s.heap.objs.size 0 b->(∀c o,s.heap.get? c=some o->b.get? c=some o)->Q (.ref (s.heap.objs.size+1)) { s with heap:=b }):wpAny (model P w) A (call (.type "enumerate") [.ref l]) Q E s:=by
 refine callType_new F.called_enumerate (by decide) (F.typeCall_enumerate_1 _) (F.newCall_enumerate_1 _) (λg=>F.args_object_init_2 g _) F.entry_enumerate_new (EL S j) ⟨n,?_⟩;have k:(s.heap.push f).objs.size=s.heap.objs.size+1:=dR ..;have d:((s.heap.push f).push (GJ s.heap.objs.size)).get? (s.heap.push f).objs.size=some (GJ s.heap.objs.size):=bc _ rfl;have m:((s.heap.push f).push (GJ s.heap.objs.size)).get? s.heap.objs.size=some f:=aF _ (bc _ p);show _/\_;rw[k]at d;rw[k];exact⟨⟨_,d,rfl⟩,h _ d ((S P w).first _ _ m) λc o e=>aF _ (aF _ e)⟩
end
def Ite(K:f3)(c:Bool)(a:Addr):It:=⟨λi H=>∃b x,ϑ K c H a b/\b[i]?=some x,λi H v d=>∃p x,H p=none/\v=.ref p/\d=upd H p (.tup [.int i,x])/\∀b,ϑ K c H a b->b[i]?=some x,λi H=>∃b,ϑ K c H a b/\b.length=i⟩
theorem OM{P:Program}{w:World}{K:f3}{G:List Expr}{x1}{aal:Pos}(c:Bool)(a e it:Addr)(ne:e≠it)(ae:a≠e)(ai:a≠it):Turn P w K (.Tuple G x1 aal) (Ite K c a) [e,it] e (λi h=>(∃y,IsEnum h e it (i:Nat) y)/\zAt a c it i h) where
 mem:=by simp
 obj:=λi h t b hb=>by
  obtain⟨⟨y,t1⟩,F⟩:=t;simp only[aw,d8,or_false]at hb;rcases hb with rfl|rfl
  .exact⟨_,t1,λv z=>by cases z⟩
  .exact(kZ a c P w).obj _ _ _ F
 keep:=λi h M t k=>by
  obtain⟨⟨y,t1⟩,F⟩:=t;exact⟨⟨y,k e (by simp) _ t1⟩,(kZ a c P w).atK _ _ _ _ F λo e=>k it (by simp) o e⟩
 item:=λX e1 e2 e3 hc i B s σ H E I f t g=>by
  subst e1 e2 e3;obtain⟨⟨y,t1⟩,F⟩:=t;obtain⟨Z,x,s1,Y⟩:=g;obtain⟨J,r1,q1⟩:=I.gE s1;obtain⟨xu,N,rx⟩:=r1.get Y;have hh:X.A.in1.handled=none:=I.ok.hd hc;have D:∀q∈[e,it],qz X B H q:=f;have W:=WalksT.enumerateD (A:=X.A) (JD (P:=X.prog) (w:=X.w) (A:=X.A.in1) (l:=a) c (it:=it) hh ai J.toArray) e ne (by simp;exact⟨ne,ae.symm⟩) (by simp);have a0:i<J.toArray.size:=by
   have:=(aD.mp N).1
   simpa using this
  refine W.item i s _ _ a0 ⟨⟨y,t1⟩,F,q1⟩ λT a7 M tk pt le tup S keep=>?_;refine⟨_,rfl,W.go G x1 aal i T { s with heap:=M,toks:=tk } _ _ S λh2 O V=>?_⟩;obtain⟨tt,xv,px,ev⟩:=pt;have an:xv=xu:=by
   have h1:J[i]?=some xv:=(by simpa using px);rw[N]at h1;cases h1
   rfl
  subst an;have Tw:T∉[e,it]:=W.apart i T M S;have kp:∀q o,q∉[e,it]->s.heap.get? q=some o->h2.get? q=some o:=λq o d eo=>V q o d (keep q o d eo);obtain⟨ot,ht,av,nt,aC⟩:=tup;have a3:h2.get? T=some ot:=V T ot Tw ht;have U:∀q u,H q=some u->q∉[e,it]:=λq u e d=>by rw[(D q d).1]at e;cases e
  have L:H T=none:=I.Β.fresh le;have Tb:∀q o,s.heap.get? q=some o->q≠T:=λq o eo=>aW (aZ (aM eo) le);have C:Inv X B σ H { s with heap:=h2,toks:=tk }:=by
   refine I.step (g':=s.gens) (d':=s.drawn) (t':=tk) (ch:=[e,it]) (λq d=>⟨(D q d).2.2.2.1,(D q d).2.1,(D q d).2.2.2.2.1,(D q d).2.2.2.2.2⟩) (λq o _ _ d e _=>kp q o d e) (λq o _ _ d e _=>⟨o.slots,kp q o d e⟩) (λ_ _ _ _ n=>n)
    (λq o d e=>⟨o,kp q o d e⟩) (λ_ _ e=>e) (λ_ _ _ e=>e) (λq ps e=>⟨#[],by rw[e];simp⟩) (λm hm=>?_) (λq u e=>?_) I.bare
   .obtain⟨o,es,ep,ho,r⟩:=hm;exact⟨o,es,ep,kp _ o (λd=>(D _ d).2.1 rfl) ho,r⟩
   .refine(I.Β q u e).iF (λR v hq' j=>kp R v ?_ j) (λ_ j=>j) λ_ _ j=>j;rcases hq' with rfl|hq'
    .exact U _ u e
    .exact U _ _ hq'
  have I3:Inv X B σ (upd H T (.tup [.int i,x])) { s with heap:=h2,toks:=tk }:=by
   refine⟨C.ok,C.os,C.bare,?_,C.loc,C.cell,?_,λn c e=>?_,λp hp=>?_,λq u e=>?_,C.len⟩
   .refine⟨C.base.keep,C.base.slot,λq o e n Y=>?_,C.base.there,λq Z e=>?_,λq o u e=>?_,λq ps e=>?_⟩
    .have lt:q<X.s₀.heap.objs.size:=aM e;rw[aN (aW (aZ lt (aP I.sz le)))];exact C.base.free q o e n Y
    .have j:=C.base.Ge q Z e;rw[aN (λz=>by rw[z,L]at j;cases j)];exact j
    .have j:=C.base.iN q o u e;rw[aN (λz=>by rw[z,L]at j;cases j)];exact j
    .obtain⟨more,j⟩:=C.base.Io q ps e;exact⟨more,by rw[aN (λz=>by rw[z,L]at j;cases j)];exact j⟩
   .rw[aN (aW (aZ I.lt le))];exact C.free
   .obtain⟨vv,o,ho,_⟩:=I.cell n c e;rw[aN (Tb _ _ ho)];exact C.Ϟ n c e
   .obtain⟨k1,k2,k3⟩:=I.pin p hp;rw[aN (Tb _ _ k1)];exact C.pin p hp
   .by_cases d:q=T
    .subst d;rw[aE]at e;cases e;refine⟨by show 2<=sizeLine;decide,[.int (i:Nat) tt,xv],.cons ⟨tt,rfl⟩ (.cons rx .nil),ot,a3,av,nt,?_⟩;rw[aC,ev]
    .rw[aN d]at e;refine(C.Β q u e).iF (λ_ _ _ j=>j) (λR j=>?_) λR Z j=>?_
     .rw[aN (λz=>by rw[z,L]at j;cases j)];exact j
     .rw[aN (λz=>by rw[z,L]at j;cases j)];exact j
  refine⟨.ref T,_,I3,rfl,⟨T,x,L,rfl,rfl,λbl q=>?_⟩,⟨O.1,O.2.1⟩,λq d=>?_⟩
  .rw[<-I.abl s1 q];exact Y
  .have ϕ:q≠T:=by
    simp only[aw,d8,or_false]at d;rcases d with rfl|rfl
    .exact Tb _ _ t1
    .exact let ⟨o,e,_⟩:=(kZ a c X.prog X.w).obj _ _ _ F;Tb _ _ e
   rw[aN ϕ];exact(D q d).1
 done:=λX e1 e2 e3 hc i B s σ H E I f t g=>by
  subst e1 e2 e3;obtain⟨⟨y,t1⟩,F⟩:=t;obtain⟨Z,s1,bS⟩:=g;obtain⟨J,r1,q1⟩:=I.gE s1;have hh:X.A.in1.handled=none:=I.ok.hd hc;have D:∀q∈[e,it],qz X B H q:=f;have W:=WalksT.enumerateD (A:=X.A) (JD (P:=X.prog) (w:=X.w) (A:=X.A.in1) (l:=a) c (it:=it) hh ai J.toArray) e ne (by simp;exact⟨ne,ae.symm⟩) (by simp);have ei:i=J.toArray.size:=by
   have:=r1.length;simp
   lia
  subst ei;refine W.done s _ _ ⟨⟨y,t1⟩,F,q1⟩ λM tk keep=>⟨rfl,?_⟩;have kp:∀q o,q∉[e,it]->s.heap.get? q=some o->M.get? q=some o:=λq o d e=>keep q o d e;have U:∀q u,H q=some u->q∉[e,it]:=λq u e d=>by rw[(D q d).1]at e;cases e
  refine I.step (g':=s.gens) (d':=s.drawn) (t':=tk) (ch:=[e,it]) (λq d=>⟨(D q d).2.2.2.1,(D q d).2.1,(D q d).2.2.2.2.1,(D q d).2.2.2.2.2⟩) (λq o _ _ d e _=>kp q o d e) (λq o _ _ d e _=>⟨o.slots,kp q o d e⟩) (λ_ _ _ _ n=>n)
   (λq o d e=>⟨o,kp q o d e⟩) (λ_ _ e=>e) (λ_ _ _ e=>e) (λq ps e=>⟨#[],by rw[e];simp⟩) (λm hm=>?_) (λq u e=>?_) I.bare
  .obtain⟨o,es,ep,ho,r⟩:=hm;exact⟨o,es,ep,kp _ o (λd=>(D _ d).2.1 rfl) ho,r⟩
  .refine(I.Β q u e).iF (λR v hq' j=>kp R v ?_ j) (λ_ j=>j) λ_ _ j=>j;rcases hq' with rfl|hq'
   .exact U _ u e
   .exact U _ _ hq'
 self:=λA i s Q E t q=>by
  obtain⟨⟨y,t1⟩,F⟩:=t;exact wpAny_pyIter_enum t1 q
def ME(K:f3)(c:Bool)(d:TE):TI:=λf H R=>d f H λx b=>∃a,x=.ref a/\(∃e,ϑ K c b a e)/\R (Ite K c a) b
section
variable{X:Cx}{e:Expr}{f:TE}{g d:Pos}
theorem wP{j:List Expr}{x1}{aal:Pos}(c:Bool)(hg:Gl X "enumerate")(hm:X.mg "enumerate"=none)(he:PE X e f)(h2:starEach [e] X.env=[(false,eval e X.env)]:=by rfl):PI X (.Tuple j x1 aal) (.Call (.Name "enumerate" g) [e] [] d) (ME X.K c f):=by
 intro i s C H R I h;refine Call_ (rD I hg hm boot_enumerate (c7 ?_ h2 rfl));rw[h2];show wpAny _ _ (spliced ((false,eval e X.env)::backTo d [])) _ _ s;refine hJ (eJ (he i s C H _ I h) λu l x A n v m=>iu ?_);obtain⟨a,B,⟨G,w⟩,q⟩:=m;subst B;cases v;obtain⟨D,v,m⟩:=n.gE w;obtain⟨F,o⟩:=ue a c _ _ m;have p:=aM o;refine Py (kZ a c) m (zz a c) λE r z y=>?_;refine wpAny_pyIter_enum r ?_;refine⟨_,[l.heap.objs.size+1,l.heap.objs.size],_,_,A,rfl,n.kept (t':=l.toks) y,OM c a _ _ (Nat.succ_ne_self _) (aW (ig p)) (aW p),⟨⟨_,r⟩,z⟩,λb t=>?_,q⟩;have k:l.heap.objs.size<=b:=by
  simp only[aw,d8,or_false]at t;rcases t with rfl|rfl
  .exact gq _
  .exact az _
 exact n.acY k (n.Β.fresh k)
end
theorem BQ{K:f3}{c:Bool}{a:Addr}{xs:List V}{g:TG}{n:TS}{D:Ends}{b:St}{H:Hp}(h:Nat->St->Hp->Prop)(s:h 0 b H)(t:∀i b H,h i b H->ϑ K c H a xs)(w:∀(i:Nat) (x:V) (b:St) (H:Hp) (p:Addr) (N:St->Hp->Prop),(∀d f,h (i+1) d f->N d f)->xs[i]?=some x->h i b H->H p=none->g (.ref p) b (upd H p (.tup [.int i,x])) λl B=>n { D with nx:=N,ct:=N,bk:=D.nx } l B)(v:∀b H,h xs.length b H->D.nx b H):uf (Ite K c a) D g n b H:=by
 refine⟨λi m b H=>m=xs.length-i/\i<=xs.length/\h i b H,⟨_,rfl,bB _,s⟩,?_⟩;rintro i m b H ⟨rfl,C,p⟩;have j:=t i b H p;by_cases o:i<xs.length
 .refine .inr ⟨⟨xs,xs[i],j,ay o⟩,λd f=>∃q,q<xs.length-i/\(q=xs.length-(i+1)/\i+1<=xs.length/\h (i+1) d f),λd f z=>z,λx f y=>?_⟩;obtain⟨k,r,A,rfl,rfl,u⟩:=y;exact w i r b H k _ (λd f k=>⟨xs.length-(i+1),by lia,rfl,o,k⟩) (u xs j) p A
 .have e:i=xs.length:=by lia
  subst e;exact .inl ⟨⟨xs,j,rfl⟩,v b H p⟩
end L2
namespace Pb
open L2 PySem
abbrev Stp:=Int×Int×Int
theorem K6{f e:Type}{R:f->e->Prop}{a:f}{b:e}(h:R a b):∀{d:List f}{c:List e},Paired R d c->Paired R (d++[a]) (c++[b])
 | _,_,.nil=>.cons h .nil
 | _,_,.cons x xs=>.cons x (K6 h xs)
def jA(c:hD)(a b:Int):Int:=(ce c a b).getD 1
def gR(b:hD)(a:fc)(s:Stp):List Int:=(a.set s.1.toNat (a.getD s.1.toNat 0-s.2.2*jA b s.1 s.2.1)).set s.2.1.toNat ((a.set s.1.toNat (a.getD s.1.toNat 0-s.2.2*jA b s.1 s.2.1)).getD s.2.1.toNat 0+s.2.2)
theorem FZ(b:hD)(a:fc)(s:Stp):(gR b a s).length=a.length:=by unfold gR;rw[b4,b4]
def rq(m:Int)(a:hD)(s:Stp):Bool:=decide (0<=s.1)&&decide (s.1<m)&&decide (s.2.1∈kM m a s.1)&&decide (1<=s.2.2)
def uj(m:Int)(a:hD)(b:fc)(s:Stp):Bool:=rq m a s&&decide (s.2.2*jA a s.1 s.2.1<=b.getD s.1.toNat 0)
theorem vg{m:Int}{a:hD}{s:Stp}(h:rq m a s=true):(0<=s.1/\s.1<m)/\s.2.1∈kM m a s.1/\1<=s.2.2:=by
 unfold rq at h;rw[bK,bK,bK]at h;exact⟨⟨bF h.1.1.1,bF h.1.1.2⟩,bF h.1.2,bF h.2⟩
theorem sj{m:Int}{d:hD}(g:Good m d){a b:Int}(h:Adj d a b):∃k,ce d a b=some k/\2<=k/\k<=1000000:=by
 obtain⟨x,e,j⟩:=h;obtain⟨i,l⟩:=cJ e;have ok:=g.ok x e;have f:rA x a b:=j;rw[tJ g l f];unfold jk;by_cases c:x.a=a/\x.b=b
 .rw[aj c];exact⟨_,rfl,ok.t0,ok.t1⟩
 .rw[ag c];have n:x.a=b/\x.b=a:=by
   rcases f with w|w
   .exact absurd w c
   .exact⟨w.2,w.1⟩
  rw[aj n];exact⟨_,rfl,ok.u0,ok.u1⟩
theorem Pt{m:Int}{a:hD}(g:Good m a){s:Stp}(h:rq m a s=true):∃k,ce a s.1 s.2.1=some k/\jA a s.1 s.2.1=k/\(2<=k/\k<=1000000)/\(0<=s.2.1/\s.2.1<m):=by
 obtain⟨d,c,f⟩:=vg h;have b:=(oO g).mp c;obtain⟨k,e,r⟩:=sj g b;exact⟨k,e,by unfold jA;rw[e];rfl,r,(g.adj b).2.1⟩
end Pb
namespace Pb
open L2
section
variable{m:Int}{i:hD}{r:Int}{a:fm}{d:fv}{b j:fm}{e:g8}
theorem LZ{f h:fm}:∀{l:fc},(∀c∈l,f c<=h c)->(l.map f).sum<=(l.map h).sum
 | [],_=>bw _
 | c::l,hl=>by
   rw[aq,aq,aH,aH];have n:=hl c aA;have k:=LZ (l:=l) λx g=>hl x (ap _ g)
   lia
theorem ko{f h:fm}{l:fc}(g:∀c∈l,f c=h c):(l.map f).sum=(l.map h).sum:=by rw[bH g]
theorem D6{f h:fm}{c0:Int}:∀{l:fc},l.Nodup->c0∈l->(∀c∈l,c≠c0->f c=h c)->(l.map f).sum=(l.map h).sum+(f c0-h c0)
 | [],_,hm,_=>by cases hm
 | c::l,nd,hm,hl=>by
   obtain⟨n,k⟩:=bg.mp nd;rw[aq,aq,aH,aH];by_cases z:c=c0
   .subst z;rw[ko (f:=f) (h:=h) (l:=l) λx g=>hl x (ap _ g) λw=>n (w▸g)]
    lia
   .have hm':c0∈l:=by
     rcases aw.mp hm with w|w
     .exact absurd w.symm z
     .exact w
    rw[hl c aA z,D6 k hm' λx g=>hl x (ap _ g)]
    lia
structure Chg(m:Int)(r:Int)(a:fm)(b j:fm)(c0 dc dp:Int):Prop where
 Ι:0<=c0/\c0<m
 nr:c0≠r
 own:j c0=b c0+dc
 up:j (a c0)=b (a c0)+dp
 oth:∀v,0<=v->v<m->v≠c0->v≠a c0->j v=b v
theorem Chg.deep(g:Good m i)(R:ε m i r a d){l w u:Int}(C:Chg m r a b j l w u):∀(n:Nat)(v:Int),m.toNat-d v=n->0<=v->v<m->d l<d v->Ε m i r a d j e v=Ε m i r a d b e v:=by
 intro n
 induction n using Nat.strongRecOn with
 | _ n ih=>
   intro v y h k o;have x:=R.pos C.Ι.1 C.Ι.2 C.nr;rw[eG g R h k,eG g R h k,C.oth v h k (λz=>by rw[z]at o;lia) (λz=>by rw[z]at o;lia)]
   congr 1
   refine ko λc p=>?_;obtain⟨f,s,q⟩:=(bz g R h k).mp p;have t:=R.pos f.1 f.2 s;have dl:=gP R f.1 f.2;rw[q]at t;rw[ih (m.toNat-d c) (by lia) c rfl f.1 f.2 (by lia)]
theorem Chg.at(g:Good m i)(R:ε m i r a d){f k l:Int}(C:Chg m r a b j f k l):Ε m i r a d j e f=Ε m i r a d b e f+k:=by
 rw[eG g R C.Ι.1 C.Ι.2,eG g R C.Ι.1 C.Ι.2,C.own];have:((bQ m i (front r a f) f).map λc=>e c (Ε m i r a d j e c)).sum=((bQ m i (front r a f) f).map λc=>e c (Ε m i r a d b e c)).sum:=by
  refine ko λc q=>?_;obtain⟨h,o,n⟩:=(bz g R C.Ι.1 C.Ι.2).mp q;have p:=R.pos h.1 h.2 o;rw[n]at p;rw[C.deep g R _ c rfl h.1 h.2 (by lia)]
 rw[this]
 lia
theorem Chg.side(g:Good m i)(R:ε m i r a d){l w u:Int}(C:Chg m r a b j l w u){v:Int}(h:0<=v)(k:v<m)(s:d v=d l)(o:v≠l):Ε m i r a d j e v=Ε m i r a d b e v:=by
 have x:=R.pos C.Ι.1 C.Ι.2 C.nr;rw[eG g R h k,eG g R h k,C.oth v h k o (λz=>by rw[z]at s;lia)]
 congr 1
 refine ko λc n=>?_;obtain⟨f,q,p⟩:=(bz g R h k).mp n;have t:=R.pos f.1 f.2 q;rw[p]at t;rw[C.deep g R _ c rfl f.1 f.2 (by lia)]
theorem Chg.ahead(g:Good m i)(R:ε m i r a d){c0 p o:Int}(C:Chg m r a b j c0 p o):Ε m i r a d j e (a c0)=Ε m i r a d b e (a c0)+(o+e c0 (Ε m i r a d b e c0+p)-e c0 (Ε m i r a d b e c0)):=by
 have u:=R.up c0 C.Ι.1 C.Ι.2 C.nr;rw[eG g R u.1.1 u.1.2,eG (held:=b) g R u.1.1 u.1.2,C.up];have:=D6 (c0:=c0) (f:=λc=>e c (Ε m i r a d j e c)) (h:=λc=>e c (Ε m i r a d b e c)) (l:=bQ m i (front r a (a c0)) (a c0)) jQ ((bz g R u.1.1 u.1.2).mpr ⟨C.Ι,C.nr,rfl⟩) λc v n=>by
  obtain⟨k,s,q⟩:=(bz g R u.1.1 u.1.2).mp v;have t:=R.pos k.1 k.2 s;have w:=R.pos C.Ι.1 C.Ι.2 C.nr;rw[q]at t;show e c _=e c _;rw[C.side g R k.1 k.2 (by lia) n]
 rw[this,C.at g R]
 lia
theorem Chg.le(g:Good m i)(R:ε m i r a d)(D:∀v x y,x<=y->e v x<=e v y){k A u:Int}(C:Chg m r a b j k A u)(H:u+e k (Ε m i r a d b e k+A)<=e k (Ε m i r a d b e k)):∀(n:Nat)(v:Int),d k-d v=n->0<=v->v<m->v≠k->Ε m i r a d j e v<=Ε m i r a d b e v:=by
 intro n
 induction n with
 | zero=>
   intro v G o p s;by_cases z:d v=d k
   .exact pE (C.side g R o p z s)
   .exact pE (C.deep g R _ v rfl o p (by lia))
 | succ n ih=>
   intro v G o p s;by_cases z:v=a k
   .rw[z,C.ahead g R]
    lia
   .rw[eG g R o p,eG (held:=b) g R o p,C.oth v o p s z];have:=LZ (f:=λc=>e c (Ε m i r a d j e c)) (h:=λc=>e c (Ε m i r a d b e c)) (l:=bQ m i (front r a v) v) λc B=>by
     obtain⟨q,E,t⟩:=(bz g R o p).mp B;have F:=R.pos q.1 q.2 E;rw[t]at F;exact D c _ _ (ih c (by lia) q.1 q.2 λw=>z (by rw[<-w,t]))
    lia
theorem Chg.eq(g:Good m i)(R:ε m i r a d){f s q:Int}(C:Chg m r a b j f s q)(A:q+e f (Ε m i r a d b e f+s)=e f (Ε m i r a d b e f)):∀(n:Nat)(v:Int),d f-d v=n->0<=v->v<m->v≠f->Ε m i r a d j e v=Ε m i r a d b e v:=by
 intro n
 induction n with
 | zero=>
   intro v y h k o;by_cases z:d v=d f
   .exact C.side g R h k z o
   .exact C.deep g R _ v rfl h k (by lia)
 | succ n ih=>
   intro v y h k o;by_cases z:v=a f
   .rw[z,C.ahead g R]
    lia
   .rw[eG g R h k,eG (held:=b) g R h k,C.oth v h k o z]
    congr 1
    refine ko λc t=>?_;obtain⟨l,u,p⟩:=(bz g R h k).mp t;have x:=R.pos l.1 l.2 u;rw[p]at x;rw[ih c (by lia) l.1 l.2 λw=>z (by rw[<-w,p])]
theorem Cm(g:Good m i)(R:ε m i r a d){c:fc}(z:(c.length:Int)=m){s:Stp}(is:rq m i s=true):(s.1≠r/\a s.1=s.2.1/\Chg m r a (λv=>c.getD v.toNat 0) (λv=>(gR i c s).getD v.toNat 0) s.1 (-(s.2.2*jA i s.1 s.2.1)) s.2.2)\/(s.2.1≠r/\a s.2.1=s.1/\Chg m r a (λv=>c.getD v.toNat 0) (λv=>(gR i c s).getD v.toNat 0) s.2.1 s.2.2 (-(s.2.2*jA i s.1 s.2.1))):=by
 obtain⟨w,u,y⟩:=vg is;have n:=(oO g).mp u;have x:=(g.adj n).2.1;have A:=(g.adj n).2.2;have t:(gR i c s).getD s.1.toNat 0=c.getD s.1.toNat 0 + -(s.2.2*jA i s.1 s.2.1):=by
  unfold gR;rw[kK _ _ _ _ (by rw[b4];lia),ag (by lia),kK _ _ _ _ (by lia),aj rfl]
  lia
 have p:(gR i c s).getD s.2.1.toNat 0=c.getD s.2.1.toNat 0+s.2.2:=by
  unfold gR;rw[kK _ _ _ _ (by rw[b4];lia),aj rfl,kK _ _ _ _ (by lia),ag (by lia)]
 have q:∀v:Int,0<=v->v≠s.1->v≠s.2.1->(gR i c s).getD v.toNat 0=c.getD v.toNat 0:=λv l h f=>by
  unfold gR;rw[kK _ _ _ _ (by rw[b4];lia),ag (by lia),kK _ _ _ _ (by lia),ag (by lia)]
 rcases R.adj n with⟨h,f⟩|⟨h,f⟩
 .exact .inr ⟨h,f,x,h,p,by rw[f];exact t,λv l _ o k=>q v l (by rw[f]at k;exact k) o⟩
 .exact .inl ⟨h,f,w,h,t,by rw[f];exact p,λv l _ o k=>q v l o (by rw[f]at k;exact k)⟩
end
end Pb
namespace L2
open PySem PySem.Spec PyProof.Rows
theorem VY(a:List V){k:Int}(e:0<=k):yX a (some k) none=a.drop k.toNat:=by
 unfold yX;have d:HT.sIx a.length a.length none=a.length:=rfl;have b:HT.sIx a.length 0 (some k)=min k.toNat a.length:=by
  show(if k<0 then(k+(a.length:Int)).toNat else min k.toNat a.length)=_;rw[ag (by lia)]
 rw[d,b,cW (by rw[gA];lia)];by_cases c:k.toNat<=a.length
 .rw[Nat.min_eq_left c]
 .rw[Nat.min_eq_right (by lia),nA (az _),nA (by lia)]
end L2
namespace Pb
open L2 PySem
theorem BX{m:Int}{a:hD}{b:fc}{s:Stp}(h:uj m a b s=true):rq m a s=true/\s.2.2*jA a s.1 s.2.1<=b.getD s.1.toNat 0:=by
 unfold uj at h;rw[bK]at h;exact⟨h.1,bF h.2⟩
theorem Vj{m:Int}{b:hD}(g:Good m b){a:fc}(i:(a.length:Int)=m)(d:∀x∈a,0<=x){s:Stp}(h:uj m b a s=true):∀x∈gR b a s,0<=x:=by
 obtain⟨is,le⟩:=BX h;obtain⟨f,e,j⟩:=vg is;have c:∀x∈a.set s.1.toNat (a.getD s.1.toNat 0-s.2.2*jA b s.1 s.2.1),0<=x:=Qk d (by lia);unfold gR;exact Qk c (by have:=LD c s.2.1.toNat;lia)
section
variable{m:Int}{b:hD}
theorem Aj:∀(l:fc)(i:Nat)(v:Int),i<l.length->(l.set i v).sum=l.sum-l.getD i 0+v
 | [],i,v,h=>by simp at h
 | a::l,0,v,_=>by simp;lia
 | a::l,i+1,v,h=>by
   have c:=Aj l i v (by simpa using h);have e:(a::l).getD (i+1) 0=l.getD i 0:=by simp[List.getD]
   rw[List.set_cons_succ,aH,aH,c,e]
   lia
end
section
variable{m:Int}{d:hD}{r b:Int}{a:fm}{c:fv}
def D2(a:fm)(b:Int):Nat->Int->Bool
 | 0,v=>decide (v=b)
 | n+1,v=>decide (v=b)||D2 a b n (a v)
def ben(a:fm)(c:fv)(b v:Int):Bool:=D2 a b (c v) v
theorem Q8(R:ε m d r a c){v:Int}(f:0<=v)(g:v<m)(e:v≠r):ben a c b v=(decide (v=b)||ben a c b (a v)):=by
 unfold ben;rw[R.pos f g e]
 rfl
def MK(m:Int)(a:fm)(c:fv)(b:Int):List Int:=(bM m.toNat).filter (ben a c b)
theorem Nu:(MK m a c b).Nodup:=(ij _).filter _
theorem Q9{v:Int}:v∈MK m a c b↔(0<=v/\v<m)/\ben a c b v=true:=by
 unfold MK;rw[bx,fh]
 constructor
 .rintro⟨h1,h2⟩;exact⟨⟨h1.1,by lia⟩,h2⟩
 .rintro⟨h1,h2⟩;exact⟨⟨h1.1,by lia⟩,h2⟩
end
end Pb
namespace L2
theorem eZ{A B:TS}{D:Ends}{c:St}{H:Hp}(h:∀N:St->Hp->Prop,(∀a b,B D a b->N a b)->A { D with nx:=N } c H):NH A B D c H:=h (B D) λ_ _ z=>z
end L2
namespace L2
open PySem
theorem j7{K:f3}{a:Addr}{xs:List V}{g:TG}{f:TS}{D:Ends}{b:St}{H:Hp}(d:Nat->St->Hp->Prop)(k:d 0 b H)(l:∀i b H,i<=xs.length->d i b H->ν K H a xs)(o:∀(i:Nat) (x:V) (b:St) (H:Hp) (N B:St->Hp->Prop),(∀b H,(g x b H λc h=>f { D with nx:=N,ct:=N,bk:=D.nx } c h)->B b H)->(∀e j,d (i+1) e j->N e j)->xs[i]?=some x->d i b H->B b H)(m:∀(B:St->Hp->Prop) b H,(∀b H,D.nx b H->B b H)->d xs.length b H->B b H):uf (Itl K a) D g f b H:=vw d k l (λi x b H N n q p=>o i x b H N (λb H=>g x b H λc h=>f { D with nx:=N,ct:=N,bk:=D.nx } c h) (λ_ _ z=>z) n q p) λb H p=>m (λb H=>D.nx b H) b H (λ_ _ z=>z) p
theorem Oq{lo:Int}{n:Nat}{g:TG}{e:TS}{D:Ends}{a:St}{H:Hp}(d:Nat->St->Hp->Prop)(k:d 0 a H)(o:∀(i:Nat) (a:St) (H:Hp) (N B:St->Hp->Prop),(∀a H,(g (.int (lo+i)) a H λb f=>e { D with nx:=N,ct:=N,bk:=D.nx } b f)->B a H)->(∀c h,d (i+1) c h->N c h)->i<n->d i a H->B a H)(l:∀(B:St->Hp->Prop) a H,(∀a H,D.nx a H->B a H)->d n a H->B a H):uf (Itr lo n) D g e a H:=ux d k (λi a H N m j p=>o i a H N (λa H=>g (.int (lo+i)) a H λb f=>e { D with nx:=N,ct:=N,bk:=D.nx } b f) (λ_ _ z=>z) m j p) λa H p=>l (λa H=>D.nx a H) a H (λ_ _ z=>z) p
theorem L7{c:TT}{i:TS}{D:Ends}{d:St}{H:Hp}(W:Nat->St->Hp->Prop)(k:Nat)(l:W k d H)(o:∀(n:Nat) (d:St) (H:Hp) (N:St->Hp->Prop) (B:Nat->St->Hp->Prop),(∀n d H,(c d H λb g=>if b=true then ∃N:St->Hp->Prop,(∀a e,N a e->∃f,f<n/\W f a e)/\i { D with nx:=N,ct:=N,bk:=D.nx } d g else D.nx d g)->B n d H)->(∀j a e,j<n->W j a e->N a e)->(∀a e,N a e->∃f,f<n/\W f a e)->W n d H->B n d H):IK c i D d H:=wW W k l λn d H N m h w=>o n d H N (λn d H=>c d H λb g=>if b=true then ∃N:St->Hp->Prop,(∀a e,N a e->∃f,f<n/\W f a e)/\i { D with nx:=N,ct:=N,bk:=D.nx } d g else D.nx d g) (λ_ _ _ z=>z) m h w
theorem an4{b c d a:Prop}(f:b)(g:c)(e:d)(h:a):b/\c/\d/\a:=⟨f,g,e,h⟩
theorem an6{b c e a f d:Prop}(h:b)(i:c)(g:e)(l:a)(k:f)(j:d):b/\c/\e/\a/\f/\d:=⟨h,i,g,l,k,j⟩
theorem an7{b c f a g e d:Prop}(j:b)(k:c)(i:f)(n:a)(m:g)(l:e)(h:d):b/\c/\f/\a/\g/\e/\d:=⟨j,k,i,n,m,l,h⟩
end L2
namespace Pb
open L2 PySem
section
variable{m:Int}{e:hD}{r b:Int}{a:fm}{d:fv}
theorem Lr:∀(n:Nat)(v:Int),D2 a b n v=decide (b∈n9 a n v)
 | 0,v=>by
   show decide (v=b)=decide (b∈[v]);exact decide_eq_decide.mpr ⟨λz=>by rw[z];exact aA,λz=>(aK.mp z).symm⟩
 | n+1,v=>by
   show(decide (v=b)||D2 a b n (a v))=decide (b∈v::n9 a n (a v));rw[Lr n (a v)];by_cases c:v=b
   .rw[bq c,Bool.true_or,bq (by rw[c];exact aA)]
   .rw[b8 c,oY];exact decide_eq_decide.mpr ⟨λz=>ap _ z,λz=>by
     rcases aw.mp z with z|z
     .exact absurd z.symm c
     .exact z⟩
end
section
variable{m:Int}{j:hD}{r b:Int}{a:fm}{d:fv}
theorem Uz:∀(k:Nat)(x:Int),up a (k+1) x=up a k (a x)
 | 0,_=>rfl
 | k+1,x=>by show a (up a (k+1) x)=a (up a k (a x));rw[Uz k x]
theorem AM:∀(n k:Nat)(x:Int),k<=n->up a k x∈n9 a n x
 | 0,0,x,_=>aA
 | n+1,0,x,_=>aA
 | n+1,k+1,x,h=>by
   rw[Uz];exact ap _ (AM n k (a x) (by lia))
theorem Lo{f:Int->List Int}:∀{l:fc}{k:Nat}{p:Int},(l.flatMap f)[k]?=some p->∃u∈l,∃e rest,(f u)[e]?=some p/\(l.flatMap f).drop k=(f u).drop e++rest
 | [],k,p,h=>by simp at h
 | u::l,k,p,h=>by
   rw[c9]at h ⊢;by_cases c:k<(f u).length
   .rw[dH c]at h;exact⟨u,aA,k,l.flatMap f,h,kt (jG c)⟩
   .rw[dE (by lia)]at h;obtain⟨w,i,e,rest,n,g⟩:=Lo h;refine⟨w,ap _ i,e,rest,n,?_⟩;rw[<-g,List.drop_append,m5 (by lia),iJ]
theorem RI(g:Good m j)(R:ε m j r a d):∀(n:Nat)(v:Int),m.toNat-1-d v=n->0<=v->v<m->∀(k:Nat)(p:Int),(cI m j r a d v)[k]?=some p->∃rest,(cI m j r a d v).drop k=cI m j r a d p++rest:=by
 intro n
 induction n with
 | zero=>
   intro v o f l k p h;have e:cI m j r a d v=[v]:=by unfold cI;rw[o];rfl
   cases k with
   | zero=>
     have:p=v:=(by rw[e]at h;exact(bu h).symm);rw[this];exact⟨[],by rw[b7];rfl⟩
   | succ k=>rw[e]at h;simp at h
 | succ n ih=>
   intro v o f l k p h;have e:=jv g R f l;cases k with
   | zero=>
     have:p=v:=(by rw[e]at h;exact(bu h).symm);rw[this];exact⟨[],by rw[b7];rfl⟩
   | succ k=>
     rw[e,ji]at h;obtain⟨u,s,z,rest,w,x⟩:=Lo h;obtain⟨c,t,up⟩:=(bz g R f l).mp s;have q:=R.pos c.1 c.2 t;rw[up]at q;have dl:=gP R c.1 c.2;obtain⟨i,y⟩:=ih u (by lia) c.1 c.2 z p w;exact⟨i++rest,by rw[e,oF,x,y,cU]⟩
theorem xi(g:Good m j)(R:ε m j r a d){v:Int}(c:0<=v)(e:v<m):v∈cI m j r a d v:=by
 rw[jv g R c e];exact aA
theorem zU(g:Good m j)(R:ε m j r a d){p:Int}(f:0<=p)(l:p<m)(x:Int):x∈cI m j r a d p↔(0<=x/\x<m)/\ben a d p x=true:=by
 constructor
 .intro h;obtain⟨c,k,v,q⟩:=(uD g R _ p f l).2 x h;refine⟨c,?_⟩;unfold ben;rw[Lr];refine bq ?_;rw[<-q];exact AM _ _ _ (by lia)
 .rintro⟨c,h⟩;generalize s:d x=n
  induction n generalizing x with
  | zero=>
    by_cases z:x=r
    .subst z;have:p=x:=by
      unfold ben at h;rw[R.root]at h;exact(bF h).symm
     rw[this];exact xi g R c.1 c.2
    .have:=R.pos c.1 c.2 z
     lia
  | succ n ih=>
    have z:x≠r:=λz=>by rw[z,R.root]at s;lia
    have u:=R.up x c.1 c.2 z;rw[Q8 R c.1 c.2 z]at h;by_cases y:x=p
    .rw[y];exact xi g R f l
    .rw[b8 y,oY]at h;have t:=ih (a x) u.1 h (by lia);obtain⟨k,o⟩:=cJ t;obtain⟨rest,e⟩:=RI g R _ p rfl f l k _ o;refine cL (i:=k) ?_;rw[e,jv g R u.1.1 u.1.2];refine bC _ (ap _ (d9.mpr ⟨x,(bz g R u.1.1 u.1.2).mpr ⟨c,z,rfl⟩,xi g R c.1 c.2⟩))
theorem SG(g:Good m j)(R:ε m j r a d){p:Int}(c:0<=p)(e:p<m):(cI m j r a d p).Perm (MK m a d p):=iP (uD g R _ p c e).1 Nu λx=>by rw[zU g R c e,Q9]
end
end Pb
namespace L2
open PySem
def ZA(_ j:Int):Prop:=0<j/\j.natAbs.log2<9000
theorem RM{X:Cx}:Rw X (binaryOp .FloorDiv) (rI ZA λi j=>.int (i/j)):=opI λi j _ _ _ _ _ a q=>by
 have b:(0:Int)<j:=a.1;exact PyProof.Rows.floordiv_int (by lia) (by rw[iU i (by lia)];exact q) (.inl (PyProof.noPylong_of_log2 a.2))
end L2
namespace Pb
open PySem L2
def ned(b:hD)(a:fm)(v x:Int):Int:=x*(ce b (a v) v).getD 1
def vPr(r:Int)(a:fm)(v:Int):List V:=[.int v,front r a v]
abbrev Ϙ(H:Hp)(r:Int)(a:fm):List Addr->List Int->Prop:=Paired λq v=>H q=some (.tup (vPr r a v))
theorem Ϙ.same{H b:Hp}{r:Int}{a:fm}{c:gf}{d:fc}(e:δ H b)(h:Ϙ H r a c d):Ϙ b r a c d:=Paired.imp' (λq v x=>e q _ x) h
theorem Ϙ.get{H:Hp}{r:Int}{c:fm}:∀{d:gf}{f:fc}{i:Nat}{x:V},Ϙ H r c d f->(d.map V.ref)[i]?=some x->∃p v,x=.ref p/\d[i]?=some p/\f[i]?=some v/\H p=some (.tup (vPr r c v))
 | _,_,i,x,.nil,e=>by simp at e
 | _,_,0,x,.cons (a:=p) (b:=r) h hs,e=>⟨p,r,by simpa using e.symm,by simp,by simp,h⟩
 | a::l1,_,i+1,x,.cons h hs,e=>by
   have g:(List.map V.ref l1)[i]?=some x:=by simpa using e
   obtain⟨p,r,k,j,m,l⟩:=Ϙ.get hs g;exact⟨p,r,k,by simpa using j,by simpa using m,l⟩
theorem Ϙ.snoc{H:Hp}{r:Int}{a:fm}{q:Addr}{v:Int}(e:H q=some (.tup (vPr r a v))):∀{b:gf}{c:fc},Ϙ H r a b c->Ϙ H r a (b++[q]) (c++[v])
 | _,_,.nil=>.cons e .nil
 | _,_,.cons x xs=>.cons x (Ϙ.snoc e xs)
end Pb
set_option exponentiation.threshold 5000
namespace Pb
open L2 PySem
section
variable{m:Int}{q:hD}{r:Int}{d:fm}{o:fv}
def foU(C:g8)(m:Int)(q:hD)(r:Int)(d:fm)(p:fm)(A:g8):Nat->Int->Int
 | 0,v=>p v
 | n+1,v=>((bQ m q (front r d v) v).map λc=>A c (foU C m q r d p A n c)).foldl C (p v)
def fo(C:g8)(m:Int)(q:hD)(r:Int)(d:fm)(o:fv)(p:fm)(A:g8)(v:Int):Int:=foU C m q r d p A (m.toNat-1-o v) v
variable{C:g8}{p:fm}{A:g8}
theorem sG(g:Good m q)(R:ε m q r d o){v:Int}(i:0<=v)(h:v<m):fo C m q r d o p A v=((bQ m q (front r d v) v).map λc=>A c (fo C m q r d o p A c)).foldl C (p v):=by
 have f:∀u∈bQ m q (front r d v) v,o u=o v+1/\o u+1<=m.toNat:=λu a=>by
  obtain⟨b,k,j⟩:=(bz g R i h).mp a;have:=R.pos b.1 b.2 k;rw[j]at this;exact⟨this,gP R b.1 b.2⟩
 unfold fo;cases e:m.toNat-1-o v with
 | zero=>
   have:bQ m q (front r d v) v=[]:=hV.mpr λu a=>by
    have:=f u a
    lia
   rw[this]
   rfl
 | succ n=>
   show List.foldl C (p v) _=_;rw[bH λu a=>show A u (foU C m q r d p A n u)=A u (foU C m q r d p A (m.toNat-1-o u) u) by rw[show m.toNat-1-o u=n by have:=f u a;lia]]
def B7(C:g8):Prop:=∀a b c,C (C a b) c=C (C a c) b
theorem P1(b:B7 C){l c:fc}(h:l.Perm c):∀a,l.foldl C a=c.foldl C a:=by
 induction h with
 | nil=>exact λ_=>rfl
 | cons x _ ih=>exact λa=>ih _
 | swap x y l=>intro a;show List.foldl C (C (C a y) x) l=List.foldl C (C (C a x) y) l;rw[b]
 | trans _ _ h1 h2=>exact λa=>(h1 a).trans (h2 a)
theorem LO(b:B7 C):∀(l:fc)(a x:Int),l.foldl C (C a x)=C (l.foldl C a) x
 | [],a,x=>rfl
 | y::l,a,x=>by show l.foldl C (C (C a x) y)=C (l.foldl C (C a y)) x;rw[b,LO b l]
def Ah(C:g8)(d:fm)(A:g8)(a:fc)(v:Int):List Int:=a.set (d v).toNat (C (a.getD (d v).toNat 0) (A v (a.getD v.toNat 0)))
structure aae(C:g8)(m:Int)(q:hD)(r:Int)(d:fm)(o:fv)(p:fm)(A:g8)(t cs:fc):Prop where
 len:(cs.length:Int)=m
 val:∀v,0<=v->v<m->cs.getD v.toNat 0=((t.filter λc=>decide (d c=v)).map λc=>A c (fo C m q r d o p A c)).foldl C (p v)
theorem aae.nil{a:fc}(h:(a.length:Int)=m)(e:∀v,0<=v->v<m->a.getD v.toNat 0=p v):aae C m q r d o p A [] a:=⟨h,λv b c=>e v b c⟩
theorem aae.full(a:B7 C)(g:Good m q)(R:ε m q r d o){t e:fc}(s:aae C m q r d o p A t e)(i:t.Nodup)(h:∀x∈t,(0<=x/\x<m)/\x≠r){v:Int}(b:0<=v)(c:v<m)(f:∀k,0<=k->k<m->k≠r->d k=v->k∈t):e.getD v.toNat 0=fo C m q r d o p A v:=by
 rw[s.val v b c,sG g R b c,P1 a ((AL g R i h b c f).map _)]
theorem aae.step(b:B7 C)(g:Good m q)(R:ε m q r d o){t a:fc}(s:aae C m q r d o p A t a){v:Int}(h:0<=v)(i:v<m)(hr:v≠r)(e:a.getD v.toNat 0=fo C m q r d o p A v):aae C m q r d o p A (v::t) (Ah C d A a v) where
 len:=by unfold Ah;rw[b4];exact s.len
 val:=λu u0 u1=>by
  have k:=(R.up v h i hr).1;have j:=s.len;have f:=s.val u u0 u1;unfold Ah;rw[e];by_cases c:d v=u
  .have hl:u.toNat<a.length:=(by lia);rw[eV (by simpa using c),aq,g0,LO b,<-f,c];simp[List.getD,hl]
  .rw[eW (by simpa using c),<-f];have:(d v).toNat≠u.toNat:=(by lia);simp[List.getD,cT this]
theorem Order.cut(R:ε m q r d o){t:fc}(O:Order m r d t){i:Nat}{v:Int}(a:t.reverse[i]?=some v):((0<=v/\v<m)/\v≠r)/\t.drop (t.length-(i+1))=v::t.drop (t.length-i)/\(t.drop (t.length-i)).Nodup/\(∀x∈t.drop (t.length-i),(0<=x/\x<m)/\x≠r)/\∀k,0<=k->k<m->k≠r->d k=v->k∈t.drop (t.length-i):=by
 have D:i<t.length:=by
  have:=(aD.mp a).1
  rwa [aV]at this
 rw[cw D]at a;generalize H:t.length-1-i=j at a;have F:t.length-i=j+1:=by lia
 have f:t.length-(i+1)=j:=by lia
 rw[F,f];have c:j<t.length:=by lia
 have E:v∈t:=aO a;have l:=O.places v E;have u:t.drop j=v::t.drop (j+1):=by
  rw[dy c];rw[ay c]at a;cases a
  rfl
 have h:t=t.take j++v::t.drop (j+1):=by rw[<-u,cP]
 have b:=(bg.mp O.nd).2;have e:=b;rw[h]at e;have B:v∉t.take j:=λz=>(dU.mp e).2.2 v z v aA rfl;refine⟨l,u,b.sublist (List.drop_sublist _ _),λx G=>O.places x (cL G),λk s y n g=>?_⟩;rcases O.all k s y with z|z
 .exact absurd z n
 .rw[h]at z;rcases ba.mp z with z|z
  .have af:=O.af;rw[h]at af;rcases af.up k z with w|w
   .rw[g]at w;exact absurd (aK.mp w) l.2
   .rw[g]at w;exact absurd w B
  .rcases aw.mp z with z|z
   .subst z;exact absurd g (R.ne s y n)
   .exact z
theorem Order.ahH(b:B7 C)(g:Good m q)(R:ε m q r d o){t c:fc}(O:Order m r d t){i:Nat}{v:Int}(s:aae C m q r d o p A (t.drop (t.length-i)) c)(l:t.reverse[i]?=some v):((0<=v/\v<m)/\v≠r)/\c.getD v.toNat 0=fo C m q r d o p A v/\aae C m q r d o p A (t.drop (t.length-(i+1))) (Ah C d A c v):=by
 obtain⟨a,f,k,j,h⟩:=O.cut R l;have e:=s.full b g R k j a.1.1 a.1.2 h;exact⟨a,e,by rw[f];exact s.step b g R a.1.1 a.1.2 a.2 e⟩
def foL(C:g8)(m:Int)(q:hD)(r:Int)(d:fm)(o:fv)(p:fm)(A:g8):List Int:=(bM m.toNat).map (fo C m q r d o p A)
theorem gZ{v:Int}(a:0<=v)(b:v<m):(foL C m q r d o p A).getD v.toNat 0=fo C m q r d o p A v:=by
 unfold foL;rw[List.getD,aJ,fy (by lia),bA a]
 rfl
theorem qK:(foL C m q r d o p A).length=m.toNat:=by unfold foL;rw[ah,cq]
theorem Order.doneF(a:B7 C)(g:Good m q)(R:ε m q r d o){t b:fc}(O:Order m r d t)(s:aae C m q r d o p A t b):b=foL C m q r d o p A:=by
 have l:=s.len;refine fP λi=>?_;by_cases h:i<m.toNat
 .have hc:i<b.length:=by lia
  have e:=s.full a g R (bg.mp O.nd).2 O.places (v:=(i:Int)) (by lia) (by lia) λk f c j n=>(O.all k f c).resolve_left j;unfold foL;rw[aJ,fy h];rw[bR,List.getD,ay hc]at e;rw[ay hc];exact congrArg some e
 .rw[bO (by lia),bO (by rw[qK];lia)]
def mx(i j:Int):Int:=if j>i then j else i
theorem Lg:B7 mx:=λa b c=>by
 have h:∀x y,mx x y=max x y:=λx y=>by unfold mx;lia
 rw[h,h,h,h]
 lia
def bor(q:hD)(d:fm)(v x:Int):Int:=x*(ce q v (d v)).getD 1
abbrev υ(m:Int)(q:hD)(r:Int)(d:fm)(o:fv):Int->Int:=fo mx m q r d o (λ_=>1) (bor q d)
abbrev dP(m:Int)(q:hD)(r:Int)(d:fm)(o:fv):List Int:=foL mx m q r d o (λ_=>1) (bor q d)
theorem zP{B:Int}:∀(l:fc)(a:Int),a<=B->(∀x∈l,x<=B)->a<=l.foldl mx a/\l.foldl mx a<=B/\∀x∈l,x<=l.foldl mx a
 | [],a,h,_=>⟨bw _,h,λx b=>by cases b⟩
 | y::l,a,h,hl=>by
   have j:=hl y aA;have c:a<=mx a y/\y<=mx a y/\mx a y<=B:=by unfold mx;split<;>lia
   obtain⟨f,g,i⟩:=zP l (mx a y) c.2.2 λx b=>hl x (ap _ b);refine⟨bW c.1 f,g,λx b=>?_⟩;rcases aw.mp b with e|e
   .rw[e];exact bW c.2.1 f
   .exact i x e
theorem CA(g:Good m q)(R:ε m q r d o):∀(n:Nat)(v:Int),0<=v->v<m->1<=foU mx m q r d (λ_=>1) (bor q d) n v/\foU mx m q r d (λ_=>1) (bor q d) n v<=1000000^n
 | 0,v,_,_=>⟨bw _,bw _⟩
 | n+1,v,h0,h1=>by
   have z:(1:Int)<=1000000^n:=p8 (by decide);have j:(1000000:Int)^(n+1)=1000000^n*1000000:=Int.pow_succ ..;show 1<=List.foldl mx 1 _/\List.foldl mx 1 _<=_;obtain⟨f,i,_⟩:=zP (B:=1000000^(n+1)) ((bQ m q (front r d v) v).map λc=>bor q d c (foU mx m q r d (λ_=>1) (bor q d) n c)) 1 (by lia) λx s=>by
    obtain⟨c,e,rfl⟩:=aU.mp s;obtain⟨a,h,u⟩:=(bz g R h0 h1).mp e;obtain⟨k,b,w,t⟩:=kC g R a.1 a.2 h;obtain⟨y,l⟩:=CA g R n c a.1 a.2;unfold bor;rw[b,j];show _*k<=_;exact fW l t (by lia) (by lia)
   exact⟨f,i⟩
theorem iY(g:Good m q)(R:ε m q r d o){v:Int}(f:0<=v)(e:v<m):1<=υ m q r d o v/\υ m q r d o v<=2^480:=by
 obtain⟨a,b⟩:=CA g R (m.toNat-1-o v) v f e;refine⟨a,bW b ?_⟩;have Ζ:=g.Ζ;have:(1000000:Int)^(m.toNat-1-o v)<=1000000^24:=by
  have c:m.toNat-1-o v<=24:=by lia
  have h:=Int.ofNat_le.mpr (cj (show 0<1000000 by decide) c);rw[Int.natCast_pow,Int.natCast_pow]at h;exact h
 exact bW this (by decide +kernel)
theorem yS(g:Good m q)(R:ε m q r d o):∀x∈dP m q r d o,x.natAbs<2^4000:=λx c=>by
 obtain⟨v,i,rfl⟩:=aU.mp c;obtain⟨a,j⟩:=fh.mp i;obtain⟨e,b⟩:=iY g R a (show v<m by lia);have h:((fo mx m q r d o (λ_=>1) (bor q d) v).natAbs:Int)<=2^480:=by rw[Int.natAbs_of_nonneg (bW (by decide) e)];exact b
 have f:(fo mx m q r d o (λ_=>1) (bor q d) v).natAbs<=2^480:=by exact_mod_cast h
 exact gQ f (nD (by decide) (by decide))
theorem Dy{w:Int}(c:-(10^60)<=w)(b:w<=10^60):(w-1).natAbs<2^4000:=by
 have a:(w-1).natAbs<=10^60+1:=by lia
 exact gQ a (aZ (show 10^60+1<2^200 by decide +kernel) (cj (by decide) (by decide)))
def slk(q:hD)(d:fm)(a:fc)(v:Int):Int:=a.getD v.toNat 0*((ce q v (d v)).getD 1-1)
def lE(m:Int)(q:hD)(r:Int)(d:fm)(a:fc)(w:Int):Int:=a.getD r.toNat 0*(w-1)+(((bM m.toNat).filter λv=>decide (v≠r)).map (slk q d a)).sum
theorem Order.sums{t:fc}(O:Order m r d t)(f:fm):(t.map f).sum=(((bM m.toNat).filter λv=>decide (v≠r)).map f).sum:=by
 refine sx ((iP (bg.mp O.nd).2 ((ij _).filter _) λx=>?_).map f);rw[bx,fh,bT];refine⟨λh=>⟨⟨(O.Ι x h).1,?_⟩,O.ne h⟩,λh=>(O.all x h.1.1 ?_).resolve_left h.2⟩
 .have:=(O.Ι x h).2
  lia
 .have:=h.1.2
  lia
theorem Jg{f:fm}{l:fc}{i:Nat}{v:Int}(h:l[i]?=some v):((l.take (i+1)).map f).sum=((l.take i).map f).sum+f v:=by
 rw[bI,h,Option.toList_some,aI,fB];simp
structure Slk(m:Int)(q:hD)(d:fm)(t cs:fc):Prop where
 len:(cs.length:Int)=m
 pos:∀v,0<=v->v<m->1<=cs.getD v.toNat 0
 std:∀c∈t,cs.getD c.toNat 0*(ce q c (d c)).getD 1<=cs.getD (d c).toNat 0
theorem UJ{cs:fc}{i:Nat}(h:i<cs.length):cs.getD i 0∈cs:=by
 rw[List.getD,ay h];exact eT h
end
section
variable{m:Int}{j:hD}{r:Int}{par:fm}{dep:fv}
def tup(j:hD)(par:fm)(v:Int):Int:=(ce j v (par v)).getD 1
structure Bea(m:Int)(j:hD)(r:Int)(par:fm)(dep:fv)(ch:Int->Option Int):Prop where
 no:∀v,0<=v->v<m->ch v=none->bQ m j (front r par v) v=[]
 hv:∀v b,0<=v->v<m->ch v=some b->b∈bQ m j (front r par v) v/\υ m j r par dep b*tup j par b=υ m j r par dep v
theorem iW(g:Good m j)(R:ε m j r par dep){v:Int}(d:0<=v)(c:v<m)(a:v≠r):2<=tup j par v/\tup j par v<=1000000:=by
 obtain⟨k,b,f,e⟩:=kC g R d c a;unfold tup;rw[b];exact⟨f,e⟩
theorem FB:∀(l:fc)(a:Int),l.foldl mx a=a\/l.foldl mx a∈l
 | [],a=>.inl rfl
 | y::l,a=>by
   show l.foldl mx (mx a y)=a\/l.foldl mx (mx a y)∈y::l;rcases FB l (mx a y)with h|h
   .rw[h];unfold mx;by_cases c:y>a
    .rw[aj c];exact .inr aA
    .rw[ag c];exact .inl rfl
   .exact .inr (ap _ h)
theorem Fh(g:Good m j)(R:ε m j r par dep){v:Int}(k:0<=v)(o:v<m)(q:bQ m j (front r par v) v≠[]):∃c∈bQ m j (front r par v) v,υ m j r par dep c*tup j par c=υ m j r par dep v:=by
 have e:υ m j r par dep v=((bQ m j (front r par v) v).map λc=>bor j par c (υ m j r par dep c)).foldl mx 1:=sG g R k o;have a:=FB ((bQ m j (front r par v) v).map λc=>bor j par c (υ m j r par dep c)) 1;rw[<-e]at a;rcases a with h|h
 .exfalso
  obtain⟨c,l,s⟩:=List.exists_cons_of_ne_nil q;have f:c∈bQ m j (front r par v) v:=by rw[s];exact aA
  obtain⟨b,u,C⟩:=(bz g R k o).mp f;have n:=iW g R b.1 b.2 u;have p:=iY g R b.1 b.2;have w:∀x∈(bQ m j (front r par v) v).map λc=>bor j par c (υ m j r par dep c),x<=2^480*1000000:=λx A=>by
   obtain⟨d,y,rfl⟩:=aU.mp A;obtain⟨i,t,D⟩:=(bz g R k o).mp y;have n:=iW g R i.1 i.2 t;have p:=iY g R i.1 i.2;show _*tup j par d<=_;exact fW p.2 n.2 (by lia) (by decide +kernel)
  obtain⟨_,_,z⟩:=zP (B:=2^480*1000000) ((bQ m j (front r par v) v).map λc=>bor j par c (υ m j r par dep c)) 1 (by decide +kernel) w;have:υ m j r par dep c*tup j par c<=_:=z _ (aU.mpr ⟨c,f,rfl⟩);rw[<-e,h]at this;have E:(1:Int)*2<=υ m j r par dep c*tup j par c:=fW p.1 n.1 (by decide) (by lia)
  lia
 .obtain⟨c,f,ec⟩:=aU.mp h;exact⟨c,f,ec⟩
def chV(o:Option Int):V:=match o with|none=>.ο|some b=>.int b
def chL(m:Int)(ch:Int->Option Int):List V:=(bM m.toNat).map λv=>chV (ch v)
theorem zZ{ch:Int->Option Int}{v:Int}(a:0<=v)(b:v<m):Ϧ (chL m ch) v=some (chV (ch v)):=by
 refine dj a ?_;unfold chL;rw[aJ,fy (by lia),bA a]
 rfl
theorem VB{ch:Int->Option Int}{v b:Int}(d:0<=v)(a:v<m):(chL m ch).set v.toNat (.int b)=chL m λx=>if x=v then some b else ch x:=by
 refine fP λi=>?_;unfold chL;by_cases c:i<m.toNat
 .rw[aJ,fy c];by_cases z:v.toNat=i
  .rw[<-z,da (by rw[ah,cq];lia)];show _=some (chV (if((v.toNat:Nat):Int)=v then some b else _));rw[aj (by lia)]
   rfl
  .rw[cT z,aJ,fy c];show some (chV (ch _))=some (chV (if((i:Nat):Int)=v then some b else _));rw[ag (by lia)]
 .rw[bO (by rw[b4,ah,cq];lia),bO (by rw[ah,cq];lia)]
def As(m:Int)(j:hD)(r:Int)(par:fm)(dep:fv)(t:fc)(v:Int):Option Int:=(t.filter λb=>decide (par b=v/\υ m j r par dep b*tup j par b=υ m j r par dep v)).getLast?
theorem P7{t:fc}{v:Int}(h:υ m j r par dep v*tup j par v=υ m j r par dep (par v)):As m j r par dep (t++[v])=λx=>if x=par v then some v else As m j r par dep t x:=by
 funext x
 unfold As;rw[cX];by_cases c:x=par v
 .subst c;rw[aj rfl,eV (by simpa using h),gW,List.getLast?_append]
  rfl
 .rw[ag c,eW (by simp;intro z;exact absurd z.symm c),gW,b7]
theorem OL{t:fc}{v:Int}(h:¬υ m j r par dep v*tup j par v=υ m j r par dep (par v)):As m j r par dep (t++[v])=As m j r par dep t:=by
 funext x
 unfold As;rw[cX,eW (by simp;intro z;rw[<-z];exact h),gW,b7]
theorem Qt(g:Good m j)(R:ε m j r par dep){t:fc}(O:Order m r par t):Bea m j r par dep (As m j r par dep t) where
 no:=λv d f e=>by
  apply Classical.byContradiction;intro z;obtain⟨c,i,l⟩:=Fh g R d f z;obtain⟨c1,c2,k⟩:=(bz g R d f).mp i;have a:c∈t.filter λb=>decide (par b=v/\υ m j r par dep b*tup j par b=υ m j r par dep v):=bx.mpr ⟨(O.all c c1.1 c1.2).resolve_left c2,bq ⟨k,l⟩⟩;unfold As at e;rw[List.getLast?_eq_none_iff]at e;rw[e]at a;cases a
 hv:=λv b d f e=>by
  have a:=List.mem_of_getLast? e;obtain⟨h,p⟩:=bx.mp a;obtain⟨o,n⟩:=bF p;exact⟨(bz g R d f).mpr ⟨O.Ι b h,O.ne h,o⟩,n⟩
structure Cnt(m:Int)(j:hD)(r:Int)(par:fm)(ch:Int->Option Int)(w:Int)(p:fm):Prop where
 rt:p r=w-1
 up:∀v,0<=v->v<m->v≠r->p v=((if ch (par v)=some v then p (par v)else 0)+1)*tup j par v-1
structure Soc(m:Int)(j:hD)(r:Int)(par:fm)(ch:Int->Option Int)(w:Int)(t cs:fc):Prop where
 len:(cs.length:Int)=m
 rt:cs.getD r.toNat 0=w-1
 up:∀v∈t,cs.getD v.toNat 0=((if ch (par v)=some v then cs.getD (par v).toNat 0 else 0)+1)*tup j par v-1
theorem Soc.step(R:ε m j r par dep){ch:Int->Option Int}{w:Int}{a f:fc}(O:Order m r par a)(C:0<=r){i:Nat}{v y:Int}(S:Soc m j r par ch w (a.take i) f)(n:a[i]?=some v)(D:y=((if ch (par v)=some v then f.getD (par v).toNat 0 else 0)+1)*tup j par v-1):Soc m j r par ch w (a.take (i+1)) (f.set v.toNat y):=by
 have B:=S.len;have t:=aO n;have E:=O.Ι v t;have o:=O.ne t;have G:=(aD.mp n).1;have l:=(bg.mp O.nd).2;have A:a=a.take (i+1)++a.drop (i+1):=(cP _ _).symm;have k:a.take (i+1)=a.take i++[v]:=by rw[bI,n];rfl
 have s:v∉a.take i:=λz=>by
  have nd:=l;rw[A,k]at nd;exact(dU.mp (dU.mp nd).1).2.2 v z v (aK.mpr rfl) rfl
 have d:∀u,0<=u->u≠v->(f.set v.toNat y).getD u.toNat 0=f.getD u.toNat 0:=λu H F=>by rw[kK _ _ _ _ (by lia),ag (by lia)]
 have b:∀u∈a.take (i+1),par u≠v:=λu c z=>by
  have af:=O.af;rw[A]at af;rcases af.up u c with x|x
  .exact o (z▸aK.mp x)
  .rw[z,k]at x;have h:=(lV (i+1) a).subset c;have e:=O.Ι u h;have ne:=R.ne e.1 e.2 (O.ne h);rcases ba.mp (k▸c)with q|q
   .-- u acp b of v,so its place b is not v
    have p:a=a.take i++a.drop i:=(cP _ _).symm;have g:=O.af;rw[p]at g;rcases g.up u q with w|w
    .exact o (z▸aK.mp w)
    .exact s (z▸w)
   .rw[aK.mp q]at z ne;exact ne z
 refine⟨by rw[b4];exact B,by rw[d r C (Ne.symm o)];exact S.rt,λu c=>?_⟩;have h:=(lV (i+1) a).subset c;have e:=O.Ι u h;have up:=R.up u e.1 e.2 (O.ne h);rw[d (par u) up.1.1 (b u c)];rcases ba.mp (k▸c)with q|q
 .rw[d u e.1 (λz=>s (z▸q))];exact S.up u q
 .rw[aK.mp q,kK _ _ _ _ (by lia),aj rfl];exact D
theorem Soc.done{ch:Int->Option Int}{w:Int}{a b:fc}(O:Order m r par a)(S:Soc m j r par ch w a b):Cnt m j r par ch w (λv=>b.getD v.toNat 0):=⟨S.rt,λv d e c=>S.up v ((O.all v d e).resolve_left c)⟩
def mP(ch:Int->Option Int)(p:fm)(v:Int):Int:=if ch v=none then p v else 0
variable{ch:Int->Option Int}{w:Int}{p:fm}
theorem Fa{x k:Int}(a:2<=k):((x+1)*k-1)/k=x:=by
 rw[show(x+1)*k-1=(k-1)+x*k by rw[dW];lia,fC _ _ (by lia),eA (by lia) (by lia),cM]
theorem Fz(g:Good m j)(R:ε m j r par dep)(B:Bea m j r par dep ch){v:Int}(d:0<=v)(i:v<m)(f:fm)(c:Int):((bQ m j (front r par v) v).map λu=>if ch v=some u then f u else 0).sum=match ch v with|some b=>f b|none=>0:=by
 cases e:ch v with
 | none=>
   rw[B.no v d i e]
   rfl
 | some b=>
   obtain⟨n,_⟩:=B.hv v b d i e;rw[D6 (h:=λ_=>0) (c0:=b) jQ n λu _ k=>ag (by intro z;cases z;exact k rfl)];rw[aj rfl];have:∀l:List Int,(l.map λ_=>(0:Int)).sum=0:=λl=>by
    induction l with
    | nil=>rfl
    | cons a l ih=>rw[aq,aH,ih];rfl
   rw[this];show _=f b
   lia
theorem Cnt.nn(g:Good m j)(R:ε m j r par dep)(N:Cnt m j r par ch w p)(b:1<=w)(d:0<=r)(c:r<m):∀(n:Nat)(v:Int),dep v=n->0<=v->v<m->0<=p v
 | 0,v,e,h0,h1=>by
   have:v=r:=by
    apply Classical.byContradiction;intro z;have:=R.pos h0 h1 z
    lia
   rw[this,N.rt]
   lia
 | n+1,v,e,h0,h1=>by
   by_cases z:v=r
   .rw[z,N.rt];lia
   .have u:=R.up v h0 h1 z;have h:=R.pos h0 h1 z;have f:=Cnt.nn g R N b d c n (par v) (by lia) u.1.1 u.1.2;have a:=iW g R h0 h1 z;rw[N.up v h0 h1 z];have:1<=(if ch (par v)=some v then p (par v)else 0)+1:=(by split<;>lia);have:=fW this a.1 (by decide) (by lia)
    lia
theorem Cnt.Ε(g:Good m j)(R:ε m j r par dep)(B:Bea m j r par dep ch)(N:Cnt m j r par ch w p){a:fm}(f:∀v,0<=v->v<m->a v=mP ch p v):∀(n:Nat)(v:Int),m.toNat-dep v=n->0<=v->v<m->Pb.Ε m j r par dep a (ϛ j par) v=p v
 | 0,v,e,h0,h1=>by
   have:=gP R h0 h1
   lia
 | n+1,v,e,h0,h1=>by
   rw[eG g R h0 h1,f v h0 h1];have i:∀u∈bQ m j (front r par v) v,ϛ j par u (Pb.Ε m j r par dep a (ϛ j par) u)=if ch v=some u then p v else 0:=λu l=>by
    obtain⟨c,d,h⟩:=(bz g R h0 h1).mp l;have k:=R.pos c.1 c.2 d;rw[h]at k;rw[Cnt.Ε g R B N f n u (by lia) c.1 c.2,N.up u c.1 c.2 d,h];exact Fa (iW g R c.1 c.2 d).1
   rw[ko i,Fz g R B h0 h1 (λ_=>p v) 0];unfold mP;cases e:ch v with
   | none=>rw[aj rfl];exact g6 _
   | some b=>rw[ag (by intro z;cases z)];exact cM _
theorem BW(f:fm)(h:Int->List Int):∀l:List Int,((l.flatMap h).map f).sum=(l.map λc=>((h c).map f).sum).sum
 | []=>rfl
 | a::l=>by rw[c9,aI,fB,BW f h l,aq,aH]
theorem Bt(f h:fm):∀l:List Int,(l.map λc=>f c-h c).sum=(l.map f).sum-(l.map h).sum
 | []=>rfl
 | a::l=>by rw[aq,aq,aq,aH,aH,aH,Bt f h l];lia
theorem Cnt.sums(g:Good m j)(R:ε m j r par dep)(B:Bea m j r par dep ch)(N:Cnt m j r par ch w p):∀(n:Nat)(v:Int),m.toNat-dep v=n->0<=v->v<m->((cI m j r par dep v).map λu=>mP ch p u-υ m j r par dep u*(tup j par u-1)).sum=υ m j r par dep v*p v-υ m j r par dep v*(tup j par v-1)
 | 0,v,e,h0,h1=>by
   have:=gP R h0 h1
   lia
 | n+1,v,e,h0,h1=>by
   rw[jv g R h0 h1,aq,aH,BW];have h:∀u∈bQ m j (front r par v) v,((cI m j r par dep u).map λu=>mP ch p u-υ m j r par dep u*(tup j par u-1)).sum=if ch v=some u then υ m j r par dep u*tup j par u*p v else 0:=λu o=>by
    obtain⟨a,f,d⟩:=(bz g R h0 h1).mp o;have i:=R.pos a.1 a.2 f;rw[d]at i;rw[Cnt.sums g R B N n u (by lia) a.1 a.2,N.up u a.1 a.2 f,d];generalize υ m j r par dep u=W;generalize tup j par u=k;by_cases c:ch v=some u
    .rw[aj c,aj c,eC,eC,dW,dB,fJ,gM,ff (p v) k,<-gO]
     lia
    .rw[ag c,ag c,cM,gM]
     lia
   rw[ko h,Fz g R B h0 h1 (λu=>υ m j r par dep u*tup j par u*p v) 0];unfold mP;cases e:ch v with
   | none=>
     rw[aj rfl];have l:υ m j r par dep v=1:=by
      show fo mx m j r par dep _ _ v=1;rw[sG g R h0 h1,B.no v h0 h1 e]
      rfl
     rw[l];show p v-_+0=_
     lia
   | some b=>
     rw[ag (by intro z;cases z)];obtain⟨_,q⟩:=B.hv v b h0 h1 e;show 0-_+υ m j r par dep b*tup j par b*p v=_;rw[q]
     lia
theorem Cnt.total(g:Good m j)(R:ε m j r par dep)(B:Bea m j r par dep ch)(N:Cnt m j r par ch w p)(b:0<=r)(c:r<m){a:fc}(e:cI m j r par dep r=r::a)(O:Order m r par a):((bM m.toNat).map (mP ch p)).sum=lE m j r par (dP m j r par dep) w:=by
 have h:=Cnt.sums g R B N _ r rfl b c;rw[e,Bt,N.rt]at h;have i:((r::a).map (mP ch p)).sum=((bM m.toNat).map (mP ch p)).sum:=by
  refine sx ((iP O.nd (ij _) λx=>?_).map _);rw[aw,fh];refine⟨λh=>?_,λh=>O.all x h.1 (by have:=h.2;lia)⟩;rcases h with h|h
  .rw[h];exact⟨b,by lia⟩
  .have:=O.Ι x h;exact⟨this.1,by lia⟩
 rw[<-i];unfold lE;rw[<-O.sums,show(dP m j r par dep).getD r.toNat 0=υ m j r par dep r from gZ b c];have k:(a.map (slk j par (dP m j r par dep))).sum=(a.map λu=>υ m j r par dep u*(tup j par u-1)).sum:=by
  refine ko λu d=>?_;unfold slk tup;rw[show(dP m j r par dep).getD u.toNat 0=υ m j r par dep u from gZ (O.Ι u d).1 (O.Ι u d).2]
 rw[k];rw[aq (f:=λu=>υ m j r par dep u*(tup j par u-1)),aH]at h
 lia
theorem UR(g:Good m j)(R:ε m j r par dep){t:fc}(O:Order m r par t):Slk m j par t (dP m j r par dep) where
 len:=by
  have:=g.m1;rw[qK]
  lia
 pos:=λv v0 v1=>by rw[gZ v0 v1];exact(iY g R v0 v1).1
 std:=λc f=>by
  have a:=O.Ι c f;have p:=O.ne f;have u:=R.up c a.1 a.2 p;rw[gZ a.1 a.2,gZ u.1.1 u.1.2];have hk:c∈bQ m j (front r par (par c)) (par c):=(bz g R u.1.1 u.1.2).mpr ⟨a,p,rfl⟩;have e:υ m j r par dep (par c)=((bQ m j (front r par (par c)) (par c)).map λc=>bor j par c (υ m j r par dep c)).foldl mx 1:=sG g R u.1.1 u.1.2;have i:∀x∈(bQ m j (front r par (par c)) (par c)).map λc=>bor j par c (υ m j r par dep c),x<=2^480*1000000:=λx n=>by
   obtain⟨d,hd,rfl⟩:=aU.mp n;obtain⟨b,h,o⟩:=(bz g R u.1.1 u.1.2).mp hd;have tk:=iW g R b.1 b.2 h;have k:=iY g R b.1 b.2;show _*tup j par d<=_;exact fW k.2 tk.2 (by lia) (by decide +kernel)
  obtain⟨_,_,l⟩:=zP (B:=2^480*1000000) ((bQ m j (front r par (par c)) (par c)).map λc=>bor j par c (υ m j r par dep c)) 1 (by decide +kernel) i;have:=l _ (aU.mpr ⟨c,hk,rfl⟩);rw[<-e]at this;exact this
end
end Pb
namespace L2
open PySem PySem.Spec PyProof.Rows PySem.W
section
variable{n:Nat}
variable(a:0<n)
include a
end
end L2
namespace L2
theorem GQ{a:Type}[DecidableEq a]{η:List (a×V)}{k:a}{v:V}{p:a×V}(h:p∈jp η k v):p.1=k\/∃q∈η,p.1=q.1:=by
 unfold jp at h;split at h
 .obtain⟨q,hq,e⟩:=aU.mp h;refine .inr ⟨q,hq,?_⟩;rw[<-e];split<;>rfl
 .rcases ba.mp h with h|h
  .exact .inr ⟨p,h,rfl⟩
  .rw[aK.mp h];exact .inl rfl
end L2
namespace Pb
open L2 PySem
section
variable{m:Int}{d:hD}{r:Int}{par:fm}{f:fv}
theorem BO(g:Good m d)(v x y:Int)(h:x<=y):ϝ d par v x<=ϝ d par v y:=by
 have i:∀a b:Int,0<(ce d a b).getD 1:=λa b=>by
  cases e:ce d a b with
  | none=>decide
  | some k=>
    obtain⟨t,l,p,_⟩:=sj g (xJ.mp (show(ce d a b).isSome=true by rw[e];rfl));rw[e]at l;cases l;show 0<k
    lia
 have n:=i v (par v);have s:=i (par v) v;unfold ϝ;by_cases c:0<=x
 .rw[aj c,aj (by lia)];exact Int.ediv_le_ediv n h
 .rw[ag c];by_cases j:0<=y
  .rw[aj j];have o:0<=y/(ce d v (par v)).getD 1:=ja j (by lia);have q:x*(ce d (par v) v).getD 1<=0:=gB (by lia) (by lia)
   lia
  .rw[ag j];exact b9 h (by lia)
theorem GN{x n k a:Int}(C:1<=n)(c:2<=k)(e:2<=a):(n+(if 0<=x + -(n*k)then(x + -(n*k))/k else(x + -(n*k))*a)<=if 0<=x then x/k else x*a)/\(-(n*k)+(if 0<=x+n then(x+n)/a else(x+n)*k)<=if 0<=x then x/a else x*k):=by
 have p:n*2<=n*k:=bU c (by lia);have j:n*2<=n*a:=bU e (by lia)
 constructor
 .by_cases c1:0<=x + -(n*k)
  .rw[aj c1,aj (by lia),<-jt,fC _ _ (by lia)]
   lia
  .rw[ag c1];by_cases b:0<=x
   .rw[aj b];have t:=j8 x k;have u:=de x (show 0<k by lia);have q:=dA x (show k≠0 by lia);have l:x/k<n:=by
     rw[Int.ediv_lt_iff_lt_mul (by lia)]
     lia
    have i:k*(x/k-n)=k*(x/k)-n*k:=(by rw[eC,ff k n]);have B:x + -(n*k)<=k*(x/k-n+1)-1:=by
     have:k*(x/k-n+1)=k*(x/k-n)+k:=(by rw[dB,fJ])
     lia
    have o:k*(x/k-n+1)<=2*(x/k-n+1):=by
     have:=Int.mul_le_mul_of_nonpos_right c (show x/k-n+1<=0 by lia)
     lia
    have h:x + -(n*k)<=(x/k-n):=(by lia);have z:(x + -(n*k))*a<=(x/k-n)*a:=b9 h (by lia);have s:(x/k-n)*a<=(x/k-n)*1:=kD (show x/k-n<=0 by lia) (show 1<=a by lia)
    lia
   .rw[ag b];have i:(x + -(n*k))*a=x*a + -(n*k)*a:=dW ..;have w:-(n*k)*a<=-(n*k)*1:=kD (show -(n*k)<=0 by lia) (show 1<=a by lia)
    lia
 .by_cases c1:0<=x
  .rw[aj c1,aj (by lia)];have g:(x+n)/a<=(x+n*a)/a:=Int.ediv_le_ediv (by lia) (by lia);rw[fC _ _ (by lia)]at g
   lia
  .rw[ag c1];by_cases b:0<=x+n
   .rw[aj b];have g:(x+n)/a<=x+n:=Int.ediv_le_self _ b;have A:(-x)*2<=(-x)*k:=bU c (by lia);have v:(n+x)*2<=(n+x)*k:=bU c (by lia);have y:(n+x)*k=n*k+x*k:=dW ..
    lia
   .rw[ag b,dW]
    lia
theorem Pm(g:Good m d)(R:ε m d r par f)(B:0<=r)(A:r<m){a b:fc}(H:(a.length:Int)=m){s:Stp}(is:rq m d s=true):Ε m d r par f (λv=>(fG m (gR d a s) b).getD v.toNat 0) (ϝ d par) r<=Ε m d r par f (λv=>(fG m a b).getD v.toNat 0) (ϝ d par) r:=by
 obtain⟨I,D,x⟩:=vg is;have p:=(oO g).mp D;have J:=(g.adj p).2.1;obtain⟨k,q,u,K⟩:=sj g p;obtain⟨L,i,h,E⟩:=sj g p.symm;have w:jA d s.1 s.2.1=k:=by unfold jA;rw[q];rfl
 have e:∀(t:fc)(v:Int),0<=v->v<m->(fG m t b).getD v.toNat 0=t.getD v.toNat 0-b.getD v.toNat 0:=λt v j o=>by
  unfold fG;rw[List.getD,aJ,eR (by lia)]
  rfl
 have y:∀{c n l:Int},0<=par c/\par c<m->Chg m r par (λv=>a.getD v.toNat 0) (λv=>(gR d a s).getD v.toNat 0) c n l->Chg m r par (λv=>(fG m a b).getD v.toNat 0) (λv=>(fG m (gR d a s) b).getD v.toNat 0) c n l:=λ{c n l} pr C=>by
  refine⟨C.Ι,C.nr,?_,?_,λv j o F G=>?_⟩
  .show(fG m (gR d a s) b).getD c.toNat 0=(fG m a b).getD c.toNat 0+n;rw[e _ c C.Ι.1 C.Ι.2,e _ c C.Ι.1 C.Ι.2];have:=C.own
   lia
  .show(fG m (gR d a s) b).getD (par c).toNat 0=(fG m a b).getD (par c).toNat 0+l;rw[e _ _ pr.1 pr.2,e _ _ pr.1 pr.2];have:=C.up
   lia
  .show(fG m (gR d a s) b).getD v.toNat 0=(fG m a b).getD v.toNat 0;rw[e _ v j o,e _ v j o];have:=C.oth v j o F G
   lia
 rcases Cm g R H is with⟨h1,h2,C⟩|⟨h1,h2,C⟩
 .refine(y (by rw[h2];exact J) C).le g R (BO g) ?_ _ r rfl B A λz=>h1 z.symm;unfold ϝ;rw[h2,q,i,w];exact(GN x u h).1
 .refine(y (by rw[h2];exact I) C).le g R (BO g) ?_ _ r rfl B A λz=>h1 z.symm;unfold ϝ;rw[h2,q,i,w];exact(GN x u h).2
theorem zQ{zs ys:fc}(i:Nat):(fG m zs ys).getD i 0=if i<m.toNat then zs.getD i 0-ys.getD i 0 else 0:=by
 unfold fG;by_cases c:i<m.toNat
 .rw[aj c,List.getD,aJ,eR c]
  rfl
 .rw[ag c,List.getD,aJ,bO (by rw[bG];lia)]
  rfl
end
inductive aaB(m:Int)(rs:hD)(xs:fc):List Int->Prop
 | start:aaB m rs xs xs
 | step {z:fc} {a b:Int}:aaB m rs xs z->uj m rs z (a,b,1)=true->aaB m rs xs (gR rs z (a,b,1))
theorem wB:∀{z:fc},(∀x∈z,0<=x)->0<=z.sum
 | [],_=>bw 0
 | x::z,h=>by
   have c:=h x (.head _);have b:=wB λy a=>h y (.tail _ a);rw[aH]
   lia
section
variable{m:Int}{d:hD}{a:fc}
theorem aaB.len{z:fc}(h:aaB m d a z):z.length=a.length:=by
 induction h with
 | start=>rfl
 | step _ _ ih=>rw[FZ];exact ih
variable{r:Int}{b:fm}{c:fv}
end
theorem HN{P:Int->Prop}(f:fv):∀(n:Nat)(v:Int),f v=n->P v->∃v,P v/\∀u,P u->f v<=f u:=by
 intro n
 induction n using Nat.strongRecOn with
 | _ n ih=>
   intro v d a;by_cases c:∃u,P u/\f u<f v
   .obtain⟨u,h1,h2⟩:=c;exact ih (f u) (by lia) u rfl h1
   .exact⟨v,a,λu b=>Nat.le_of_not_lt λh=>c ⟨u,b,h⟩⟩
theorem GX:∀{l:fc},(∀x∈l,x<=0)->l.sum<=0
 | [],_=>bw 0
 | x::l,h=>by
   have c:=h x (.head _);have b:=GX λy a=>h y (.tail _ a);rw[aH]
   lia
theorem Fp:∀{l:fc}{y:Int},(∀x∈l,x<=0)->y∈l->l.sum<=y
 | x::l,y,h,a=>by
   have c:=h x (.head _);have b:=GX λy a=>h y (.tail _ a);rw[aH];rcases aw.mp a with e|e
   .lia
   .have:=Fp (λy a=>h y (.tail _ a)) e
    lia
theorem AO:∀{l:fc},(∀x∈l,x=0)->l.sum=0
 | [],_=>rfl
 | x::l,h=>by rw[aH,h x (.head _),AO λy a=>h y (.tail _ a)];rfl
section
variable{m:Int}{i:hD}{r:Int}{d:fm}{f:fv}
abbrev Ϗ(m:Int)(i:hD)(r:Int)(d:fm)(f:fv)(a z:fc)(v:Int):Int:=Ε m i r d f (λv=>(fG m z a).getD v.toNat 0) (ϝ i d) v
theorem yP(g:Good m i)(R:ε m i r d f){ys z:fc}{v:Int}(a:0<=v)(b:v<m):Ϗ m i r d f ys z v=z.getD v.toNat 0-ys.getD v.toNat 0+((bQ m i (front r d v) v).map λc=>ϝ i d c (Ϗ m i r d f ys z c)).sum:=by
 show Ε m i r d f _ _ v=_;rw[eG g R a b];show(fG m z ys).getD v.toNat 0+_=_;rw[zQ,aj (by lia)]
theorem HX{a b:fc}{s:Stp}{c l k:Int}(h:0<=d c/\d c<m)(C:Chg m r d (λv=>a.getD v.toNat 0) (λv=>(gR i a s).getD v.toNat 0) c l k):Chg m r d (λv=>(fG m a b).getD v.toNat 0) (λv=>(fG m (gR i a s) b).getD v.toNat 0) c l k:=by
 have e:∀(n:fc)(v:Int),0<=v->v<m->(fG m n b).getD v.toNat 0=n.getD v.toNat 0-b.getD v.toNat 0:=λn v g j=>by
  rw[zQ,aj (by lia)]
 refine⟨C.Ι,C.nr,?_,?_,λv g j o p=>?_⟩
 .show(fG m (gR i a s) b).getD c.toNat 0=(fG m a b).getD c.toNat 0+l;rw[e _ c C.Ι.1 C.Ι.2,e _ c C.Ι.1 C.Ι.2];have:=C.own
  lia
 .show(fG m (gR i a s) b).getD (d c).toNat 0=(fG m a b).getD (d c).toNat 0+k;rw[e _ _ h.1 h.2,e _ _ h.1 h.2];have:=C.up
  lia
 .show(fG m (gR i a s) b).getD v.toNat 0=(fG m a b).getD v.toNat 0;rw[e _ v g j,e _ v g j];have:=C.oth v g j o p
  lia
theorem OY(g:Good m i)(R:ε m i r d f)(Z:0<=r)(X:r<m){z ys:fc}(zl:(z.length:Int)=m)(y0:∀y∈ys,0<=y)(s0:0<=Ϗ m i r d f ys z r):((∀v,0<=v->v<m->ys.getD v.toNat 0<=z.getD v.toNat 0)/\z.getD r.toNat 0-ys.getD r.toNat 0=Ϗ m i r d f ys z r)\/∃a b,uj m i z (a,b,1)=true/\Ϗ m i r d f ys (gR i z (a,b,1)) r=Ϗ m i r d f ys z r:=by
 have yn:∀v:Int,0<=ys.getD v.toNat 0:=λv=>LD y0 _;have Q:∀v,0<=v->v<m->v≠r->∃k p,ce i v (d v)=some k/\ce i (d v) v=some p/\2<=k/\2<=p/\(0<=d v/\d v<m)/\Adj i v (d v)/\f (d v)+1=f v:=λv j n E=>by
  obtain⟨u1,Y,u3⟩:=R.up v j n E;obtain⟨k,u,O,_⟩:=sj g Y;obtain⟨p,s,A,_⟩:=sj g Y.symm;exact⟨k,p,u,s,O,A,u1,Y,u3⟩
 by_cases cA:∃v,(0<=v/\v<m/\v≠r)/\(ce i v (d v)).getD 1<=Ϗ m i r d f ys z v
 .-- aS ajD place adB has adh to hand on
  obtain⟨U,I⟩:=cA;obtain⟨v,⟨⟨j,n,B⟩,E⟩,mx⟩:=HN (P:=λv=>(0<=v/\v<m/\v≠r)/\(ce i v (d v)).getD 1<=Ϗ m i r d f ys z v) (λv=>m.toNat-f v) _ U rfl I;obtain⟨k,p,u,s,O,A,o,N,dp⟩:=Q v j n B;rw[u]at E;have E:k<=Ϗ m i r d f ys z v:=E;have np:∀x∈(bQ m i (front r d v) v).map λc=>ϝ i d c (Ϗ m i r d f ys z c),x<=0:=λx M=>by
   obtain⟨c,K,rfl⟩:=aU.mp M;obtain⟨t,H,V⟩:=(bz g R j n).mp K;have dk:=R.pos t.1 t.2 H;have dl:=gP R t.1 t.2;rw[V]at dk;obtain⟨q,q',eq,W,q0,a2,_⟩:=Q c t.1 t.2 H;have T:¬q<=Ϗ m i r d f ys z c:=λh=>by
    have:=mx c ⟨⟨t.1,t.2,H⟩,by rw[eq];exact h⟩
    lia
   unfold ϝ;rw[eq,W];show(if 0<=Ϗ m i r d f ys z c then Ϗ m i r d f ys z c/q else Ϗ m i r d f ys z c*q')<=0;generalize Ϗ m i r d f ys z c=G at T ⊢;by_cases D:0<=G
   .rw[aj D,eA D (by lia)];exact bw _
   .rw[ag D];exact gB (by lia) (by lia)
  have e:=yP g R (ys:=ys) (z:=z) j n;have sp:=GX np;have yv:=yn v;have L:jA i v (d v)=k:=by unfold jA;rw[u];rfl
  have is:rq m i (v,d v,1)=true:=by
   unfold rq;have S:=(oO g).mpr N;simp only[bK,bT];exact⟨⟨⟨j,n⟩,S⟩,by decide⟩
  refine .inr ⟨v,d v,?_,?_⟩
  .unfold uj;rw[is,iH,bT];show 1*jA i v (d v)<=z.getD v.toNat 0;rw[L]
   lia
  .rcases Cm g R zl is with⟨J,F,C⟩|⟨J,F,C⟩
   .refine(HX o C).eq g R ?_ _ r rfl Z X λw=>B w.symm;show 1+ϝ i d v (Ϗ m i r d f ys z v + -(1*jA i v (d v)))=ϝ i d v (Ϗ m i r d f ys z v);rw[L];unfold ϝ;rw[u];generalize Ϗ m i r d f ys z v=G at E ⊢;rw[aj (by lia),aj (by lia)];show 1+(G + -(1*k))/k=G/k;rw[<-jt,fC _ _ (by lia)]
    lia
   .have d2:=R.pos o.1 o.2 J;simp only at F;rw[F]at d2
    lia
 .have up:∀v,0<=v->v<m->v≠r->ϝ i d v (Ϗ m i r d f ys z v)<=0/\(0<=Ϗ m i r d f ys z v->ϝ i d v (Ϗ m i r d f ys z v)=0):=λv j n B=>by
   obtain⟨k,p,u,s,O,A,o,N,dp⟩:=Q v j n B;have T:¬k<=Ϗ m i r d f ys z v:=λh=>cA ⟨v,⟨j,n,B⟩,by rw[u];exact h⟩;unfold ϝ;rw[u,s];show(if 0<=Ϗ m i r d f ys z v then Ϗ m i r d f ys z v/k else Ϗ m i r d f ys z v*p)<=0/\(0<=Ϗ m i r d f ys z v->(if 0<=Ϗ m i r d f ys z v then Ϗ m i r d f ys z v/k else Ϗ m i r d f ys z v*p)=0);generalize Ϗ m i r d f ys z v=G at T ⊢;by_cases D:0<=G
   .rw[aj D,eA D (by lia)];exact⟨bw _,λ_=>rfl⟩
   .rw[ag D];exact⟨gB (by lia) (by lia),λh=>absurd h D⟩
  by_cases cB:∃v,(0<=v/\v<m/\v≠r)/\Ϗ m i r d f ys z v<0
  .-- aS ajE place adB aoT adh
   obtain⟨U,I⟩:=cB;obtain⟨v,⟨⟨j,n,B⟩,E⟩,mn⟩:=HN (P:=λv=>(0<=v/\v<m/\v≠r)/\Ϗ m i r d f ys z v<0) f _ U rfl I;obtain⟨k,p,u,s,O,A,o,N,dp⟩:=Q v j n B;have pg:0<=Ϗ m i r d f ys z (d v):=by
    by_cases c:d v=r
    .rw[c];exact s0
    .refine Int.le_of_not_gt λh=>?_;have:=mn (d v) ⟨⟨o.1,o.2,c⟩,h⟩
     lia
   have e:=yP g R (ys:=ys) (z:=z) o.1 o.2;have sp:=Fp (l:=(bQ m i (front r d (d v)) (d v)).map λc=>ϝ i d c (Ϗ m i r d f ys z c)) (y:=ϝ i d v (Ϗ m i r d f ys z v)) (λx M=>by
    obtain⟨c,K,rfl⟩:=aU.mp M;obtain⟨t,H,V⟩:=(bz g R o.1 o.2).mp K;exact(up c t.1 t.2 H).1) (aU.mpr ⟨v,(bz g R o.1 o.2).mpr ⟨⟨j,n⟩,B,rfl⟩,rfl⟩)
   have hh:ϝ i d v (Ϗ m i r d f ys z v)=Ϗ m i r d f ys z v*p:=by
    unfold ϝ;rw[s,ag (by lia)]
    rfl
   have hk:Ϗ m i r d f ys z v*p<=(-1)*p:=b9 (by lia) (by lia);have yv:=yn (d v);have L:jA i (d v) v=p:=(by unfold jA;rw[s];rfl);have is:rq m i (d v,v,1)=true:=by
    unfold rq;have S:=(oO g).mpr N.symm;simp only[bK,bT];exact⟨⟨⟨o.1,o.2⟩,S⟩,by decide⟩
   refine .inr ⟨d v,v,?_,?_⟩
   .unfold uj;rw[is,iH,bT];show 1*jA i (d v) v<=z.getD (d v).toNat 0;rw[L]
    lia
   .rcases Cm g R zl is with⟨J,F,C⟩|⟨J,F,C⟩
    .have d2:=R.pos o.1 o.2 J;simp only at F;rw[F]at d2
     lia
    .refine(HX o C).eq g R ?_ _ r rfl Z X λw=>B w.symm;show -(1*jA i (d v) v)+ϝ i d v (Ϗ m i r d f ys z v+1)=ϝ i d v (Ϗ m i r d f ys z v);rw[L,hh];unfold ϝ;rw[u,s];generalize Ϗ m i r d f ys z v=G at E ⊢;show -(1*p)+(if 0<=G+1 then(G+1)/k else(G+1)*p)=G*p;by_cases c:0<=G+1
     .have:G=-1:=(by lia);subst this;rw[aj c];show -(1*p)+0/k=-1*p;rw[Int.zero_ediv]
      lia
     .rw[ag c,dW]
      lia
  .have nn:∀v,0<=v->v<m->0<=Ϗ m i r d f ys z v:=λv j n=>by
    by_cases c:v=r
    .rw[c];exact s0
    .exact Int.le_of_not_gt λh=>cB ⟨v,⟨j,n,c⟩,h⟩
   have ev:∀v,0<=v->v<m->z.getD v.toNat 0-ys.getD v.toNat 0=Ϗ m i r d f ys z v:=λv j n=>by
    have e:=yP g R (ys:=ys) (z:=z) j n;rw[AO λx M=>?_]at e
    .lia
    .obtain⟨c,K,rfl⟩:=aU.mp M;obtain⟨t,H,V⟩:=(bz g R j n).mp K;exact(up c t.1 t.2 H).2 (nn c t.1 t.2)
   refine .inl ⟨λv j n=>?_,ev r Z X⟩;have J:=ev v j n;have F:=nn v j n
   lia
theorem aaB.pre{e z:fc}{a b:Int}(c:uj m i e (a,b,1)=true)(h:aaB m i (gR i e (a,b,1)) z):aaB m i e z:=by
 induction h with
 | start=>exact .step .start c
 | step _ c2 ih=>exact .step ih c2
theorem O4(g:Good m i){z:fc}(s:(z.length:Int)=m){a b:Int}(c:uj m i z (a,b,1)=true):(gR i z (a,b,1)).sum<z.sum:=by
 obtain⟨is,o⟩:=BX c;obtain⟨n,h,_⟩:=vg is;obtain⟨k,l,e,q,p⟩:=Pt g is;have j:=g.adj ((oO g).mp h);simp only at n h l e p o j;unfold gR;show((z.set a.toNat (z.getD a.toNat 0-1*jA i a b)).set b.toNat ((z.set a.toNat (z.getD a.toNat 0-1*jA i a b)).getD b.toNat 0+1)).sum<z.sum;rw[Aj _ _ _ (by rw[b4];lia),Aj _ _ _ (by lia),e]
 lia
theorem VL(g:Good m i)(R:ε m i r d f)(u:0<=r)(t:r<m){h:fc}(A:∀y∈h,0<=y):∀(n:Nat)(z:fc),z.sum.toNat=n->(z.length:Int)=m->(∀x∈z,0<=x)->0<=Ϗ m i r d f h z r->∃j,aaB m i z j/\(∀v,0<=v->v<m->h.getD v.toNat 0<=j.getD v.toNat 0)/\j.getD r.toNat 0-h.getD r.toNat 0=Ϗ m i r d f h z r:=by
 intro n
 induction n using Nat.strongRecOn with
 | _ n ih=>
   intro z B k q p;rcases OY g R u t k A p with⟨l,o⟩|⟨a,b,c,e⟩
   .exact⟨z,.start,l,o⟩
   .have z0':=Vj g k q c;have lt:=O4 g k c;have s:=wB z0';obtain⟨j,l,o,w⟩:=ih _ (by lia) (gR i z (a,b,1)) rfl (by rw[FZ];exact k) z0' (by rw[e];exact p);exact⟨j,l.pre c,o,by rw[w,e]⟩
theorem aaB.agf(g:Good m i)(R:ε m i r d f)(j:0<=r)(b:r<m){a ys:fc}(e:(a.length:Int)=m){z:fc}(h:aaB m i a z):Ϗ m i r d f ys z r<=Ϗ m i r d f ys a r:=by
 induction h with
 | start=>exact bw _
 | step hz c ih=>exact bW (Pm g R j b (by rw[hz.len];exact e) (BX c).1) ih
theorem Pa(g:Good m i)(v x:Int)(h:0<=x):0<=ϝ i d v x:=by
 have:=BO (par:=d) g v 0 x h;have e:ϝ i d v 0=0:=by unfold ϝ;rw[aj (bw _)];exact Int.zero_ediv _
 lia
theorem Jq{a:fm}{b:g8}(e:∀v,0<=a v)(g:∀v x,0<=x->0<=b v x):∀(n:Nat)(v:Int),0<=wg m i r d a b n v
 | 0,v=>e v
 | n+1,v=>by
   show 0<=a v+((bQ m i (front r d v) v).map λc=>b c (wg m i r d a b n c)).sum;have l:=e v;have k:0<=((bQ m i (front r d v) v).map λc=>b c (wg m i r d a b n c)).sum:=wB λx h=>by
    obtain⟨c,j,rfl⟩:=aU.mp h;exact g c _ (Jq e g n c)
   lia
theorem YY(g:Good m i)(R:ε m i r d f)(j:0<=r)(b:r<m){a z:fc}(h:∀v,0<=v->v<m->a.getD v.toNat 0<=z.getD v.toNat 0):z.getD r.toNat 0-a.getD r.toNat 0<=Ϗ m i r d f a z r:=by
 have k:∀v:Int,0<=(fG m z a).getD v.toNat 0:=λv=>by
  rw[zQ];by_cases c:v.toNat<m.toNat
  .rw[aj c];have:=h (v.toNat:Int) (by lia) (by lia);rw[bR]at this
   lia
  .rw[ag c];exact bw _
 rw[yP g R j b];have:0<=((bQ m i (front r d r) r).map λc=>ϝ i d c (Ϗ m i r d f a z c)).sum:=wB λx e=>by
  obtain⟨c,l,rfl⟩:=aU.mp e;exact Pa g c _ (Jq k (Pa g) _ _)
 lia
end
end Pb
namespace Pb
open L2 PySem PySem.W NumText
theorem _root_.List.ι{b a:Type}{f:b->a}{l:List b}{i:Nat}{y:a}(h:(l.map f)[i]?=some y):∃x,l[i]?=some x/\y=f x:=by
 rw[aJ]at h;cases e:l[i]? with
 | none=>rw[e]at h;cases h
 | some x=>rw[e]at h;exact⟨x,rfl,(bu h).symm⟩
end Pb
namespace Pb
open L2 PySem
section
variable{m:Int}{c:hD}{r:Int}{a:fm}{b:fv}{d:fm}
theorem Oc:∀(e:fc),(List.range e.length).map (λi=>e.getD i 0)=e:=λe=>by
 refine fP λi=>?_;rw[aJ];by_cases h:i<e.length
 .rw[eR h,ay h];show some (e.getD i 0)=_;rw[List.getD,ay h]
  rfl
 .rw[bO (by rw[bG];lia),bO (by lia)]
  rfl
theorem Qi{e:fc}{n:Nat}(h:e.length=n):((bM n).map λv=>e.getD v.toNat 0).sum=e.sum:=by
 unfold bM;rw[iG,<-h];exact congrArg List.sum (Oc e)
theorem Vd{f:fc}(h:∀x∈f,0<=x)(i:Nat):0<=f.getD i 0:=by
 rw[List.getD];cases e:f[i]? with
 | none=>exact bw _
 | some y=>exact h y (aO e)
theorem Mh(R:ε m c r a b):∀(n:Nat)(v:Int),b v=n->0<=v->v<m->D2 a r n v=true
 | 0,v,e,h0,h1=>by
   refine bq (Classical.byContradiction λh=>?_);have:=R.pos h0 h1 h
   lia
 | n+1,v,e,h0,h1=>by
   show(decide (v=r)||D2 a r n (a v))=true;by_cases h:v=r
   .rw[bq h];rfl
   .have u:=R.up v h0 h1 h;rw[Mh R n (a v) (by lia) u.1.1 u.1.2,mG]
theorem FJ(g:Good m c)(R:ε m c r a b)(f:0<=r)(e:r<m):∃t,cI m c r a b r=r::t/\Order m r a t:=CZ g R f e (uD g R _ r f e).1 λv=>by
 rw[zU g R f e];exact⟨λh=>h.1,λh=>⟨h,Mh R _ v rfl h.1 h.2⟩⟩
end
section
variable{m:Int}{c:hD}{r:Int}{a:fm}{b:fv}{f:fm}{d e:fc}
theorem Vu(g:Good m c)(R:ε m c r a b)(v:0<=r)(u:r<m){k:Int}{h:fm}{l:fv}(n:ε m c k h l)(j:0<=k)(i:k<m)(o:(d.length:Int)=m)(t:∀x∈d,0<=x)(w:∀y∈e,0<=y)(q:0<=Ϗ m c r a b e d r):0<=Ϗ m c k h l e d k:=by
 obtain⟨z,s,p,_⟩:=VL g R v u w _ d rfl o t q;have A:=YY g n j i p;have B:=s.agf (ys:=e) g n j i o;have C:=p k j i
 lia
end
theorem EW:∀{l:fc}{x:Int},(∀y∈l,0<=y)->x∈l->x<=l.sum
 | y::l,x,h,hx=>by
   have c:=wB λz a=>h z (ap y a);have b:=h y aA;rw[aH];rcases aw.mp hx with e|e
   .lia
   .have:=EW (λz a=>h z (ap y a)) e
    lia
end Pb
namespace L2
open PySem
theorem FU{K:f3}{c:Bool}{a p:Addr}{xs:List V}{Q:VK}{g:TG}{w:TT}{A:TE}{n:St}{z:Hp}(k:Nat->List V->St->Hp->Prop)(D:k 0 [] n z)(E:∀i d f H,k i d f H->ϑ K c H a xs)(J:∀(i:Nat) (x:V) (d:List V) (f:St) (H:Hp) (q:Addr) (N:List V->St->Hp->Prop),(∀o h l,k (i+1) o h l->N o h l)->xs[i]?=some x->k i d f H->H q=none->g (.ref q) f (upd H q (.tup [.int i,x])) λj M=>w j M λb u=>
 if b=true then A j u λy B=>B p=some (.lst d)/\d.length<sizeLine/\N (d++[y]) j (upd B p (.lst (d++[y])))else N d j u)(G:∀d f H,k xs.length d f H->Q (.ref p) H):wG (Ite K c a) p Q g w A n z:=by
 refine⟨λi m d f H=>m=xs.length-i/\i<=xs.length/\k i d f H,⟨_,rfl,bB _,D⟩,?_⟩;rintro i m d f H ⟨rfl,O,pv⟩;have r:=E i d f H pv;by_cases t:i<xs.length
 .refine .inr ⟨⟨xs,xs[i],r,ay t⟩,λx l y=>?_⟩;obtain⟨I,C,L,rfl,rfl,F⟩:=y;exact J i C d f H I (λo h l=>∃v,v<xs.length-i/\(v=xs.length-(i+1)/\i+1<=xs.length/\k (i+1) o h l)) (λo h l s=>⟨xs.length-(i+1),by lia,rfl,t,s⟩) (F xs r) pv L
 .have e:i=xs.length:=by lia
  subst e;exact .inl ⟨⟨xs,r,rfl⟩,G d f H pv⟩
def Kpt(o:Addr)(H a:Hp):Prop:=∀b x,H b=some x->b≠o->a b=some x
theorem Kpt.refl{o:Addr}{H:Hp}:Kpt o H H:=λ_ _ h _=>h
theorem Kpt.then{o:Addr}{H e d:Hp}(a:Kpt o H e)(b:δ e d):Kpt o H d:=λc x h n=>b c x (a c x h n)
theorem Kpt.put{o:Addr}{H b:Hp}(a:Kpt o H b)(x:HO):Kpt o H (upd b o x):=λc y h n=>by rw[aN n];exact a c y h n
theorem Kpt.gE{K:f3}{H b:Hp}{o C d:Addr}{g:List (Str×V)}{c:Bool}{a:Addr}{f:List V}(e:Kpt o H b)(k:H o=some (.ins C d g))(h:ϑ K c H a f):ϑ K c b a f:=by
 have n:∀{y:HO},H a=some y->y≠.ins C d g->a≠o:=λi j z=>by rw[z,k]at i;cases i;exact j rfl
 cases c
 .rcases h with(h|⟨o',h⟩)|h
  .exact .inl (.inl (e _ _ h (n h (by intro z;cases z))))
  .exact .inl (.inr ⟨o',e _ _ h (n h (by intro z;cases z))⟩)
  .exact .inr h
 .rcases h with(h|⟨o',h⟩)|h
  .exact .inl (.inl (e _ _ h (n h (by intro z;cases z))))
  .exact .inl (.inr ⟨o',e _ _ h (n h (by intro z;cases z))⟩)
  .exact .inr h
end L2
namespace Pb
open PySem L2
def oA(a b:fc):List Int:=List.zipWith (·+·) a b
def zrs(m:Int):List Int:=List.replicate m.toNat 0
def uh(m:Int)(a:List (List Int)):List Int:=a.foldl oA (zrs m)
def ou(b l:fc):List Int:=if b.sum<l.sum then l else b
theorem IH{b l:fc}(h:b.sum<l.sum):ou b l=l:=aj h
theorem I0{b l:fc}(h:¬b.sum<l.sum):ou b l=b:=ag h
def lT(b:hD)(a:fm)(v:Int):Int:=(ce b v (a v)).getD 1
def dnT(b:hD)(a:fm)(v:Int):Int:=(ce b (a v) v).getD 1
abbrev kd(m:Int)(b:hD)(r:Int)(a:fm)(v:Int):List Int:=bQ m b (front r a v) v
def Ϫ(m:Int)(c:hD)(r:Int)(a:fm)(b:Int->List Int)(v:Int)(x:V):List Int:=uh m (((kd m c r a v).filter λk=>decide (V.int k≠x)).map b)
def pZ(b:fc)(v d:Int):List Int:=b.set v.toNat (b.getD v.toNat 0+d)
def byK(m:Int)(c:hD)(r:Int)(a:fm)(e:fm)(d:Int->List Int)(f:Int->Int->List Int)(v b k:Int):List Int:=oA (f k (lT c a k*(b-e k*dnT c a k+1)-1)) (Ϫ m c r a d v (.int k))
def qu(m:Int)(b:hD)(r:Int)(a:fm)(c:fm)(d:Int->List Int)(e:Int->Int->List Int)(v y:Int):List Int:=((kd m b r a v).map (byK m b r a c d e v (c v+y))).foldl ou (pZ (Ϫ m b r a d v .ο) v (c v+y))
def ld(m:Int)(b:hD)(r:Int)(a:fm)(c:fm):Nat->Bool->Int->Int->List Int
 | 0,_,_,_=>[]
 | n+1,true,v,y=>qu m b r a c (λk=>ld m b r a c n false k 0) (λk z=>ld m b r a c n true k z) v y
 | n+1,false,v,_=>if 0<c v then Ϫ m b r a (λk=>ld m b r a c n false k 0) v .ο else qu m b r a c (λk=>ld m b r a c n false k 0) (λk z=>ld m b r a c n true k z) v (lT b a v-1)
def nE(m:Int)(c:hD)(r:Int)(a:fm)(b:fv)(d:fm)(v y:Int):List Int:=ld m c r a d (m.toNat-b v) true v y
def ύ(m:Int)(c:hD)(r:Int)(a:fm)(b:fv)(d:fm)(v:Int):List Int:=ld m c r a d (m.toNat-b v) false v 0
def qA(m:Int)(a:fc):Int:=((bM m.toNat).filter λv=>decide (0<a.getD v.toNat 0)).headD 0
theorem K4{m:Int}{b:fc}(t:(b.length:Int)=m)(o:∀x∈b,0<=x)(h:b.sum≠0):∃d,((bM m.toNat).filter λv=>decide (0<b.getD v.toNat 0))=qA m b::d/\(0<=qA m b/\qA m b<m)/\0<b.getD (qA m b).toNat 0:=by
 have p:∃x∈b,0<x:=by
  refine Classical.byContradiction λn=>h ?_;have:∀l:List Int,(∀x∈l,x=0)->l.sum=0:=by
   intro l
   induction l with
   | nil=>intro _;rfl
   | cons a l ih=>intro q;rw[aH,q a aA,ih λx c=>q x (ap _ c)];rfl
  refine this b λx c=>?_;have s:=o x c;have u:¬0<x:=λz=>n ⟨x,c,z⟩
  lia
 obtain⟨x,c,k⟩:=p;obtain⟨i,g,rfl⟩:=ke.mp c;have f:(i:Int)∈(bM m.toNat).filter λv=>decide (0<b.getD v.toNat 0):=by
  refine bx.mpr ⟨aO (fy (show i<m.toNat by lia)),bq ?_⟩;rw[show((i:Int)).toNat=i from rfl,bo,ay g];exact k
 unfold qA;cases e:(bM m.toNat).filter λv=>decide (0<b.getD v.toNat 0)with
 | nil=>rw[e]at f;cases f
 | cons a d=>
   have j:a∈(bM m.toNat).filter λv=>decide (0<b.getD v.toNat 0):=by rw[e];exact aA
   have w:=bx.mp j;have r:=fh.mp w.1;exact⟨d,rfl,⟨r.1,by have:=r.2;show a<m;lia⟩,bF w.2⟩
theorem Va(m:Int):(zrs m).sum=0:=by
 unfold zrs
 induction m.toNat with
 | zero=>rfl
 | succ n ih=>rw[cN,aH,ih];rfl
theorem IW:∀{l:fc},(∀x∈l,0<=x)->0<=l.sum
 | [],_=>by decide
 | a::l,h=>by
   have d:=h a aA;have c:=IW λx b=>h x (ap _ b);rw[aH]
   lia
theorem G3:∀{l:fc},(∀x∈l,0<=x)->∀{x:Int},x∈l->x<=l.sum
 | a::l,h,x,hx=>by
   have c:=h a aA;have b:=IW λx hx=>h x (ap _ hx);rw[aH];rcases aw.mp hx with rfl|hx
   .lia
   .have:=G3 (λx hx=>h x (ap _ hx)) hx
    lia
theorem tm{f c:Type}{R:f->c->Prop}:∀{l:List f}{d:List c},Paired R l d->∀{i:Nat}{b:c},d[i]?=some b->∃a,l[i]?=some a/\R a b
 | _,_,.nil,i,b,e=>by simp at e
 | _,_,.cons (a:=a) (b:=b') h _,0,b,e=>by
   rw[List.getElem?_cons_zero]at e;cases e;exact⟨a,rfl,h⟩
 | _,_,.cons h hs,i+1,b,e=>by
   rw[ji]at e;obtain⟨a,j,g⟩:=tm hs e;exact⟨a,by rw[ji];exact j,g⟩
theorem wH{e c:Type}{R S:e->c->Prop}:∀{l:List e}{d:List c},(∀a b,a∈l->R a b->S a b)->Paired R l d->Paired S l d
 | _,_,_,.nil=>.nil
 | _,_,f,.cons h hs=>.cons (f _ _ aA h) (wH (λa b g=>f a b (ap _ g)) hs)
theorem EX{c d:Type}{R:c->d->Prop}:∀{l:List c}{e:List d},Paired R l e->∀{a:c},a∈l->∃b,R a b
 | _,_,.nil,a,h=>by cases h
 | _,_,.cons (b:=b) h hs,a,ha=>by
   rcases aw.mp ha with rfl|ha
   .exact⟨b,h⟩
   .exact EX hs ha
theorem uT{d c:Type}{R:d->c->Prop}{a:d}{b:c}(e:R a b):∀{l:List d}{f:List c},Paired R l f->Paired R (l++[a]) (f++[b])
 | _,_,.nil=>.cons e .nil
 | _,_,.cons x xs=>.cons x (uT e xs)
theorem wN{b:Type}{a:List b}{i:Int}(h:0<=i):Ϧ a i=a[i.toNat]?:=by
 cases e:a[i.toNat]? with
 | some v=>exact dj h e
 | none=>
   have:=List.getElem?_eq_none_iff.mp e;unfold Ϧ ixN;rw[aj h,ag (by lia)]
   rfl
theorem FM{m v:Int}(a:0<=v)(b:v<m):(bM m.toNat)[v.toNat]?=some v:=by
 rw[fy (by lia)];exact congrArg some (bA a)
theorem E1{m v:Int}(b:fm)(a:0<=v)(c:v<m):Ϧ (((bM m.toNat).map b).map V.int) v=some (.int (b v)):=dj a (by
 rw[aJ,aJ,FM a c]
 rfl)
theorem Lm(m:Int):(zrs m).map V.int=List.replicate m.toNat (V.int 0):=by unfold zrs;rw[gU]
theorem Nk{m:Int}{a:List (List Int)}{l:fc}:uh m (a++[l])=oA (uh m a) l:=by unfold uh;rw[List.foldl_append];rfl
section
variable{m:Int}{j:hD}{r:Int}{f:fm}{i:fv}{o:fm}
theorem za{b a:Int->List Int}{v:Int}{x:V}(h:∀k∈kd m j r f v,b k=a k):Ϫ m j r f b v x=Ϫ m j r f a v x:=by
 unfold Ϫ;rw[bH λk c=>h k (bx.mp c).1]
theorem Bb{c a:Int->List Int}{d b:Int->Int->List Int}{v y:Int}(h:∀k∈kd m j r f v,c k=a k)(g:∀k∈kd m j r f v,∀z,d k z=b k z):qu m j r f o c d v y=qu m j r f o a b v y:=by
 unfold qu byK;rw[za (x:=.ο) h,bH λk e=>by rw[g k e,za (x:=.int k) h]]
theorem gu(g:Good m j)(R:ε m j r f i){v:Int}(c:0<=v)(b:v<m){k:Int}(a:k∈kd m j r f v):((0<=k/\k<m)/\k≠r/\f k=v)/\m.toNat-i v=m.toNat-i k+1/\1<=m.toNat-i k:=by
 have w:=(bz g R c b).mp a;have:=R.pos w.1.1 w.1.2 w.2.1;have d:=gP R w.1.1 w.1.2;rw[w.2.2]at this;exact⟨w,by lia,by lia⟩
theorem IJ(R:ε m j r f i){v:Int}(b:0<=v)(a:v<m):∃n,m.toNat-i v=n+1:=⟨m.toNat-i v-1,by have:=gP R b a;lia⟩
theorem vd(g:Good m j)(R:ε m j r f i){v y:Int}(c:0<=v)(d:v<m):nE m j r f i o v y=qu m j r f o (ύ m j r f i o) (nE m j r f i o) v y:=by
 obtain⟨n,e⟩:=IJ R c d;have b:∀k∈kd m j r f v,m.toNat-i k=n:=λk a=>by have:=(gu g R c d a).2.1;lia
 unfold nE;rw[e];show qu m j r f o _ _ v y=_;exact Bb (λk a=>by show _=ld m j r f o (m.toNat-i k) false k 0;rw[b k a]) (λk a z=>by show _=ld m j r f o (m.toNat-i k) true k z;rw[b k a])
theorem xN(g:Good m j)(R:ε m j r f i){v:Int}(h:0<=v)(d:v<m):ύ m j r f i o v=if 0<o v then Ϫ m j r f (ύ m j r f i o) v .ο else nE m j r f i o v (lT j f v-1):=by
 obtain⟨n,e⟩:=IJ R h d;have b:∀k∈kd m j r f v,m.toNat-i k=n:=λk a=>by have:=(gu g R h d a).2.1;lia
 rw[vd g R h d];unfold ύ;rw[e];show(if 0<o v then Ϫ m j r f _ v .ο else qu m j r f o _ _ v _)=_;by_cases c:0<o v
 .rw[aj c,aj c];exact za λk a=>by rw[b k a]
 .rw[ag c,ag c];exact Bb (λk a=>by show _=ld m j r f o (m.toNat-i k) false k 0;rw[b k a]) (λk a z=>by show _=ld m j r f o (m.toNat-i k) true k z;rw[b k a])
theorem uQ{a b:fc}{n:Nat}(d:a.length=n)(c:b.length=n):(oA a b).length=n:=by unfold oA;rw[List.length_zipWith];lia
theorem zA{m:Int}:∀(b:List (List Int))(a:fc),a.length=m.toNat->(∀l∈b,l.length=m.toNat)->(b.foldl oA a).length=m.toNat
 | [],a,h,_=>h
 | l::b,a,h,hl=>zA b (oA a l) (uQ h (hl l aA)) λx c=>hl x (ap _ c)
theorem uy(m:Int):(zrs m).length=m.toNat:=cC
theorem wm{a:Int->List Int}{v:Int}{x:V}(h:∀k∈kd m j r f v,(a k).length=m.toNat):(Ϫ m j r f a v x).length=m.toNat:=by
 unfold Ϫ uh;refine zA _ _ (uy m) λl b=>?_;obtain⟨k,c,rfl⟩:=aU.mp b;exact h k (bx.mp c).1
theorem FC{P:List Int->Prop}:∀(a:List (List Int))(b:fc),P b->(∀l∈a,P l)->P (a.foldl ou b)
 | [],b,h,_=>h
 | l::a,b,h,hl=>FC a (ou b l) (by
   unfold ou;split
   .exact hl l aA
   .exact h) λx c=>hl x (ap _ c)
theorem Jv{b:fc}{v d:Int}:(pZ b v d).length=b.length:=by unfold pZ;rw[b4]
theorem PM{a:Int->List Int}{b:Int->Int->List Int}{v y:Int}(h:∀k∈kd m j r f v,(a k).length=m.toNat)(e:∀k∈kd m j r f v,∀z,(b k z).length=m.toNat):(qu m j r f o a b v y).length=m.toNat:=by
 unfold qu;refine FC (P:=λl=>l.length=m.toNat) _ _ (by rw[Jv];exact wm h) λl c=>?_;obtain⟨k,d,rfl⟩:=aU.mp c;exact uQ (e k d _) (wm h)
theorem IM(g:Good m j)(R:ε m j r f i):∀(n:Nat)(v:Int),0<=v->v<m->m.toNat-i v=n->(ύ m j r f i o v).length=m.toNat/\∀y,(nE m j r f i o v y).length=m.toNat
 | 0,v,h0,h1,e=>by have:=gP R h0 h1;lia
 | n+1,v,h0,h1,e=>by
   have c:∀k∈kd m j r f v,_:=λk b=>by
    have w:=gu g R h0 h1 b;exact IM g R n k w.1.1.1 w.1.1.2 (by lia)
   have a:∀y,(nE m j r f i o v y).length=m.toNat:=λy=>by
    rw[vd g R h0 h1];exact PM (λk b=>(c k b).1) λk b=>(c k b).2
   refine⟨?_,a⟩;rw[xN g R h0 h1];split
   .exact wm λk b=>(c k b).1
   .exact a _
theorem wV(g:Good m j)(R:ε m j r f i){v:Int}(b:0<=v)(a:v<m):(ύ m j r f i o v).length=m.toNat:=(IM g R _ v b a rfl).1
theorem LR(g:Good m j)(R:ε m j r f i){v y:Int}(a:0<=v)(b:v<m):(nE m j r f i o v y).length=m.toNat:=(IM g R _ v a b rfl).2 y
end
theorem BM:∀{xs ys:fc},xs.length=ys.length->(oA xs ys).sum=xs.sum+ys.sum
 | [],[],_=>rfl
 | a::xs,b::ys,h=>by
   have c:=BM (xs:=xs) (ys:=ys) (by simpa using h);unfold oA at c ⊢;rw[mT,aH,aH,aH,c]
   lia
theorem Fl{n:Nat}:∀(b:List (List Int))(a:fc),a.length=n->(∀l∈b,l.length=n)->(b.foldl oA a).sum=a.sum+(b.map List.sum).sum
 | [],a,_,_=>by simp
 | l::b,a,ha,hl=>by
   have c:=hl l aA;rw[g0,Fl b _ (uQ ha c) λx d=>hl x (ap _ d),BM (ha.trans c.symm),aq,aH]
   lia
theorem Hl(l:fc):(l.filter λk=>decide (V.int k≠V.ο))=l:=oE.mpr λk _=>by simp
theorem JA{f:fm}:∀{l:fc},l.Nodup->∀{k:Int},k∈l->((l.filter λj=>decide (V.int j≠V.int k)).map f).sum=(l.map f).sum-f k
 | a::l,nd,k,hk=>by
   obtain⟨c,b⟩:=bg.mp nd;by_cases e:a=k
   .subst e;rw[eW (by simp),aq,aH];rw[oE.mpr λj d=>by
     have:j≠a:=λz=>c (z▸d)
     simpa using this]
    lia
   .rw[eV (by simpa using e),aq,aH,aq,aH,JA b ((aw.mp hk).resolve_left (Ne.symm e))]
    lia
theorem Su{b:fc}{v d:Int}(h:v.toNat<b.length):(pZ b v d).sum=b.sum+d:=by
 unfold pZ;rw[Aj _ _ _ h]
 lia
theorem U7{b l:fc}:b.sum<=(ou b l).sum/\l.sum<=(ou b l).sum:=by
 by_cases h:b.sum<l.sum
 .rw[IH h];lia
 .rw[I0 h];lia
theorem Jc:∀(c:List (List Int))(b:fc),b.sum<=(c.foldl ou b).sum/\∀l∈c,l.sum<=(c.foldl ou b).sum
 | [],b=>⟨bw _,λl h=>by cases h⟩
 | a::c,b=>by
   obtain⟨d,e⟩:=Jc c (ou b a);have g:=U7 (b:=b) (l:=a);refine⟨bW g.1 d,λl hl=>?_⟩;rcases aw.mp hl with rfl|hl
   .exact bW g.2 d
   .exact e l hl
theorem B6:∀(c:List (List Int))(b:fc),c.foldl ou b=b\/c.foldl ou b∈c
 | [],b=>.inl rfl
 | a::c,b=>by
   rw[g0];rcases B6 c (ou b a)with h|h
   .rw[h];by_cases z:b.sum<a.sum
    .rw[IH z];exact .inr aA
    .rw[I0 z];exact .inl rfl
   .exact .inr (ap _ h)
theorem wF{f:fm}{l:fc}(h:∀c∈l,0<=f c):0<=(l.map f).sum:=IW λx a=>by
 obtain⟨c,b,rfl⟩:=aU.mp a;exact h c b
theorem Ov{f:fm}{l:fc}(h:∀c∈l,0<=f c){c:Int}(a:c∈l):f c<=(l.map f).sum:=G3 (λx b=>by
 obtain⟨c,a,rfl⟩:=aU.mp b;exact h c a) (aU.mpr ⟨c,a,rfl⟩)
theorem HV{f h:fm}:∀{l:fc},(l.map λc=>f c+h c).sum=(l.map f).sum+(l.map h).sum
 | []=>by simp
 | a::l=>by rw[aq,aq,aq,aH,aH,aH,HV];lia
section
variable{m:Int}{p:hD}{r:Int}{j:fm}{o:fv}{nd:fm}
theorem sZ(g:Good m p)(R:ε m p r j o){v:Int}(e:0<=v)(d:v<m)(c:v≠r):2<=lT p j v/\2<=dnT p j v:=by
 obtain⟨k,h,a,_⟩:=kC g R e d c;obtain⟨i,f,b,_⟩:=Aa g R e d c;unfold lT dnT;rw[h,f];exact⟨a,b⟩
def idS(m:Int)(p:hD)(r:Int)(j:fm)(o:fv)(nd:fm)(v:Int):Int:=((kd m p r j v).map λc=>(ύ m p r j o nd c).sum).sum
def gS(m:Int)(p:hD)(r:Int)(j:fm)(o:fv)(nd:fm)(v D:Int):Int:=(nE m p r j o nd v (D-nd v)).sum-idS m p r j o nd v
def gK(m:Int)(p:hD)(r:Int)(j:fm)(o:fv)(nd:fm)(k D:Int):Int:=(nE m p r j o nd k (lT p j k*(D-nd k*dnT p j k+1)-1)).sum-(ύ m p r j o nd k).sum
theorem Ez(g:Good m p)(R:ε m p r j o){v:Int}(d:0<=v)(b:v<m)(x:V):(Ϫ m p r j (ύ m p r j o nd) v x).sum=(((kd m p r j v).filter λk=>decide (V.int k≠x)).map λc=>(ύ m p r j o nd c).sum).sum:=by
 unfold Ϫ uh;rw[Fl _ _ (uy m) λl a=>?_,Va,cM,iG]
 .rfl
 .obtain⟨k,hk,rfl⟩:=aU.mp a;have w:=gu g R d b (bx.mp hk).1;exact wV g R w.1.1.1 w.1.1.2
theorem Hr(g:Good m p)(R:ε m p r j o){v:Int}(c:0<=v)(b:v<m)(x:V):(Ϫ m p r j (ύ m p r j o nd) v x).length=m.toNat:=wm λk a=>by
 have w:=gu g R c b a;exact wV g R w.1.1.1 w.1.1.2
theorem L0(g:Good m p)(R:ε m p r j o){v:Int}(b:0<=v)(a:v<m){k:Int}(c:k∈kd m p r j v)(D:Int):(byK m p r j nd (ύ m p r j o nd) (nE m p r j o nd) v D k).sum=idS m p r j o nd v+gK m p r j o nd k D:=by
 have w:=gu g R b a c;unfold byK gK;rw[BM ((LR g R w.1.1.1 w.1.1.2).trans (Hr g R b a _).symm),Ez g R b a,JA (show(kd m p r j v).Nodup from jQ) c];unfold idS
 lia
theorem YV(g:Good m p)(R:ε m p r j o){v:Int}(c:0<=v)(b:v<m)(D:Int):D<=gS m p r j o nd v D/\(∀k∈kd m p r j v,gK m p r j o nd k D<=gS m p r j o nd v D)/\(gS m p r j o nd v D=D\/∃k∈kd m p r j v,gS m p r j o nd v D=gK m p r j o nd k D):=by
 have e:nd v+(D-nd v)=D:=by lia
 have d:(pZ (Ϫ m p r j (ύ m p r j o nd) v .ο) v D).sum=idS m p r j o nd v+D:=by
  rw[Su (by rw[Hr g R c b];lia),Ez g R c b,Hl]
  rfl
 unfold gS;rw[vd g R c b];unfold qu;rw[e];obtain⟨i,f⟩:=Jc ((kd m p r j v).map (byK m p r j nd (ύ m p r j o nd) (nE m p r j o nd) v D)) (pZ (Ϫ m p r j (ύ m p r j o nd) v .ο) v D);refine⟨by lia,λk a=>?_,?_⟩
 .have:=f _ (aU.mpr ⟨k,a,rfl⟩);rw[L0 g R c b a]at this
  lia
 .rcases B6 ((kd m p r j v).map (byK m p r j nd (ύ m p r j o nd) (nE m p r j o nd) v D)) (pZ (Ϫ m p r j (ύ m p r j o nd) v .ο) v D)with h|h
  .rw[h,d];exact .inl (by lia)
  .obtain⟨k,a,e⟩:=aU.mp h;rw[<-e,L0 g R c b a];exact .inr ⟨k,a,by lia⟩
theorem Ii{k y:Int}:(nE m p r j o nd k y).sum=idS m p r j o nd k+gS m p r j o nd k (y+nd k):=by
 unfold gS;rw[show y+nd k-nd k=y by lia]
 lia
theorem LP(g:Good m p)(R:ε m p r j o){k:Int}(a:0<=k)(b:k<m):(ύ m p r j o nd k).sum=idS m p r j o nd k+if 0<nd k then 0 else gS m p r j o nd k (lT p j k-1+nd k):=by
 rw[xN g R a b];split
 .rw[Ez g R a b,Hl];unfold idS
  lia
 .exact Ii
structure Nds(m:Int)(p:hD)(r:Int)(j:fm)(w nd:fm):Prop where
 st:∀v,0<=v->v<m->nd v=w v+((kd m p r j v).map λc=>nd c*dnT p j c).sum
 nn:∀v,0<=v->v<m->0<=nd v
 w0:∀v,0<=v->v<m->0<=w v
variable{w:fm}
theorem dn0(g:Good m p)(R:ε m p r j o)(N:Nds m p r j w nd){v:Int}(a:0<=v)(b:v<m):∀c∈kd m p r j v,0<=nd c*dnT p j c:=λc d=>by
 have q:=(gu g R a b d).1;have t:=sZ g R q.1.1 q.1.2 q.2.1;exact dF (N.nn c q.1.1 q.1.2) (by lia)
theorem OJ(g:Good m p)(R:ε m p r j o)(N:Nds m p r j w nd){v:Int}(a:0<=v)(b:v<m){c:Int}(d:c∈kd m p r j v):w v+nd c*dnT p j c<=nd v:=by
 rw[N.st v a b];have:=Ov (dn0 g R N a b) d
 lia
theorem Me(g:Good m p)(R:ε m p r j o)(N:Nds m p r j w nd){v:Int}(a:0<=v)(b:v<m)(z:nd v<=0){c:Int}(d:c∈kd m p r j v):nd c=0:=by
 have h:=OJ g R N a b d;have q:=(gu g R a b d).1;have t:=sZ g R q.1.1 q.1.2 q.2.1;have n:=N.nn c q.1.1 q.1.2;have w0:=N.w0 v a b;have:=bU t.2 n
 lia
theorem Vx(g:Good m p)(R:ε m p r j o){v:Int}(s:0<=v)(u:v<m):1<=υ m p r j o v/\(∀c∈kd m p r j v,υ m p r j o c*lT p j c<=υ m p r j o v)/\(υ m p r j o v=1\/∃c∈kd m p r j v,υ m p r j o v=υ m p r j o c*lT p j c):=by
 have e:υ m p r j o v=((kd m p r j v).map λc=>υ m p r j o c*lT p j c).foldl mx 1:=sG g R s u;have q:∀(l:fc)(a:Int),a<=l.foldl mx a/\(∀x∈l,x<=l.foldl mx a)/\(l.foldl mx a=a\/l.foldl mx a∈l):=by
  intro l
  induction l with
  | nil=>intro a;exact⟨bw _,λx h=>(by cases h),.inl rfl⟩
  | cons b l ih=>
    intro a;obtain⟨y,t,i3⟩:=ih (mx a b);have n:a<=mx a b/\b<=mx a b/\(mx a b=a\/mx a b=b):=(by unfold mx;split<;>lia);rw[g0];refine⟨by lia,λx hx=>?_,?_⟩
    .rcases aw.mp hx with rfl|hx
     .lia
     .exact t x hx
    .rcases i3 with i3|i3
     .rw[i3];rcases n.2.2 with h|h
      .exact .inl h
      .rw[h];exact .inr aA
     .exact .inr (ap _ i3)
 obtain⟨f,i,k⟩:=q ((kd m p r j v).map λc=>υ m p r j o c*lT p j c) 1;rw[<-e]at f i k;refine⟨f,λc d=>i _ (aU.mpr ⟨c,d,rfl⟩),k.imp id λh=>?_⟩;obtain⟨c,d,e⟩:=aU.mp h;exact⟨c,d,e.symm⟩
theorem Fb(g:Good m p)(R:ε m p r j o)(N:Nds m p r j w nd):∀(n:Nat)(v:Int),0<=v->v<m->m.toNat-o v=n->(∀k∈kd m p r j v,nd k=0)->∀D,0<=D->gS m p r j o nd v D=υ m p r j o v*D
 | 0,v,h0,h1,e,_,_,_=>by have:=gP R h0 h1;lia
 | n+1,v,h0,h1,e,z,D,D0=>by
   have d:∀k∈kd m p r j v,gK m p r j o nd k D=υ m p r j o k*lT p j k*D:=λk a=>by
    obtain⟨q,C,_⟩:=gu g R h0 h1 a;have s:=z k a;have t:=sZ g R q.1.1 q.1.2 q.2.1;have b:=Fb g R N n k q.1.1 q.1.2 (by lia) (λc l=>Me g R N q.1.1 q.1.2 (by lia) l);have f:0<=lT p j k*(D+1)-1:=by
     have:=bU (show 1<=D+1 by lia) (show 0<=lT p j k by lia)
     lia
    unfold gK;rw[Ii,LP g R q.1.1 q.1.2,s,ag (by decide),j3,kb,g6,g6,b _ f,b _ (by lia)];rw[eC,eC,dB,dB,fJ,gO]
    lia
   obtain⟨B,y,u⟩:=YV (nd:=nd) g R h0 h1 D;obtain⟨x,i,A⟩:=Vx g R h0 h1;have le:gS m p r j o nd v D<=υ m p r j o v*D:=by
    rcases u with h|⟨k,a,h⟩
    .rw[h];have:=b9 x D0
     lia
    .rw[h,d k a];exact b9 (i k a) D0
   have ge:υ m p r j o v*D<=gS m p r j o nd v D:=by
    rcases A with h|⟨k,a,h⟩
    .rw[h];lia
    .rw[h,<-d k a];exact y k a
   lia
variable{x st s:fm}
theorem Oy(v z:Int):ϝ p j v z=if 0<=z then z/lT p j v else z*dnT p j v:=rfl
theorem LJ(g:Good m p)(R:ε m p r j o)(x:fm):∀(n:Nat)(v:Int),0<=v->v<m->m.toNat-o v=n->Ε m p r j o x (λ_ z=>z) v=((cI m p r j o v).map x).sum
 | 0,v,h0,h1,e=>by have:=gP R h0 h1;lia
 | n+1,v,h0,h1,e=>by
   rw[eG g R h0 h1,jv g R h0 h1,aq,aH];have:∀l:List Int,(∀c∈l,c∈kd m p r j v)->(l.map λc=>Ε m p r j o x (λ_ z=>z) c).sum=((l.flatMap (cI m p r j o)).map x).sum:=by
    intro l
    induction l with
    | nil=>intro _;rfl
    | cons a l ih=>
      intro h;obtain⟨q,d,_⟩:=gu g R h0 h1 (h a aA);rw[aq,aH,c9,aI,fB,ih λc b=>h c (ap _ b),LJ g R x n a q.1.1 q.1.2 (by lia)]
   rw[this _ λc b=>b]
theorem Vl(g:Good m p)(R:ε m p r j o)(a:0<=r)(b:r<m)(x:fm):Ε m p r j o x (λ_ z=>z) r=((bM m.toNat).map x).sum:=by
 rw[LJ g R x _ r a b rfl];obtain⟨t,e,O⟩:=FJ g R a b;rw[e];refine sx ((iP O.nd (ij _) λv=>?_).map x);rw[aw,fh];refine⟨λh=>?_,λh=>O.all v h.1 (by have:=h.2;lia)⟩;rcases h with h|h
 .rw[h];exact⟨a,by lia⟩
 .have:=O.Ι v h
  lia
theorem Mc(g:Good m p)(R:ε m p r j o){x:fm}{d:g8}(i:∀v,0<=v->v<m->0<=x v)(h:∀v z,0<=v->v<m->v≠r->0<=z->0<=d v z):∀(n:Nat)(v:Int),0<=v->v<m->m.toNat-o v=n->0<=Ε m p r j o x d v
 | 0,v,h0,h1,e=>by have:=gP R h0 h1;lia
 | n+1,v,h0,h1,e=>by
   rw[eG g R h0 h1];have a:=i v h0 h1;have b:=wF (l:=kd m p r j v) (f:=λc=>d c (Ε m p r j o x d c)) λc k=>by
    obtain⟨q,t,_⟩:=gu g R h0 h1 k;exact h c _ q.1.1 q.1.2 q.2.1 (Mc g R i h n c q.1.1 q.1.2 (by lia))
   exact Int.add_nonneg a b
abbrev zN(m:Int)(p:hD)(r:Int)(j:fm)(o:fv)(a:fc):Int->Int:=Ε m p r j o (λv=>a.getD v.toNat 0) (ned p j)
theorem Hg{a:fc}(b:∀x∈a,0<=x)(i:Nat):0<=a.getD i 0:=by
 rw[bo];cases e:a[i]? with
 | none=>exact bw _
 | some y=>exact b y (aO e)
theorem P4(g:Good m p)(R:ε m p r j o){h:fc}(i:∀y∈h,0<=y):Nds m p r j (λv=>h.getD v.toNat 0) (zN m p r j o h) where
 st:=λv e f=>eG g R e f
 nn:=λv e f=>Mc g R (λv _ _=>Hg i _) (λv z a b c d=>by
  have t:=sZ g R a b c;unfold ned;exact dF d (show 0<=dnT p j v by lia)) _ v e f rfl
 w0:=λv _ _=>Hg i _
theorem Iw(g:Good m p)(R:ε m p r j o)(N:Nds m p r j w nd)(b:∀v,0<=v->v<m->v≠r->w v=0):∀(n:Nat)(v:Int),0<=v->v<m->v≠r->m.toNat-o v=n->nd v=0
 | 0,v,h0,h1,_,e=>by have:=gP R h0 h1;lia
 | n+1,v,h0,h1,hr,e=>by
   rw[N.st v h0 h1,b v h0 h1 hr,bH (g:=λ_=>(0:Int)) λc d=>?_]
   .have:∀l:List Int,(l.map λ_=>(0:Int)).sum=0:=λl=>by
     induction l with
     | nil=>rfl
     | cons a l ih=>rw[aq,aH,ih];rfl
    rw[this]
    rfl
   .obtain⟨q,q2,_⟩:=gu g R h0 h1 d;show nd c*dnT p j c=0;rw[Iw g R N b n c q.1.1 q.1.2 q.2.1 (by lia),j3]
def hol(m:Int)(p:hD)(r:Int)(j:fm)(o:fv)(v:Int):Int:=υ m p r j o v*(lT p j v-1)
theorem Lz(g:Good m p)(R:ε m p r j o)(N:Nds m p r j w nd)(a:∀v,0<=v->v<m->v≠r->w v=0):∀(n:Nat)(v:Int),0<=v->v<m->m.toNat-o v=n->idS m p r j o nd v=Ε m p r j o (hol m p r j o) (λ_ z=>z) v-hol m p r j o v
 | 0,v,h0,h1,e=>by have:=gP R h0 h1;lia
 | n+1,v,h0,h1,e=>by
   rw[eG g R h0 h1];unfold idS;rw[bH (g:=λc=>Ε m p r j o (hol m p r j o) (λ_ z=>z) c) λc d=>?_]
   .show _=hol m p r j o v+((kd m p r j v).map λc=>Ε m p r j o (hol m p r j o) (λ_ z=>z) c).sum-_
    lia
   .obtain⟨q,q2,_⟩:=gu g R h0 h1 d;have z:=Iw g R N a _ c q.1.1 q.1.2 q.2.1 rfl;have t:=sZ g R q.1.1 q.1.2 q.2.1;rw[LP g R q.1.1 q.1.2,z,ag (by decide),g6,Fb g R N _ c q.1.1 q.1.2 rfl (λk b=>Me g R N q.1.1 q.1.2 (by lia) b) _ (by lia),Lz g R N a n c q.1.1 q.1.2 (by lia)];unfold hol
    lia
theorem Nx(g:Good m p)(R:ε m p r j o)(N:Nds m p r j w nd)(f:∀v,0<=v->v<m->v≠r->w v=0)(b:0<=r)(d:r<m)(z:1<=w r){t:fc}(O:Order m r j t):(nE m p r j o nd r (-1)).sum+1=1+(t.map (hol m p r j o)).sum+υ m p r j o r*(w r-1):=by
 have e:∀k∈kd m p r j r,nd k=0:=λk i=>by
  obtain⟨q,_,_⟩:=gu g R b d i;exact Iw g R N f _ k q.1.1 q.1.2 q.2.1 rfl
 have u:nd r=w r:=by
  rw[N.st r b d,bH (g:=λ_=>(0:Int)) λc n=>by rw[e c n,j3]];have:∀l:List Int,(l.map λ_=>(0:Int)).sum=0:=λl=>by
   induction l with
   | nil=>rfl
   | cons a l ih=>rw[aq,aH,ih];rfl
  rw[this]
  lia
 have y:((bM m.toNat).map (hol m p r j o)).sum=hol m p r j o r+(t.map (hol m p r j o)).sum:=by
  rw[<-aH,<-aq];refine(sx ((iP O.nd (ij _) λv=>?_).map _)).symm;rw[aw,fh];refine⟨λh=>?_,λh=>O.all v h.1 (by have:=h.2;lia)⟩;rcases h with h|h
  .rw[h];exact⟨b,by lia⟩
  .have:=O.Ι v h
   lia
 rw[Ii,u,Fb g R N _ r b d rfl e _ (by lia),Lz g R N f _ r b d rfl,Vl g R b d,y,show(-1:Int)+w r=w r-1 by lia]
 lia
theorem Us{m r b:Int}(C:0<=r)(B:r<m)(u:1<=b){a:fc}(c:a=(zrs m).set r.toNat b):(a.length:Int)=m/\(∀y∈a,0<=y)/\a.sum≠0/\qA m a=r/\a.getD r.toNat 0=b/\∀v,0<=v->v<m->v≠r->a.getD v.toNat 0=0:=by
 have l:(zrs m).length=m.toNat:=uy m;have f:(a.length:Int)=m:=by rw[c,b4,l];lia
 have d:∀y∈a,0<=y:=λy k=>by
  rw[c]at k;rcases iQ k with q|q
  .rw[(List.mem_replicate.mp q).2];decide
  .lia
 have t:a.getD r.toNat 0=b:=by
  rw[c,bo,da (by lia)];rfl
 have g:∀v,0<=v->v<m->v≠r->a.getD v.toNat 0=0:=λv A D z=>by
  rw[c,bo,cT (by lia)];unfold zrs;rw[j2 (by lia)]
  rfl
 have i:a.sum≠0:=λq=>by
  have:=G3 d (x:=b) (by rw[c];exact List.mem_iff_getElem?.mpr ⟨r.toNat,da (by lia)⟩)
  lia
 obtain⟨_,_,e,h⟩:=K4 f d i;refine⟨f,d,i,?_,t,g⟩;refine Classical.byContradiction λn=>?_;rw[g _ e.1 e.2 n]at h;exact absurd h (by decide)
end
theorem FD{f:Int->List Int}:∀{l:fc},(l.flatMap f).Nodup->∀{a b u:Int},a∈l->b∈l->u∈f a->u∈f b->a=b
 | c::l,nd,a,b,u,ha,hb,ua,ub=>by
   rw[c9]at nd;obtain⟨g,e,d⟩:=dU.mp nd;rcases aw.mp ha with ha|ha<;>rcases aw.mp hb with hb|hb
   .rw[ha,hb]
   .rw[ha]at ua;exact absurd rfl (d u ua u (d9.mpr ⟨b,hb,ub⟩))
   .rw[hb]at ub;exact absurd rfl (d u ub u (d9.mpr ⟨a,ha,ua⟩))
   .exact FD e ha hb ua ub
theorem ph:∀{xs ys:fc},xs.length=ys.length->∀(i:Nat),(oA xs ys).getD i 0=xs.getD i 0+ys.getD i 0
 | [],[],_,i=>by simp[oA]
 | a::xs,b::ys,h,0=>by simp[oA]
 | a::xs,b::ys,h,i+1=>by
   have c:=ph (xs:=xs) (ys:=ys) (by simpa using h) i;unfold oA at c ⊢;rw[mT,kI,kI,kI,c]
theorem Fe{n:Nat}(i:Nat):∀(b:List (List Int))(a:fc),a.length=n->(∀l∈b,l.length=n)->(b.foldl oA a).getD i 0=a.getD i 0+(b.map λl=>l.getD i 0).sum
 | [],a,_,_=>by simp
 | l::b,a,ha,hl=>by
   have c:=hl l aA;rw[g0,Fe i b _ (uQ ha c) λx d=>hl x (ap _ d),ph (ha.trans c.symm),aq,aH]
   lia
theorem QM(m:Int)(i:Nat):(zrs m).getD i 0=0:=by
 rw[bo];cases e:(zrs m)[i]? with
 | none=>rfl
 | some y=>exact(List.mem_replicate.mp (aO e)).2
theorem xE{f:fm}:∀{l:fc},(∀c∈l,f c=0)->(l.map f).sum=0
 | [],_=>rfl
 | a::l,h=>by rw[aq,aH,h a aA,xE λc b=>h c (ap _ b)];rfl
theorem xV{f:fm}:∀{l:fc},l.Nodup->∀{c:Int},c∈l->(∀j∈l,j≠c->f j=0)->(l.map f).sum=f c
 | a::l,nd,c,hc,h=>by
   obtain⟨g,d⟩:=bg.mp nd;rw[aq,aH];by_cases e:a=c
   .subst e;rw[xE λj b=>h j (ap _ b) λz=>g (z▸b)]
    lia
   .rw[h a aA e,xV d ((aw.mp hc).resolve_left (Ne.symm e)) λj b=>h j (ap _ b)]
    lia
theorem vG{b:fc}{v d:Int}(h:v.toNat<b.length)(i:Nat):(pZ b v d).getD i 0=b.getD i 0+if i=v.toNat then d else 0:=by
 unfold pZ;by_cases e:i=v.toNat
 .subst e;rw[aj rfl,bo,da h]
  rfl
 .rw[ag e,bo,cT (Ne.symm e),<-bo]
  lia
section
variable{m:Int}{p:hD}{r:Int}{d:fm}{o:fv}{B w:fm}
theorem PP(g:Good m p)(R:ε m p r d o){v:Int}(b:0<=v)(a:v<m):(cI m p r d o v).Nodup:=(SG g R b a).nodup_iff.mpr ((ij _).filter _)
theorem zY(g:Good m p)(R:ε m p r d o){v:Int}(b:0<=v)(a:v<m){u:Int}:u∈cI m p r d o v↔u=v\/∃c∈kd m p r d v,u∈cI m p r d o c:=by
 rw[jv g R b a,aw,d9]
theorem LW(g:Good m p)(R:ε m p r d o){v:Int}(f:0<=v)(e:v<m):(∀c∈kd m p r d v,v∉cI m p r d o c)/\∀{a b u:Int},a∈kd m p r d v->b∈kd m p r d v->u∈cI m p r d o a->u∈cI m p r d o b->a=b:=by
 have n:=PP g R f e;rw[jv g R f e]at n;obtain⟨s,h⟩:=bg.mp n;exact⟨λc l z=>s (d9.mpr ⟨c,l,z⟩),λi q j k=>FD h i q j k⟩
theorem Ex(g:Good m p)(R:ε m p r d o){a f:fm}{b:g8}:∀(n:Nat)(v:Int),0<=v->v<m->m.toNat-o v=n->(∀u∈cI m p r d o v,a u=f u)->Ε m p r d o a b v=Ε m p r d o f b v
 | 0,v,h0,h1,e,_=>by have:=gP R h0 h1;lia
 | n+1,v,h0,h1,e,h=>by
   rw[eG g R h0 h1,eG g R h0 h1,h v (xi g R h0 h1)];rw[bH λc i=>?_];obtain⟨q,k,_⟩:=gu g R h0 h1 i;rw[Ex g R n c q.1.1 q.1.2 (by lia) λu j=>h u ((zY g R h0 h1).mpr (.inr ⟨c,i,j⟩))]
structure Ld(m:Int)(p:hD)(r:Int)(d:fm)(o:fv)(w:fm)(X:fc)(v y:Int):Prop where
 len:X.length=m.toNat
 nn:∀i,0<=X.getD i 0
 off:∀u,0<=u->u∉cI m p r d o v->X.getD u.toNat 0=0
 st:Ε m p r d o (λu=>X.getD u.toNat 0-w u) (ϝ p d) v=y
theorem Ch(g:Good m p)(R:ε m p r d o){v:Int}(e:0<=v)(b:v<m)(x:V)(i:Nat):(Ϫ m p r d (ύ m p r d o B) v x).getD i 0=(((kd m p r d v).filter λk=>decide (V.int k≠x)).map λc=>(ύ m p r d o B c).getD i 0).sum:=by
 unfold Ϫ uh;rw[Fe i _ _ (uy m) λl a=>?_,QM,cM,iG]
 .rfl
 .obtain⟨k,hk,rfl⟩:=aU.mp a;have w:=gu g R e b (bx.mp hk).1;exact wV g R w.1.1.1 w.1.1.2
theorem Cv(g:Good m p)(R:ε m p r d o){v:Int}(h:0<=v)(l:v<m)(x:V)(n:∀c∈kd m p r d v,∃y,Ld m p r d o w (ύ m p r d o B c) c y):(∀i,0<=(Ϫ m p r d (ύ m p r d o B) v x).getD i 0)/\(∀u,0<=u->(∀c∈kd m p r d v,u∉cI m p r d o c)->(Ϫ m p r d (ύ m p r d o B) v x).getD u.toNat 0=0)/\∀c∈kd m p r d v,∀u,0<=u->u∈cI m p r d o c->(Ϫ m p r d (ύ m p r d o B) v x).getD u.toNat 0=if V.int c≠x then(ύ m p r d o B c).getD u.toNat 0 else 0:=by
 refine⟨λi=>?_,λu s q=>?_,λc a u s q=>?_⟩
 .rw[Ch g R h l];refine wF λc a=>?_;obtain⟨y,L⟩:=n c (bx.mp a).1;exact L.nn i
 .rw[Ch g R h l];refine xE λc a=>?_;have a:=(bx.mp a).1;obtain⟨y,L⟩:=n c a;exact L.off u s (q c a)
 .rw[Ch g R h l];have f:∀j∈(kd m p r d v).filter (λk=>decide (V.int k≠x)),j≠c->(ύ m p r d o B j).getD u.toNat 0=0:=λj b t=>by
   have b:=(bx.mp b).1;obtain⟨y,L⟩:=n j b;exact L.off u s λz=>t ((LW g R h l).2 b a z q)
  by_cases e:V.int c≠x
  .rw[aj e];exact xV (jQ.filter _) (bx.mpr ⟨a,bq e⟩) f
  .rw[ag e];exact xE λj b=>f j b λz=>e (by
    rw[<-z];exact bF (bx.mp b).2)
theorem BZ(g:Good m p)(R:ε m p r d o)(N:Nds m p r d w B){c:Int}(a:0<=c)(b:c<m)(e:c≠r):ϝ p d c (if 0<B c then -B c else lT p d c-1)=-(B c*dnT p d c):=by
 have t:=sZ g R a b e;have n:=N.nn c a b;rw[Oy];by_cases z:0<B c
 .rw[aj z,ag (by lia),jt]
 .rw[ag z,aj (by lia),show B c=0 by lia,j3];exact eA (by lia) (by lia)
theorem K5{f:fm}:∀{l:fc},(l.map λc=>-f c).sum=-(l.map f).sum
 | []=>rfl
 | a::l=>by rw[aq,aq,aH,aH,K5];lia
theorem HA(g:Good m p)(R:ε m p r d o)(N:Nds m p r d w B):∀(n:Nat)(v:Int),0<=v->v<m->m.toNat-o v=n->(v≠r->Ld m p r d o w (ύ m p r d o B v) v (if 0<B v then -B v else lT p d v-1))/\∀y,-1<=y->(y=-1->1<=w v)->Ld m p r d o w (nE m p r d o B v y) v y
 | 0,v,h0,h1,e=>by have:=gP R h0 h1;lia
 | n+1,v,h0,h1,e=>by
   have f:∀c∈kd m p r d v,(c≠r/\(0<=c/\c<m))/\Ld m p r d o w (ύ m p r d o B c) c (if 0<B c then -B c else lT p d c-1)/\∀y,0<=y->Ld m p r d o w (nE m p r d o B c y) c y:=λc a=>by
    obtain⟨q,q2,_⟩:=gu g R h0 h1 a;have Z:=HA g R N n c q.1.1 q.1.2 (by lia);exact⟨⟨q.2.1,q.1⟩,Z.1 q.2.1,λy y0=>Z.2 y (by lia) λz=>by lia⟩
   have O:∀c∈kd m p r d v,∃y,Ld m p r d o w (ύ m p r d o B c) c y:=λc a=>⟨_,(f c a).2.1⟩;have ben:∀c∈kd m p r d v,∀u∈cI m p r d o c,0<=u:=λc a u b=>((zU g R (f c a).1.2.1 (f c a).1.2.2 u).mp b).1.1;have K:=LW g R h0 h1;have F:∀(X:fc)(z y:Int)(a:fm),X.length=m.toNat->(∀i,0<=X.getD i 0)->(∀u,0<=u->u∉cI m p r d o v->X.getD u.toNat 0=0)->X.getD v.toNat 0=z->(∀c∈kd m p r d v,∃Y s,Ld m p r d o w Y c s/\ϝ p d c s=a c/\∀u∈cI m p r d o c,X.getD u.toNat 0=Y.getD u.toNat 0)->z-w v+((kd m p r d v).map a).sum=y->Ld m p r d o w X v y:=λX z y a xl xn xo xz xk hy=>by
    refine⟨xl,xn,xo,?_⟩;rw[eG g R h0 h1,xz,<-hy,bH λc I=>?_];obtain⟨Y,s,L,S,e2⟩:=xk c I;rw[<-S,<-L.st,Ex g R _ c (f c I).1.2.1 (f c I).1.2.2 rfl λu b=>by rw[e2 u b]]
   have G:∀{x:V}{u:Int},0<=u->u∉cI m p r d o v->(Ϫ m p r d (ύ m p r d o B) v x).getD u.toNat 0=0:=λl b=>(Cv g R h0 h1 _ O).2.1 _ l λc a z=>b ((zY g R h0 h1).mpr (.inr ⟨c,a,z⟩));have H:((kd m p r d v).map λc=>-(B c*dnT p d c)).sum=w v-B v:=by
    rw[K5,N.st v h0 h1]
    lia
   have A:∀y,-1<=y->(y=-1->1<=w v)->Ld m p r d o w (nE m p r d o B v y) v y:=λy y0 y1=>by
    have w0:=N.w0 v h0 h1;have n0:=N.nn v h0 h1;have U:0<=B v+y:=by
     have:=wF (dn0 g R N h0 h1);have:=N.st v h0 h1
     lia
    rw[vd g R h0 h1];unfold qu;rcases B6 ((kd m p r d v).map (byK m p r d B (ύ m p r d o B) (nE m p r d o B) v (B v+y))) (pZ (Ϫ m p r d (ύ m p r d o B) v .ο) v (B v+y))with h|h
    .rw[h];have Q:=Hr (nd:=B) g R h0 h1 .ο;have C:=Cv g R h0 h1 .ο O;have P:v.toNat<(Ϫ m p r d (ύ m p r d o B) v .ο).length:=(by lia);refine F _ (B v+y) y (λc=>-(B c*dnT p d c)) (by rw[Jv];exact Q) (λi=>?_) (λu l b=>?_) ?_ (λc a=>⟨_,_,(f c a).2.1,BZ g R N (f c a).1.2.1 (f c a).1.2.2 (f c a).1.1,λu b=>?_⟩) (by rw[H];lia)
     .rw[vG P];have:=C.1 i;split<;>lia
     .have nv:u≠v:=λz=>b ((zY g R h0 h1).mpr (.inl z));rw[vG P,G l b,ag (by lia)]
      rfl
     .rw[vG P,aj rfl,C.2.1 v h0 K.1]
      lia
     .have l:=ben c a u b;have nv:u≠v:=λz=>K.1 c a (z▸b);rw[vG P,ag (by lia),C.2.2 c a u l b,aj (by intro z;cases z)]
      lia
    .obtain⟨k,hk,e⟩:=aU.mp h;rw[<-e];obtain⟨⟨kr,k0,k1⟩,_,kg⟩:=f k hk;have t:=sZ g R k0 k1 kr;have kn:=OJ g R N h0 h1 hk;have am:=dn0 g R N h0 h1 k hk;obtain⟨E,T⟩:∃E,B v+y-B k*dnT p d k=E:=⟨_,rfl⟩;have al:0<=E:=(by lia);have W:0<=lT p d k*(E+1)-1:=by
      have:=bU (show 1<=E+1 by lia) (show 0<=lT p d k by lia)
      lia
     have J:=kg _ W;have Q:=Hr (nd:=B) g R h0 h1 (.int k);have C:=Cv g R h0 h1 (.int k) O;unfold byK;rw[T];have M:=J.len.trans Q.symm;refine F _ 0 y (λc=>if c=k then E else -(B c*dnT p d c)) (uQ J.len Q) (λi=>?_) (λu l b=>?_) ?_ (λc a=>?_) ?_
     .rw[ph M];have:=C.1 i;have:=J.nn i
      lia
     .rw[ph M,G l b,J.off u l λz=>b ((zY g R h0 h1).mpr (.inr ⟨k,hk,z⟩))]
      rfl
     .rw[ph M,C.2.1 v h0 K.1,J.off v h0 (K.1 k hk)]
      rfl
     .by_cases D:c=k
      .subst D;refine⟨_,_,J,?_,λu b=>?_⟩
       .rw[aj rfl,Oy,aj W];have:lT p d c*(E+1)-1=(lT p d c-1)+lT p d c*E:=(by rw[dB,fJ];lia);rw[this,Int.add_mul_ediv_left _ _ (by lia),eA (by lia) (by lia)]
        lia
       .rw[ph M,C.2.2 c a u (ben c a u b) b,ag (λz=>z rfl)]
        lia
      .refine⟨_,_,(f c a).2.1,?_,λu b=>?_⟩
       .rw[ag D];exact BZ g R N (f c a).1.2.1 (f c a).1.2.2 (f c a).1.1
       .have l:=ben c a u b;rw[ph M,C.2.2 c a u l b,aj (by intro z;cases z;exact D rfl),J.off u l λz=>D (K.2 a hk b z)]
        lia
     .have S:((kd m p r d v).map λc=>if c=k then E else -(B c*dnT p d c)).sum=((kd m p r d v).map λc=>-(B c*dnT p d c)).sum+((kd m p r d v).map λc=>if c=k then E+B k*dnT p d k else 0).sum:=by
       rw[<-HV];rw[bH λc a=>?_];by_cases D:c=k
       .rw[aj D,aj D,D];lia
       .rw[ag D,ag D];lia
      rw[S,H,xV (show(kd m p r d v).Nodup from jQ) hk λj _ nj=>ag nj,aj rfl]
      lia
   refine⟨λvr=>?_,A⟩;have t:=sZ g R h0 h1 vr;rw[xN g R h0 h1];by_cases z:0<B v
   .rw[aj z,aj z];have C:=Cv g R h0 h1 .ο O;refine F _ 0 _ (λc=>-(B c*dnT p d c)) (Hr g R h0 h1 _) C.1 (λu l b=>G l b) (C.2.1 v h0 K.1) (λc a=>⟨_,_,(f c a).2.1,BZ g R N (f c a).1.2.1 (f c a).1.2.2 (f c a).1.1,λu b=>?_⟩) (by rw[H];lia);rw[C.2.2 c a u (ben c a u b) b,aj (by intro z;cases z)]
   .rw[ag z,ag z];exact A _ (by lia) λq=>by lia
theorem TV(g:Good m p)(R:ε m p r d o){b ys:fc}{a:g8}{v:Int}(c:0<=v)(e:v<m):Ε m p r d o (λv=>(fG m b ys).getD v.toNat 0) a v=Ε m p r d o (λu=>b.getD u.toNat 0-ys.getD u.toNat 0) a v:=Ex g R _ v c e rfl λu f=>by
 have h:=((zU g R c e u).mp f).1;have:=zQ (m:=m) (zs:=b) (ys:=ys) u.toNat;rw[aj (by lia)]at this;exact this
theorem worst_at(g:Good m p)(R:ε m p r d o)(c:0<=r)(b:r<m){a:fc}(j:∀y∈a,0<=y)(f:0<a.getD r.toNat 0){X:fc}(h:X=nE m p r d o (zN m p r d o a) r (-1)):(X.length:Int)=m/\(∀x∈X,0<=x)/\Ϗ m p r d o a X r=-1:=by
 have L:=(HA g R (P4 g R j) _ r c b rfl).2 (-1) (by lia) λ_=>f;rw[<-h]at L;have l:=L.len;refine⟨by lia,λx e=>?_,?_⟩
 .obtain⟨i,hi,rfl⟩:=ke.mp e;have:=L.nn i
  rwa [bo,ay hi]at this
 .show Ε m p r d o (λv=>(fG m X a).getD v.toNat 0) (ϝ p d) r=-1;rw[TV g R c b];exact L.st
end
section
variable{m:Int}{b:hD}{r:Int}{a:fm}{c:fv}{d w:fm}
theorem Ci(g:Good m b){v:Int}:(kd m b r a v).length<=24:=by
 have f:=dq (λu=>decide (V.int u≠front r a v)) (kM m b v);have e:=dq (λq=>decide (q∈gG b v)) (bM m.toNat);rw[cq]at e;have:=g.Ζ;show((kM m b v).filter λu=>decide (V.int u≠front r a v)).length<=24;unfold kM at f ⊢
 lia
end
theorem CP{g e:Type}{R:g->e->Prop}:∀{l:List g}{f:List e}{b:e},Paired R l (f++[b])->∃d a,l=d++[a]/\Paired R d f/\R a b
 | _,[],b,.cons (a:=a) h .nil=>⟨[],a,rfl,.nil,h⟩
 | _,c::f,b,.cons (a:=a) h hs=>by
   obtain⟨d,x,rfl,j,i⟩:=CP hs;exact⟨a::d,x,rfl,.cons h j,i⟩
theorem Lu{a:Type}(l:List a)(x:a):Ϧ (l++[x]) (-1)=some x:=by
 unfold Ϧ ixN;rw[ag (by decide),aX,aR,ft,aj (by lia)];show(l++[x])[(-1+((l.length+(0+1):Nat):Int)).toNat]?=some x;rw[show(-1+((l.length+(0+1):Nat):Int)).toNat=l.length by lia,dE (az _),dD]
 rfl
end Pb
namespace Pb
open L2 PySem PySem.W NumText
def ch:Nat->Nat->Nat
 | _,0=>1
 | 0,_+1=>0
 | n+1,k+1=>ch n k+ch n (k+1)
theorem qO(n:Nat):ch n 0=1:=by cases n<;>rfl
theorem Ib:∀{n k:Nat},n<k->ch n k=0
 | _,0,h=>absurd h (mL _)
 | 0,_+1,_=>rfl
 | n+1,k+1,h=>by
   show ch n k+ch n (k+1)=0;rw[Ib (by lia),Ib (by lia)]
theorem wX:∀n k:Nat,(ch n (k+1):Int)*((k:Int)+1)=(ch n k:Int)*((n:Int)-(k:Int))
 | 0,0=>by simp[ch]
 | 0,k+1=>by simp[ch]
 | n+1,0=>by
   have h:=wX n 0;rw[qO]at h ⊢;show((ch n 0+ch n 1:Nat):Int)*_=_;rw[qO];have h:((ch n 1:Nat):Int)*(((0:Nat):Int)+1)=((1:Nat):Int)*((n:Int)-((0:Nat):Int)):=h;simp only[eL,Int.natCast_one]at h ⊢
   lia
 | n+1,k+1=>by
   have e:=wX n k;have d:=wX n (k+1);show((ch n (k+1)+ch n (k+1+1):Nat):Int)*_=((ch n k+ch n (k+1):Nat):Int)*_;generalize ch n (k+1+1)=c at e d;generalize ch n (k+1)=b at e d;generalize ch n k=a at e d;simp only[eL,Int.natCast_one]at e d ⊢;have g:((b:Int)+(c:Int))*((k:Int)+1+1)=(c:Int)*((k:Int)+1+1)+(b:Int)*((k:Int)+1)+(b:Int):=by
    rw[dW,dB (b:Int) ((k:Int)+1) 1]
    lia
   have f:((a:Int)+(b:Int))*((n:Int)+1-((k:Int)+1))=(a:Int)*((n:Int)-(k:Int))+(b:Int)*((n:Int)-((k:Int)+1))+(b:Int):=by
    rw[show(n:Int)+1-((k:Int)+1)=(n:Int)-(k:Int) by lia,dW,show(n:Int)-(k:Int)=((n:Int)-((k:Int)+1))+1 by lia,dB (b:Int) _ 1]
    lia
   rw[g,f,e,d]
   lia
def Ω:List Int->Nat->Nat->Int
 | [],_,_=>0
 | d::r,n,k=>d*(ch n k:Int)+Ω r n (k+1)
theorem BD:∀(r:fc)(k:Nat),Ω r 0 (k+1)=0
 | [],_=>rfl
 | d::r,k=>by
   show d*((ch 0 (k+1):Nat):Int)+Ω r 0 (k+1+1)=0;rw[BD r (k+1)];show d*((0:Nat):Int)+0=0;simp
theorem HU:∀(r:fc)(n k:Nat),Ω r (n+1) (k+1)=Ω r n (k+1)+Ω r n k
 | [],_,_=>rfl
 | d::r,n,k=>by
   show d*((ch n k+ch n (k+1):Nat):Int)+Ω r (n+1) (k+1+1)=(d*(ch n (k+1):Int)+Ω r n (k+1+1))+(d*(ch n k:Int)+Ω r n (k+1));rw[HU r n (k+1),eL,dB]
   lia
def dl(f:Nat->Int):Nat->Int:=λn=>f (n+1)-f n
def Pd:Nat->(Nat->Int)->Prop
 | 0,f=>∀n,f n=f 0
 | d+1,f=>Pd d (dl f)
def dfs:Nat->(Nat->Int)->List Int
 | 0,_=>[]
 | N+1,f=>f 0::dfs N (dl f)
theorem D8:∀(N:Nat)(f:Nat->Int),(dfs N f).length=N
 | 0,_=>rfl
 | N+1,f=>by
   show(dfs N (dl f)).length+1=_;rw[D8 N]
theorem Pd.zero{f:Nat->Int}(h:∀n,f n=0):∀d,Pd d f
 | 0=>λn=>by rw[h n,h 0]
 | d+1=>Pd.zero (f:=dl f) (λn=>by show f (n+1)-f n=0;rw[h,h];rfl) d
theorem Pd.up:∀{d:Nat}{f:Nat->Int},Pd d f->Pd (d+1) f
 | 0,f,h=>λn=>by
   show f (n+1)-f n=f (0+1)-f 0;rw[h (n+1),h n,h (0+1)]
 | d+1,f,h=>Pd.up (d:=d) (f:=dl f) h
theorem Pd.le{d e:Nat}{f:Nat->Int}(h:Pd d f)(l:d<=e):Pd e f:=by
 induction l with
 | refl=>exact h
 | step _ ih=>exact ih.up
theorem Pd.add:∀{d:Nat}{f g:Nat->Int},Pd d f->Pd d g->Pd d (λn=>f n+g n)
 | 0,f,g,h,k=>λn=>by
   show f n+g n=f 0+g 0;rw[h n,k n]
 | d+1,f,g,h,k=>by
   have:=Pd.add (d:=d) (f:=dl f) (g:=dl g) h k;have e:dl (λn=>f n+g n)=λn=>dl f n+dl g n:=by
    funext n
    show f (n+1)+g (n+1)-(f n+g n)=(f (n+1)-f n)+(g (n+1)-g n)
    lia
   show Pd d (dl (λn=>f n+g n));rw[e];exact this
theorem Pd.smul(c:Int):∀{d:Nat}{f:Nat->Int},Pd d f->Pd d (λn=>c*f n)
 | 0,f,h=>λn=>by
   show c*f n=c*f 0;rw[h n]
 | d+1,f,h=>by
   have:=Pd.smul c (d:=d) (f:=dl f) h;have e:dl (λn=>c*f n)=λn=>c*dl f n:=by
    funext n
    show c*f (n+1)-c*f n=c*(f (n+1)-f n);rw[eC]
   show Pd d (dl (λn=>c*f n));rw[e];exact this
theorem Pd.shift(b:Nat):∀{d:Nat}{f:Nat->Int},Pd d f->Pd d (λn=>f (n+b))
 | 0,f,h=>λn=>by
   show f (n+b)=f (0+b);rw[h (n+b),h (0+b)]
 | d+1,f,h=>by
   have:=Pd.shift b (d:=d) (f:=dl f) h;have e:dl (λn=>f (n+b))=λn=>dl f (n+b):=by
    funext n
    show f (n+1+b)-f (n+b)=f (n+b+1)-f (n+b);rw[show n+1+b=n+b+1 by lia]
   show Pd d (dl (λn=>f (n+b)));rw[e];exact this
def Υ:Nat->(Nat->Int)->Int
 | 0,_=>0
 | k+1,f=>Υ k f+f k
theorem Pd.sum{d:Nat}{f:Nat->Nat->Int}(h:∀i,Pd d (f i)):∀k,Pd d (λn=>Υ k λi=>f i n)
 | 0=>Pd.zero (λ_=>rfl) d
 | k+1=>(Pd.sum h k).add (h k)
theorem Lw(f:Nat->Int)(b:Nat):∀a:Nat,f (b+a)-f b=Υ a λi=>dl f (b+i)
 | 0=>by
   show f b-f b=0
   lia
 | a+1=>by
   have:=Lw f b a;show f (b+(a+1))-f b=(Υ a λi=>dl f (b+i))+dl f (b+a);rw[<-this];show f (b+(a+1))-f b=f (b+a)-f b+(f (b+a+1)-f (b+a));rw[show b+(a+1)=b+a+1 by lia]
   lia
theorem Pd.lin(a:Nat):∀{d:Nat}{f:Nat->Int},Pd d f->∀b,Pd d (λn=>f (a*n+b))
 | 0,f,h,b=>λn=>by
   show f (a*n+b)=f (a*0+b);rw[h (a*n+b),h (a*0+b)]
 | d+1,f,h,b=>by
   have e:dl (λn=>f (a*n+b))=λn=>Υ a λi=>(λi n=>dl f (a*n+(b+i))) i n:=by
    funext n
    show f (a*(n+1)+b)-f (a*n+b)=_;rw[show a*(n+1)+b=(a*n+b)+a by rw[py];lia,Lw f (a*n+b) a]
    congr 1
    funext i
    show dl f (a*n+b+i)=dl f (a*n+(b+i));rw[Nat.add_assoc]
   show Pd d (dl (λn=>f (a*n+b)));rw[e];exact Pd.sum (λi=>Pd.lin a (d:=d) (f:=dl f) h (b+i)) a
def cnv(f g:Nat->Int)(n:Nat):Int:=Υ (n+1) λk=>f k*g (n-k)
theorem sW{f g:Nat->Int}:∀{k:Nat},(∀i,i<k->f i=g i)->Υ k f=Υ k g
 | 0,_=>rfl
 | k+1,h=>by
   show Υ k f+f k=Υ k g+g k;rw[sW λi a=>h i (by lia),h k (by lia)]
theorem L4(f g:Nat->Int):∀k,Υ k (λi=>f i-g i)=Υ k f-Υ k g
 | 0=>rfl
 | k+1=>by
   show Υ k (λi=>f i-g i)+(f k-g k)=Υ k f+f k-(Υ k g+g k);rw[L4 f g k]
   lia
theorem Pf(f g:Nat->Int):dl (cnv f g)=λn=>f (n+1)*g 0+cnv f (dl g) n:=by
 funext n
 show(Υ (n+1) λk=>f k*g (n+1-k))+f (n+1)*g (n+1-(n+1))-Υ (n+1) (λk=>f k*g (n-k))=f (n+1)*g 0+Υ (n+1) λk=>f k*dl g (n-k);have e:(Υ (n+1) λk=>f k*dl g (n-k))=Υ (n+1) λk=>f k*g (n+1-k)-f k*g (n-k):=sW λi a=>by
  show f i*(g (n-i+1)-g (n-i))=_;rw[eC,show n-i+1=n+1-i by lia]
 rw[e,L4,dD]
 lia
theorem Pd.cnv{f:Nat->Int}{d:Nat}(a:Pd d f):∀{e:Nat}{g:Nat->Int},Pd e g->Pd (d+e+1) (cnv f g)
 | 0,g,hg=>by
   show Pd d (dl (Pb.cnv f g));rw[Pf];refine Pd.add ?_ (Pd.zero (λn=>?_) d)
   .have:=(a.shift 1).smul (g 0);have e:(λn=>g 0*f (n+1))=λn=>f (n+1)*g 0:=by
     funext n
     exact ff ..
    rw[e]at this;exact this
   .have z:∀m,dl g m=0:=λm=>by
     show g (m+1)-g m=0;rw[hg (m+1),hg m]
     lia
    have:=sW (k:=n+1) (f:=λk=>f k*dl g (n-k)) (g:=λ_=>0) λi _=>by rw[z];simp
    show Υ (n+1) (λk=>f k*dl g (n-k))=0;rw[this];clear this
    induction n+1 with
    | zero=>rfl
    | succ k ih=>show Υ k (λ_=>0)+0=0;rw[ih];rfl
 | e+1,g,hg=>by
   show Pd (d+e+1) (dl (Pb.cnv f g));rw[Pf];refine Pd.add ?_ (Pd.cnv a (e:=e) (g:=dl g) hg);have:=((a.shift 1).smul (g 0)).le (show d<=d+e+1 by lia);have e:(λn=>g 0*f (n+1))=λn=>f (n+1)*g 0:=by
    funext n
    exact ff ..
   rw[e]at this;exact this
theorem Da:∀(N:Nat){d:Nat}{f:Nat->Int},Pd d f->d<N->∀n,Ω (dfs N f) n 0=f n
 | 0,_,_,_,h,_=>absurd h (mL _)
 | N+1,d,f,hf,_,n=>by
   have a:∀n,Ω (dfs N (dl f)) n 0=dl f n:=by
    intro n;cases d with
    | zero=>
      have z:∀m,dl f m=0:=λm=>by
       show f (m+1)-f m=0;rw[hf (m+1),hf m]
       lia
      cases N with
      | zero=>rw[z];rfl
      | succ N=>exact Da (N+1) (Pd.zero z 0) (by lia) n
    | succ d=>exact Da N (d:=d) (f:=dl f) hf (by lia) n
   show f 0*(ch n 0:Int)+Ω (dfs N (dl f)) n (0+1)=f n;rw[qO]
   induction n with
   | zero=>
     rw[BD];simp
   | succ n ihn=>
     rw[HU,a n];show f 0*((1:Nat):Int)+(Ω (dfs N (dl f)) n (0+1)+(f (n+1)-f n))=f (n+1)
     lia
theorem vL:∀{N:Nat}{f g:Nat->Int},(∀i,i<N->f i=g i)->dfs N f=dfs N g
 | 0,_,_,_=>rfl
 | N+1,f,g,h=>by
   show f 0::dfs N (dl f)=g 0::dfs N (dl g);rw[h 0 (by lia),vL (N:=N) (f:=dl f) (g:=dl g) λi a=>by
    show f (i+1)-f i=g (i+1)-g i;rw[h i (by lia),h (i+1) (by lia)]]
def ϧ(a:fc):List Int:=dfs a.length λi=>a.getD i 0
def nxr(a:fc):List Int:=(a.zip (a.drop 1)).map λp=>p.2-p.1
theorem Ae(a:fc):(nxr a).length=a.length-1:=by
 unfold nxr;rw[ah,jW,gA]
 lia
theorem W9{xs:fc}{i:Nat}(h:i+1<xs.length):(nxr xs).getD i 0=xs.getD (i+1) 0-xs.getD i 0:=by
 unfold nxr;rw[bo,aJ,ay (by rw[jW,gA];lia)];simp[bo,h,show i<xs.length by lia,Nat.add_comm]
theorem IL(x:Int)(r:fc):ϧ (x::r)=x::ϧ (nxr (x::r)):=by
 unfold ϧ;rw[Ae];show x::dfs r.length _=x::dfs (r.length+1-1) _;rw[Nat.add_sub_cancel]
 congr 1
 exact vL λi a=>(W9 (xs:=x::r) (by simpa using a)).symm
theorem Nf:∀n k:Nat,ch n k<=2^n
 | 0,0=>az _
 | 0,_+1=>bB _
 | n+1,0=>by rw[qO];exact Nat.one_le_two_pow
 | n+1,k+1=>by
   have a:=Nf n k;have b:=Nf n (k+1);show ch n k+ch n (k+1)<=2^(n+1);rw[iC]
   lia
theorem L3(f:Nat->Int):∀k,((List.range k).map f).sum=Υ k f
 | 0=>rfl
 | k+1=>by
   rw[df,aI,fB,L3 f k];show Υ k f+(f k+0)=Υ k f+f k
   lia
def ϫ:Nat:=2^200000
theorem iK{n k:Nat}(h:n<=2^k)(a:k<200000):n<ϫ:=by
 unfold ϫ;exact gQ h (nD (by decide) a)
theorem r9{a b:Int}(c:a.natAbs<ϫ)(d:b.natAbs<ϫ):IntMulOk a b:=by
 unfold ϫ at c d;exact IntMulOk.of_bits (aP (zR c) (by decide)) (aP (zR d) (by decide))
theorem YW{n k:Nat}(h:n<=100000):ch n k<ϫ:=iK (Nf n k) (by lia)
theorem zH:∀n k:Nat,ch n k<=(n+1)^k
 | n,0=>by rw[qO];exact az _
 | 0,k+1=>bB _
 | n+1,k+1=>by
   have c:=zH n k;have a:=zH n (k+1);have b:(n+1)^k<=(n+1+1)^k:=iM (by lia) k;show ch n k+ch n (k+1)<=(n+1+1)^(k+1);rw[iC]at a;rw[iC,Nat.mul_succ];have d:(n+1)^k*(n+1)<=(n+1+1)^k*(n+1):=eE _ b
   lia
theorem EA{n x k:Nat}(h:n+1<=2^x)(a:x*k<200000):ch n k<ϫ:=iK (k:=x*k) (aP (zH n k) (by rw[pB];exact iM h k)) a
def ς(b c:Int->Bool)(a:Int->Nat->Int):List Int->Nat->Int
 | [],_=>1
 | k::ks,n=>if b k=true then cnv (a k) (ς b c a ks) n else if c k=true then a k n*ς b c a ks 0 else a k 0*ς b c a ks n
variable{fr be:Int->Bool}{ws:Int->Nat->Int}
theorem uO{k:Int}{a:fc}(h:fr k=true):ς fr be ws (k::a)=cnv (ws k) (ς fr be ws a):=by
 funext n
 show(if fr k=true then _ else _)=_;rw[aj h]
theorem uS{k:Int}{a:fc}(h:¬fr k=true)(b:be k=true):ς fr be ws (k::a)=λn=>ws k n*ς fr be ws a 0:=by
 funext n
 show(if fr k=true then _ else _)=_;rw[ag h,aj b]
theorem uY{k:Int}{a:fc}(h:¬fr k=true)(b:¬be k=true):ς fr be ws (k::a)=λn=>ws k 0*ς fr be ws a n:=by
 funext n
 show(if fr k=true then _ else _)=_;rw[ag h,ag b]
theorem Px{d:fv}:∀{ks:fc},(∀k∈ks,Pd (d k) (ws k))->Pd ((ks.map λk=>d k+1).sum) (ς fr be ws ks)
 | [],_=>λ_=>rfl
 | k::ks,h=>by
   have c:=h k (.head _);have a:=Px (ks:=ks) λx g=>h x (.tail _ g);rw[aq,aH];by_cases f:fr k=true
   .rw[uO f];exact(Pd.cnv c a).le (by lia)
   .by_cases b:be k=true
    .rw[uS f b];have:=(c.smul (ς fr be ws ks 0)).le (show d k<=d k+1+(ks.map λk=>d k+1).sum by lia);have e:(λn=>ς fr be ws ks 0*ws k n)=λn=>ws k n*ς fr be ws ks 0:=by
      funext n
      exact ff ..
     rw[e]at this;exact this
    .rw[uY f b];exact(a.smul (ws k 0)).le (by lia)
theorem Lk{f:Nat->Int}{B:Int}:∀{k:Nat},(∀i,i<k->0<=f i/\f i<=B)->0<=Υ k f/\Υ k f<=k*B
 | 0,_=>⟨bw _,by show(0:Int)<=((0:Nat):Int)*B;simp⟩
 | k+1,h=>by
   obtain⟨c,b⟩:=Lk (k:=k) λi a=>h i (by lia);obtain⟨d,e⟩:=h k (by lia);show 0<=Υ k f+f k/\Υ k f+f k<=((k+1:Nat):Int)*B;rw[Int.natCast_succ,dW,gM]
   lia
theorem z9{a b A B:Int}(c:0<=a/\a<=A)(d:0<=b/\b<=B):0<=a*b/\a*b<=A*B:=⟨dF c.1 d.1,fW c.2 d.2 d.1 (bW c.1 c.2)⟩
theorem Vf{f g:Nat->Int}{A B:Int}{n:Nat}(b:∀i,i<=n->0<=f i/\f i<=A)(a:∀i,i<=n->0<=g i/\g i<=B):0<=cnv f g n/\cnv f g n<=((n+1:Nat):Int)*(A*B):=Lk λi c=>z9 (b i (by lia)) (a (n-i) (by lia))
theorem mQ(n:Nat):(0:Int)<2^n:=p8 (by decide)
theorem xU{X x:Nat}(d:((X+1:Nat):Int)<=2^x){a:fv}:∀{ks:fc},(∀k∈ks,∀i,i<=X->0<=ws k i/\ws k i<=2^a k)->∀n,n<=X->0<=ς fr be ws ks n/\ς fr be ws ks n<=2^(ks.map λk=>x+a k).sum
 | [],_,n,_=>⟨by show(0:Int)<=1;decide,by show(1:Int)<=2^0;decide⟩
 | k::ks,h,n,hn=>by
   have e:=h k (.head _);have c:=xU d (ks:=ks) λx d=>h x (.tail _ d);rw[aq,aH,mU,mU];have m:=mQ x;have up:∀{u:Int},0<=u/\u<=2^a k*2^(ks.map λk=>x+a k).sum->0<=u/\u<=2^x*2^a k*2^(ks.map λk=>x+a k).sum:=λ{u} hu=>by
    refine⟨hu.1,?_⟩;rw[gO];have:=(z9 (a:=1) (A:=2^x) (b:=u) ⟨by decide,by lia⟩ hu).2;rw[gM]at this;exact this
   by_cases f:fr k=true
   .rw[uO f];obtain⟨j,l⟩:=Vf (n:=n) (λi g=>e i (by lia)) (λi g=>c i (by lia));refine⟨j,bW l ?_⟩;rw[gO];refine b9 (by lia) (dF (mC (mQ _)) (mC (mQ _)))
   .by_cases b:be k=true
    .rw[uS f b];exact up (z9 (e n hn) (c 0 (by lia)))
    .rw[uY f b];exact up (z9 (e 0 (by lia)) (c n hn))
theorem IT:∀{N:Nat}{f:Nat->Int}{b:Nat},(∀i,i<N->(f i).natAbs<=2^b)->∀c∈dfs N f,c.natAbs<=2^(b+N)
 | 0,_,_,_,c,hc=>by cases hc
 | N+1,f,b,h,c,hc=>by
   rcases aw.mp (show c∈f 0::dfs N (dl f)from hc)with rfl|hc
   .exact aP (h 0 (by lia)) (cj (by decide) (by lia))
   .have:=IT (N:=N) (f:=dl f) (b:=b+1) (λi e=>by
     have d:=h i (by lia);have a:=h (i+1) (by lia);show(f (i+1)-f i).natAbs<=2^(b+1);rw[iC,Nat.mul_two];exact aP (Int.natAbs_sub_le _ _) (gV a d)) c hc
    rw[show b+1+N=b+(N+1) by lia]at this;exact this
def vY(d:Nat)(W:Nat->Int):Prop:=Pd d W/\∀x n,((n+1:Nat):Int)<=2^x->0<=W n/\W n<=2^(d*(x+20*d))
def ω(c:Nat)(g:Nat):Nat:=(g+1)*c-1
theorem LC{c g:Nat}(h:1<=c):ω c g=c*g+(c-1):=by
 unfold ω;rw[gm,jI]
 lia
theorem Cd{a b:Nat}(h:a<=b):(2:Int)^a<=2^b:=by
 obtain⟨k,rfl⟩:∃k,b=a+k:=⟨b-a,by lia⟩;rw[mU];have:=bU (show(1:Int)<=2^k from mQ k) (mC (mQ a));rw[fJ]at this;exact this
theorem sN{f g:fv}{y:Nat}:∀{ks:fc},(∀k∈ks,f k<=g k*y)->(ks.map f).sum<=(ks.map g).sum*y
 | [],_=>by simp
 | k::ks,h=>by
   have c:=h k (.head _);have b:=sN (ks:=ks) λx a=>h x (.tail _ a);rw[aq,aH,aq,aH,gm]
   lia
theorem yb{g:fv}:∀{a:fc}{k:Int},k∈a->g k<=(a.map g).sum
 | k'::a,k,h=>by
   rw[aq,aH];rcases aw.mp h with rfl|h
   .lia
   .have:=yb (g:=g) h
    lia
theorem zL{W:Int->Nat->Int}{c d:fv}{ks:fc}(h:∀k∈ks,vY (d k) (W k))(f:∀k∈ks,1<=c k/\c k<=1000000):vY (ks.map λk=>d k+1).sum (ς fr be (λk g=>W k (ω (c k) g)) ks):=by
 refine⟨Px λk b=>?_,λx n m=>?_⟩
 .have:=(h k b).1.lin (c k) (c k-1);have e:(λg=>W k (ω (c k) g))=λg=>W k (c k*g+(c k-1)):=by
   funext g
   rw[LC (f k b).1]
  rw[e];exact this
 .have key:=xU (fr:=fr) (be:=be) (ws:=λk g=>W k (ω (c k) g)) (X:=n) (x:=x) m (a:=λk=>d k*(x+20+20*d k)) (ks:=ks) (λk b i o=>by
   refine(h k b).2 (x+20) (ω (c k) i) ?_;have j:=(f k b).1;have s:=(f k b).2;have e:ω (c k) i+1=(i+1)*c k:=by
    unfold ω;have:1<=(i+1)*c k:=cg (show 1<=i+1 by lia) j
    lia
   rw[e,jc,mU];exact fW (by lia) (by have:(2:Int)^20=1048576:=rfl;lia) (Int.natCast_nonneg _) (mC (mQ x))) n (az _)
  refine⟨key.1,bW key.2 ?_⟩;refine Cd (sN λk b=>?_);have l:=yb (g:=λk=>d k+1) b;generalize (ks.map λk=>d k+1).sum=D at l;have p:x+d k*(x+20+20*d k)=x+d k*x+d k*(20+20*d k):=by rw[show x+20+20*d k=x+(20+20*d k) by lia,py];lia
  have q:(d k+1)*(x+20*D)=x+d k*x+(d k+1)*(20*D):=by rw[py,gm];lia
  have r:d k*(20+20*d k)<=(d k+1)*(20*D):=cg (by lia) (by lia)
  lia
structure ϒ(b:Nat)(cs:fc)(f:Nat->Int):Prop where
 ne:cs≠[]
 len:cs.length<=24
 bt:∀c∈cs,c.natAbs<=2^b
 val:∀n,Ω cs n 0=f n
theorem LU:∀(x:Int)(r:fc),Ω (x::r) 0 0=x:=λx r=>by
 show x*((1:Nat):Int)+Ω r 0 (0+1)=x;rw[BD];simp
theorem ϒ.head{b:Nat}{a:fc}{f:Nat->Int}(h:ϒ b a f):∃r,a=f 0::r:=by
 obtain⟨ne,_,_,v⟩:=h;cases a with
 | nil=>exact absurd rfl ne
 | cons x r=>exact⟨r,by rw[<-v 0,LU]⟩
theorem ϒ.one:ϒ 0 [1] (ς fr be ws []):=⟨by simp,by simp,λc a=>by rw[aK.mp a];decide,λn=>by
 show 1*((ch n 0:Nat):Int)+0=1;rw[qO]
 rfl⟩
theorem G7(a:Int):∀(b:fc)(n k:Nat),Ω (b.map λc=>a*c) n k=a*Ω b n k
 | [],_,_=>by show(0:Int)=a*0;simp
 | c::b,n,k=>by
   show a*c*(ch n k:Int)+Ω (b.map λc=>a*c) n (k+1)=a*(c*(ch n k:Int)+Ω b n (k+1));rw[G7 a b,dB,gO]
theorem ϒ.ϧ{f:Nat->Int}{N d b:Nat}(h:Pd d f)(j:d<N)(c:N<=24)(g:∀i,i<N->(f i).natAbs<=2^b):ϒ (b+N) (ϧ ((List.range N).map f)) f:=by
 have e:Pb.ϧ ((List.range N).map f)=dfs N f:=by
  unfold Pb.ϧ;rw[ah,bG];refine vL λi a=>?_;rw[bo,aJ,eR a]
  rfl
 rw[e];refine⟨λz=>?_,by rw[D8];exact c,IT g,Da N h j⟩;have:=D8 N f;rw[z]at this;simp at this
 lia
def sfx:List Int->List (List Int)
 | []=>[[]]
 | k::ks=>(k::ks)::sfx ks
theorem LB:∀a:List Int,(sfx a).reverse=(List.range (a.length+1)).map λj=>a.drop (a.length-j)
 | []=>rfl
 | k::a=>by
   show((k::a)::sfx a).reverse=_;rw[eI,LB a,df (n:=(k::a).length),aI,aq,eP,dD,fT]
   congr 1
   refine bH λj b=>?_;have:=cQ.mp b;rw[aR,show a.length+1-j=(a.length-j)+1 by lia,oF]
theorem ϒ.le{b b':Nat}{a:fc}{f:Nat->Int}(h:ϒ b a f)(l:b<=b'):ϒ b' a f:=⟨h.ne,h.len,λc d=>aP (h.bt c d) (cj (by decide) l),h.val⟩
def bts(d:fv)(a:fc):Nat:=(a.map λk=>d k*(25+20*d k)+29).sum
theorem uE{d:fv}{ks:fc}(h:(ks.map λk=>d k+1).sum<=23):bts d ks<=15000:=by
 have:bts d ks<=(ks.map λk=>d k+1).sum*514:=sN λk a=>by
  have:=yb (g:=λk=>d k+1) a;have b:d k*(25+20*d k)<=d k*485:=kJ _ (by lia);rw[gm]
  lia
 lia
theorem uV(g:fv)(a:fc)(j:Nat):((a.drop j).map g).sum<=(a.map g).sum:=by
 have:=congrArg (λl=>(l.map g).sum) (cP j a);simp only[aI,fB]at this
 lia
theorem FN{W:Int->Nat->Int}{c d:fv}{b:fc}{N:Nat}(q:N<=24)(h:∀k∈b,vY (d k) (W k))(l:∀k∈b,1<=c k/\c k<=1000000):∀i,i<N->0<=ς fr be (λk g=>W k (ω (c k) g)) b i/\ς fr be (λk g=>W k (ω (c k) g)) b i<=2^(b.map λk=>5+d k*(25+20*d k)).sum:=by
 intro i p;refine xU (X:=23) (x:=5) (by decide) (a:=λk=>d k*(25+20*d k)) (λk f j s=>?_) i (by lia);refine(h k f).2 25 (ω (c k) j) ?_;have m:=(l k f).1;have n:=(l k f).2;have e:ω (c k) j+1=(j+1)*c k:=by
  unfold ω;have:1<=(j+1)*c k:=cg (show 1<=j+1 by lia) m
  lia
 have r:(j+1)*c k<=24*1000000:=cg (by lia) n;have o:(2:Int)^25=33554432:=rfl;rw[e,o]
 lia
theorem Ha{W:Nat->Int}{c d:Nat}(h:vY d W)(b:1<=c)(a:c<=1000000){j:Nat}(i:j<24):0<=W (ω c j)/\W (ω c j)<=2^(d*(25+20*d)):=by
 refine h.2 25 (ω c j) ?_;have e:ω c j+1=(j+1)*c:=by
  unfold ω;have:1<=(j+1)*c:=cg (show 1<=j+1 by lia) b
  lia
 have g:(j+1)*c<=24*1000000:=cg (by lia) a;have f:(2:Int)^25=33554432:=rfl;rw[e,f]
 lia
theorem tq{z:Int}{b:Nat}(h:0<=z/\z<=2^b):z.natAbs<=2^b:=by
 have:((2^b:Nat):Int)=(2:Int)^b:=by simp
 lia
theorem xL(d:fv)(k:Int)(a:fc):bts d (k::a)=d k*(25+20*d k)+29+bts d a:=by
 unfold bts;rw[aq,aH]
theorem Er(d:fv):∀a:List Int,(a.map λk=>5+d k*(25+20*d k)).sum<=bts d a
 | []=>az _
 | k::a=>by
   have:=Er d a;rw[xL,aq,aH]
   lia
theorem PU{W:Int->Nat->Int}{c d:fv}{k:Int}{S:fc}{N:Nat}(a:N<=24)(h:∀x∈k::S,vY (d x) (W x))(b:∀x∈k::S,1<=c x/\c x<=1000000)(l:((k::S).map λk=>d k+1).sum<N){e:fc}(j:e=(List.range N).map (ς fr be (λk g=>W k (ω (c k) g)) (k::S))):ϒ (bts d (k::S)) (ϧ e) (ς fr be (λk g=>W k (ω (c k) g)) (k::S)):=by
 subst j;refine(ϒ.ϧ (zL h b).1 l a λi f=>tq (FN a h b i f)).le ?_;have:=Er d S;rw[xL,aq,aH]
 lia
theorem VQ{W:Int->Nat->Int}{c d:fv}{k:Int}{S:fc}{e:fc}(h:vY (d k) (W k))(i:1<=c k)(l:c k<=1000000)(f:¬fr k=true)(b:¬be k=true)(a:ϒ (bts d S) e (ς fr be (λk g=>W k (ω (c k) g)) S)):ϒ (bts d (k::S)) (e.map λx=>W k (ω (c k) 0)*x) (ς fr be (λk g=>W k (ω (c k) g)) (k::S)):=by
 refine⟨λz=>a.ne (List.map_eq_nil_iff.mp z),by rw[ah];exact a.len,λx m=>?_,λn=>?_⟩
 .obtain⟨y,hy,rfl⟩:=aU.mp m;have p:=tq (Ha h i l (j:=0) (by decide));have o:=a.bt y hy;rw[kY,xL];refine aP (cg p o) ?_;rw[<-fA];exact cj (by decide) (by lia)
 .rw[G7,a.val,uY f b]
theorem PH{f g a b:Nat->Int}{n:Nat}(d:∀i,i<=n->f i=a i)(c:∀i,i<=n->g i=b i):cnv f g n=cnv a b n:=sW λi e=>by rw[d i (by lia),c (n-i) (by lia)]
theorem Bx{f:Nat->Int}{N i:Nat}(h:i<N):((List.range N).map f).getD i 0=f i:=by
 rw[bo,aJ,eR h]
 rfl
theorem Pu{d:fv}:∀a:List Int,a.length<=(a.map λk=>d k+1).sum
 | []=>az _
 | k::a=>by
   have:=Pu (d:=d) a;rw[aq,aH,aR]
   lia
theorem Mf{c a:Type}{R:c->a->Prop}:∀{l:List c}{b:List a},Paired R l b->Paired R l.reverse b.reverse
 | _,_,.nil=>.nil
 | _,_,.cons e h=>by
   rw[eI,eI];exact uT e (Mf h)
theorem zc{fr' be':Int->Bool}{ws':Int->Nat->Int}:∀{ks:fc},(∀k∈ks,fr k=fr' k/\be k=be' k/\ws k=ws' k)->ς fr be ws ks=ς fr' be' ws' ks
 | [],_=>rfl
 | k::ks,h=>by
   obtain⟨d,b,e⟩:=h k (.head _);have a:=zc (ks:=ks) λx c=>h x (.tail _ c)
   funext n
   show(if fr k=true then cnv (ws k) (ς fr be ws ks) n else if be k=true then ws k n*ς fr be ws ks 0 else ws k 0*ς fr be ws ks n)=(if fr' k=true then cnv (ws' k) (ς fr' be' ws' ks) n else if be' k=true then ws' k n*ς fr' be' ws' ks 0 else ws' k 0*ς fr' be' ws' ks n);rw[d,b,e,a]
section
variable{m:Int}{d:hD}{r:Int}{a:fm}{b:fv}{c:fv}
def wyF(m:Int)(d:hD)(r:Int)(a:fm)(fr be:Int->Bool)(c:fv):Nat->Int->Nat->Int
 | 0,_=>λ_=>1
 | f+1,v=>ς fr be (λk g=>wyF m d r a fr be c f k (ω (c k) g)) (kd m d r a v)
def wy(m:Int)(d:hD)(r:Int)(a:fm)(b:fv)(fr be:Int->Bool)(c:fv)(v:Int):Nat->Int:=wyF m d r a fr be c (m.toNat-b v) v
theorem nZ(g:Good m d)(R:ε m d r a b){v:Int}(j:0<=v)(i:v<m):wy m d r a b fr be c v=ς fr be (λk g=>wy m d r a b fr be c k (ω (c k) g)) (kd m d r a v):=by
 unfold wy;cases e:m.toNat-b v with
 | zero=>
   have:kd m d r a v=[]:=by
    cases h:kd m d r a v with
    | nil=>rfl
    | cons k ks=>
      have:=(gu g R j i (k:=k) (by rw[h];exact .head _)).2.1
      lia
   rw[this]
   rfl
 | succ f=>
   show ς fr be (λk g=>wyF m d r a fr be c f k (ω (c k) g)) (kd m d r a v)=_;refine zc λk h=>⟨rfl,rfl,?_⟩;have:=(gu g R j i h).2.1;rw[show m.toNat-b k=f by lia]
def Bv(m:Int)(d:hD)(r:Int)(a:fm)(b:fv)(v:Int):Nat:=(cI m d r a b v).length-1
theorem jP(g:Good m d)(R:ε m d r a b){v:Int}(h:0<=v)(f:v<m):((kd m d r a v).map λk=>Bv m d r a b k+1).sum=Bv m d r a b v:=by
 have e:=congrArg List.length (jv g R h f);rw[aR,List.length_flatMap]at e;unfold Bv;rw[e,Nat.add_sub_cancel];show _=((kd m d r a v).map λk=>(cI m d r a b k).length).sum;refine congrArg List.sum (bH λk i=>?_);obtain⟨⟨l,j⟩,_⟩:=(gu g R h f i).1;have:=congrArg List.length (jv g R l j);rw[aR]at this
 lia
theorem Dz(g:Good m d)(R:ε m d r a b)(f:∀v,0<=v->v<m->v≠r->1<=c v/\c v<=1000000):∀(n:Nat){v:Int},0<=v->v<m->m.toNat-b v<=n->vY (Bv m d r a b v) (wy m d r a b fr be c v)
 | n,v,h0,h1,hn=>by
   rw[nZ g R h0 h1,<-jP g R h0 h1];refine zL (λk e=>?_) λk e=>?_
   .obtain⟨⟨k0,k1⟩,_⟩:=(gu g R h0 h1 e).1;have:=(gu g R h0 h1 e).2.1;cases n with
    | zero=>lia
    | succ n=>exact Dz g R f n k0 k1 (by lia)
   .obtain⟨⟨k0,k1⟩,kr,_⟩:=(gu g R h0 h1 e).1;exact f k k0 k1 kr
end
theorem EU:∀{b a:fc},a∈sfx b->∀x∈a,x∈b
 | [],a,h,x,hx=>by
   rw[aK.mp h]at hx;exact hx
 | k::b,a,h,x,hx=>by
   rcases aw.mp (show a∈(k::b)::sfx b from h)with rfl|h
   .exact hx
   .exact .tail _ (EU h x hx)
theorem GR{g d:Type}{R S:g->d->Prop}:∀{l:List g}{c:List d},(∀a b,b∈c->R a b->S a b)->Paired R l c->Paired S l c
 | _,_,_,.nil=>.nil
 | _,_,f,.cons e h=>.cons (f _ _ (.head _) e) (GR (λa b i=>f a b (.tail _ i)) h)
theorem xD(a:fc):∃r,sfx a=a::r:=by
 cases a with
 | nil=>exact⟨[],rfl⟩
 | cons k a=>exact⟨sfx a,rfl⟩
theorem qi{m:Int}{c:hD}{r:Int}{b:fm}{a:fv}(g:Good m c)(R:ε m c r b a){v:Int}(e:0<=v)(f:v<m):(Bv m c r b a v:Int)<m:=by
 obtain⟨i,d⟩:=uD g R (m.toNat-1-a v) v e f;have:=g9 (m:=m) (by lia) i λx h=>(d x h).1;have:=g.m1;unfold Bv cI
 lia
theorem PV{m:Int}{d:hD}{r:Int}{a:fm}{f:fv}(g:Good m d)(R:ε m d r a f){b:fc}(O:Order m r a b){i:Nat}{v:Int}(e:(r::b).reverse[i]?=some v)(l:0<=v)(n:v<m):∀k∈kd m d r a v,k∈(r::b).reverse.take i:=by
 intro k j;have w:=(bz g R l n).mp j;rw[eI]at e ⊢;by_cases c:i<b.length
 .rw[dH (by rw[aV];exact c)]at e;obtain⟨_,_,_,_,h⟩:=O.cut R e;have:=h k w.1.1 w.1.2 w.2.1 w.2.2;rw[List.take_append_of_le_length (by rw[aV];lia),List.take_reverse,dZ];exact this
 .rw[List.take_append,cW (by rw[aV];lia)];exact bC _ (dZ.mpr ((O.all k w.1.1 w.1.2).resolve_left w.2.1))
end Pb
namespace Pb
open L2 PySem PySem.W NumText
section
variable{a b:Int->Bool}{c:Int->Nat->Int}
theorem Ht{f:Nat->Int}:∀{k:Nat},(∀i,i<k->0<=f i)->0<=Υ k f
 | 0,_=>bw _
 | k+1,h=>by
   have g:=Ht (k:=k) λi d=>h i (by lia);have e:=h k (by lia);show 0<=Υ k f+f k
   lia
end
def chN(a k:Nat):Int:=if k%2=0 then(ch (a+k) k:Int)else -(ch (a+k) k:Int)
def chZ:Int->Nat->Int
 | .ofNat n,k=>(ch n k:Int)
 | .negSucc a,k=>chN a k
def nwN:List Int->Nat->Nat->Int
 | [],_,_=>0
 | d::r,a,k=>d*chN a k+nwN r a (k+1)
def iD(b:fc)(n:Int)(k:Nat):Int:=match n with
 | .ofNat n=>Ω b n k
 | .negSucc a=>nwN b a k
theorem qM(a:fc)(n k:Nat):iD a (n:Int) k=Ω a n k:=rfl
theorem pT(n:Int)(k:Nat):iD [] n k=0:=by cases n<;>rfl
theorem kN(d:Int)(r:fc)(n:Int)(k:Nat):iD (d::r) n k=d*chZ n k+iD r n (k+1):=by cases n<;>rfl
theorem uJ(n:Int):chZ n 0=1:=by
 cases n with
 | ofNat n=>show((ch n 0:Nat):Int)=1;rw[qO];rfl
 | negSucc a=>show chN a 0=1;unfold chN;rw[aj rfl,qO];rfl
theorem xh(a k:Nat):chN a (k+1)=-(if k%2=0 then(ch (a+(k+1)) (k+1):Int)else -(ch (a+(k+1)) (k+1):Int)):=by
 unfold chN;by_cases c:k%2=0
 .rw[ag (by lia),aj c]
 .rw[aj (by lia),ag c,Int.neg_neg]
theorem Et:∀k:Nat,ch k k=1
 | 0=>rfl
 | k+1=>by
   show ch k k+ch k (k+1)=1;rw[Et k,Ib (by lia)]
theorem Nh(n:Int)(k:Nat):chZ (n+1) (k+1)=chZ n k+chZ n (k+1):=by
 cases n with
 | ofNat n=>
   show((ch n k+ch n (k+1):Nat):Int)=(ch n k:Int)+(ch n (k+1):Int);rw[eL]
 | negSucc a=>
   cases a with
   | zero=>
     show((0:Nat):Int)=chN 0 k+chN 0 (k+1);rw[xh];unfold chN;rw[mm,mm,Et,Et];split<;>rfl
   | succ a=>
     show chN a (k+1)=chN (a+1) k+chN (a+1) (k+1);rw[xh,xh];unfold chN;have e:ch (a+1+(k+1)) (k+1)=ch (a+1+k) k+ch (a+1+k) (k+1):=rfl;rw[e,eL,show a+(k+1)=a+1+k by lia];split<;>lia
theorem SR(n:Int)(k:Nat):chZ n (k+1)*((k:Int)+1)=chZ n k*(n-(k:Int)):=by
 cases n with
 | ofNat n=>exact wX n k
 | negSucc a=>
   show chN a (k+1)*((k:Int)+1)=chN a k*(Int.negSucc a-(k:Int));have h:=wX (a+k) k;have e:ch (a+(k+1)) (k+1)=ch (a+k) k+ch (a+k) (k+1):=rfl;have b:(ch (a+(k+1)) (k+1):Int)*((k:Int)+1)=(ch (a+k) k:Int)*((a:Int)+(k:Int)+1):=by
    rw[e,eL,dW,h,<-dB]
    congr 1
    rw[eL]
    lia
   have c:Int.negSucc a-(k:Int)=-((a:Int)+(k:Int)+1):=by
    rw[Int.negSucc_eq]
    lia
   rw[xh,c,Int.mul_neg,jt];unfold chN
   congr 1
   split
   .exact b
   .rw[jt,jt,b]
theorem Ia:∀(r:fc)(n:Int)(k:Nat),iD r (n+1) (k+1)=iD r n (k+1)+iD r n k
 | [],n,k=>by rw[pT,pT,pT];rfl
 | d::r,n,k=>by
   rw[kN,kN,kN,Ia r n (k+1),Nh,dB]
   lia
theorem P2(d:Int)(r:fc)(n:Int):iD (d::r) (n+1) 0-iD (d::r) n 0=iD r n 0:=by
 rw[kN,kN,uJ,uJ,Ia]
 lia
theorem SF(r:fc)(d:Int)(n:Int)(k:Nat):iD (r++[d]) n k=iD r n k+d*chZ n (k+r.length):=by
 induction r generalizing k with
 | nil=>
   rw[iJ,kN,pT,pT,ft,Nat.add_zero]
   lia
 | cons x r ih=>
   rw[jX,kN,kN,ih (k+1),aR,show k+1+r.length=k+(r.length+1) by lia]
   lia
theorem Pd.mul:∀(N:Nat){d e:Nat}{f g:Nat->Int},d+e<=N->Pd d f->Pd e g->Pd (d+e) (λn=>f n*g n)
 | N,0,e,f,g,_,hf,hg=>by
   have h:(λn=>f n*g n)=λn=>f 0*g n:=by
    funext n
    rw[hf n]
   rw[h,mm];exact hg.smul _
 | N,d+1,0,f,g,_,hf,hg=>by
   have h:(λn=>f n*g n)=λn=>g 0*f n:=by
    funext n
    rw[hg n,ff]
   rw[h];exact hf.smul _
 | 0,d+1,e+1,_,_,hn,_,_=>by lia
 | N+1,d+1,e+1,f,g,hn,hf,hg=>by
   have b:=Pd.mul N (d:=d+1) (e:=e) (f:=λn=>f (n+1)) (g:=dl g) (by lia) (hf.shift 1) hg;have a:=Pd.mul N (d:=d) (e:=e+1) (f:=dl f) (g:=g) (by lia) hf hg;rw[show d+1+(e+1)=d+e+1+1 by lia];show Pd (d+e+1) (dl λn=>f n*g n);have h:(dl λn=>f n*g n)=λn=>f (n+1)*dl g n+dl f n*g n:=by
    funext n
    show f (n+1)*g (n+1)-f n*g n=f (n+1)*(g (n+1)-g n)+(f (n+1)-f n)*g n;rw[eC,Int.sub_mul]
    lia
   rw[h];rw[show d+1+e=d+e+1 by lia]at b;rw[show d+(e+1)=d+e+1 by lia]at a;exact b.add a
theorem Pd.Υ{d:Nat}{f:Nat->Int}(h:Pd d f):Pd (d+1) (λj=>Υ j f):=by
 show Pd d (dl λj=>Pb.Υ j f);have e:(dl λj=>Pb.Υ j f)=f:=by
  funext j
  show Pb.Υ j f+f j-Pb.Υ j f=f j
  lia
 rw[e];exact h
theorem IP{z:Int}{x k:Nat}(e:-100<=z)(f:z+1<=2^x)(d:8<=x)(g:k<=100):(chZ z k).natAbs<=2^(x*k):=by
 cases z with
 | ofNat n=>
   show((ch n k:Nat):Int).natAbs<=_;rw[l9];have b:n+1<=2^x:=by
    have:((2^x:Nat):Int)=(2:Int)^x:=(by simp);have c:((n:Int)+1)<=2^x:=f
    lia
   exact aP (zH n k) (by rw[pB];exact iM b k)
 | negSucc a=>
   have h:a<=99:=by
    rw[Int.negSucc_eq]at e
    lia
   have b:=zH (a+k) k;have c:(a+k+1)^k<=2^(x*k):=by
    rw[pB];refine iM ?_ k;exact aP (show a+k+1<=2^8 by lia) (cj (by decide) d)
   show(chN a k).natAbs<=_;unfold chN;split
   .rw[l9];lia
   .rw[Int.natAbs_neg,l9];lia
theorem xI{z:Int}{x b:Nat}(d:-100<=z)(e:z+1<=2^x)(a:8<=x):∀{cs:fc}{k:Nat},k+cs.length<=100->(∀c∈cs,c.natAbs<=2^b)->(iD cs z k).natAbs<=cs.length*2^(b+x*100)
 | [],k,_,_=>by rw[pT];exact bB _
 | c::cs,k,hk,hc=>by
   rw[aR]at hk;have i:=xI d e a (cs:=cs) (k:=k+1) (by lia) λy h=>hc y (.tail _ h);have g:=IP d e a (k:=k) (by lia);have f:=hc c (.head _);have j:(c*chZ z k).natAbs<=2^(b+x*100):=by
    rw[kY,fA];refine cg f (aP g (cj (by decide) ?_));exact kJ x (by lia)
   rw[kN,aR,gm,o0];have:=jC (c*chZ z k) (iD cs z (k+1))
   lia
end Pb
namespace L2
open PySem PySem.Spec PyProof.Rows
section
variable{X:Cx}
def aeL:V->List V->Hp->VK->Prop:=λx e H Q=>∃d b c a,x=.ref d/\e=[.ref b]/\H d=some (.dK c)/\H b=some (.dK a)/\d≠b/\c.length+a.length<=sizeLine/\Q .ο (upd H d (.dK (kW c a)))
theorem Oz:MtM X "dict.update" aeL:=by
 intro i s L H x E v C Q I r z h;obtain⟨d,b,y,a,rfl,rfl,j,A,ne,l,q⟩:=h;cases r;obtain⟨u,rfl,p⟩:=z.one;cases p;obtain⟨K,o,f,m,c⟩:=GG I.Β j;obtain⟨J,t,e,k,g⟩:=GG I.Β A;refine call_meetsIn F.slot_dict_update c.typeIs F.entry_dict_update (F.args_dict_update_2 _ _) (meets_dict_update (iX X.prog X.w) d b ne t) ⟨f,e,c,g,?_,λD n G B=>?_⟩
 .rw[<-Paired.length m,<-Paired.length k];exact l
 .refine⟨.ο,_,zS I (by rw[j];exact True.intro) B (let ⟨q,_,_,hq,_⟩:=n;⟨q,hq⟩) (G8 (aP (qo a y) l) o (k.merge m) n),rfl,q⟩
end
end L2
namespace Pb
open L2 PySem PySem.W NumText
theorem LH{cs:fc}{z:Int}(e:-100<=z)(f:z+1<=2^64)(a:cs.length<=24)(cb:∀c∈cs,c.natAbs<=2^15000):(iD cs z 0).natAbs<ϫ:=by
 have h:=xI (x:=64) (b:=15000) e f (by decide) (cs:=cs) (k:=0) (by lia) cb;refine iK (k:=21405) (aP h ?_) (by decide);have d:(2:Nat)^21405=32*2^(15000+64*100):=by rw[show 21405=5+(15000+64*100)from rfl,fA 2 5]
 rw[d];exact eE _ (aP a (by decide))
theorem wn{z:Int}{k:Nat}(a:-100<=z)(b:z+1<=2^64)(c:k<=24):(chZ z k).natAbs<ϫ:=iK (IP a b (by decide) (by lia)) (by lia)
theorem CG{a:fc}(cb:∀c∈a,c.natAbs<=2^15000):∀c∈a,c.natAbs<ϫ:=λc b=>iK (cb c b) (by decide)
def ϲ(m:Nat)(F:Nat->Int):List Int:=(List.range m).map λj=>Υ j F
def ϻ(b a:fc)(c:Nat)(z:Int)(g:Nat):Int:=Ω a (ω c g) 0*iD b (z-(g:Int)) 0
theorem U4{a:fc}{c:Int}(h:c∈nxr a):∃x∈a,∃y∈a,c=y-x:=by
 unfold nxr at h;obtain⟨p,b,rfl⟩:=aU.mp h;exact⟨p.1,(iI b).1,p.2,cL (iI b).2,rfl⟩
theorem Cg:∀(n:Nat){xs:fc}{b:Nat},xs.length=n->(∀x∈xs,x.natAbs<=2^b)->∀c∈ϧ xs,c.natAbs<=2^(b+n)
 | 0,xs,b,hl,_,c,hc=>by
   rw[List.length_eq_zero_iff.mp hl]at hc;cases hc
 | n+1,[],b,hl,_,c,hc=>by cases hc
 | n+1,x::r,b,hl,hx,c,hc=>by
   rw[IL]at hc;rcases aw.mp hc with rfl|hc
   .exact aP (hx _ (.head _)) (cj (by decide) (by lia))
   .have h:=Cg n (xs:=nxr (x::r)) (b:=b+1) (by rw[Ae,hl];rfl) (λy g=>by
     obtain⟨u,e,v,f,rfl⟩:=U4 g;have d:=hx u e;have a:=hx v f;rw[iC,Nat.mul_two];exact aP (Int.natAbs_sub_le _ _) (by first|exact gV d a|exact gV a d)) c hc
    rw[show b+(n+1)=b+1+n by lia];exact h
theorem BE{F:Nat->Int}{b:Nat}:∀{k:Nat},(∀i,i<k->(F i).natAbs<=2^b)->(Υ k F).natAbs<=k*2^b
 | 0,_=>by show(0:Int).natAbs<=_;lia
 | k+1,h=>by
   have c:=BE (F:=F) (k:=k) λi d=>h i (by lia);have a:=h k (by lia);show(Υ k F+F k).natAbs<=_;rw[gm,o0];exact aP (jC _ _) (gV c a)
theorem Pj{cs:fc}{z:Int}(e:-100<=z)(f:z+1<=2^64)(a:cs.length<=24)(cb:∀c∈cs,c.natAbs<=2^15000):(iD cs z 0).natAbs<=2^21405:=by
 have h:=xI (x:=64) (b:=15000) e f (by decide) (cs:=cs) (k:=0) (by lia) cb;refine aP h ?_;have d:(2:Nat)^21405=32*2^(15000+64*100):=by rw[show 21405=5+(15000+64*100)from rfl,fA 2 5]
 rw[d];exact eE _ (aP a (by decide))
theorem IZ{b a:fc}{c:Nat}{z:Int}{g:Nat}(n:-70<=z)(m:z+1<=2^64)(l:g<=24)(f:c<=1000000)(i:b.length<=24)(h:a.length<=24)(k:∀c∈b,c.natAbs<=2^15000)(j:∀c∈a,c.natAbs<=2^15000):(ϻ b a c z g).natAbs<=2^42810:=by
 unfold ϻ;have o:ω c g+1<=2^25:=by
  unfold ω;have e:(g+1)*c<=25*1000000:=cg (by lia) f;have d:(2:Nat)^25=33554432:=rfl
  lia
 have e:(Ω a (ω c g) 0).natAbs<=2^21405:=Pj (z:=((ω c g:Nat):Int)) (by lia) (by lia) h j;have d:(iD b (z-(g:Int)) 0).natAbs<=2^21405:=Pj (by lia) (by lia) i k;rw[kY,show 42810=21405+21405 from rfl,fA];exact cg e d
theorem Lp{m:Nat}{d a:fc}{c:Nat}{z:Int}(t:m<=24)(g:-70<=z)(p:z+1<=2^64)(f:c<=1000000)(o:d.length<=24)(l:a.length<=24)(n:∀c∈d,c.natAbs<=2^15000)(h:∀c∈a,c.natAbs<=2^15000):∀x∈ϧ (ϲ m (ϻ d a c z)),x.natAbs<ϫ:=λx q=>by
 have k:(ϲ m (ϻ d a c z)).length=m:=by unfold ϲ;rw[ah,bG]
 have:=Cg m (b:=42815) k (λy e=>by
  unfold ϲ at e;obtain⟨j,r,rfl⟩:=aU.mp e;have u:=cQ.mp r;refine aP (BE λi s=>IZ g p (show i<=24 by lia) f o l n h) ?_;rw[show 42815=5+42810 from rfl,fA 2 5];exact eE _ (show j<=2^5 by lia)) x q
 exact iK this (by lia)
theorem En(a:fc):(ϧ a).length=a.length:=by
 unfold ϧ;generalize (λi=>a.getD i 0)=f
 induction a.length generalizing f with
 | zero=>rfl
 | succ n ih=>show(_::dfs n _).length=_;rw[aR,ih]
section
variable{fr be:Int->Bool}{ws:Int->Nat->Int}
theorem sL{a b:Int}(d:1<=a)(c:1<=b):1<=a*b:=fW d c (by decide) (by lia)
theorem uz:∀{ks:fc},(∀k∈ks,∀n,1<=ws k n)->∀n,1<=ς fr be ws ks n
 | [],_,_=>bw _
 | k::ks,h,n=>by
   have b:=h k (.head _);have a:=uz (ks:=ks) λx c=>h x (.tail _ c);show 1<=if fr k=true then _ else if be k=true then _ else _;split
   .show 1<=Υ n _+ws k n*ς fr be ws ks (n-n);have:=Ht (k:=n) (f:=λi=>ws k i*ς fr be ws ks (n-i)) λi _=>bW (by decide) (sL (b i) (a (n-i)));have:=sL (b n) (a (n-n))
    lia
   .split
    .exact sL (b _) (a _)
    .exact sL (b _) (a _)
variable{m r:Int}{l:hD}{d:fm}{j:fv}{c:fv}{o:fc}
theorem wS(g:Good m l)(R:ε m l r d j):∀(n:Nat){v:Int},0<=v->v<m->m.toNat-j v<=n->∀h,1<=wy m l r d j fr be c v h
 | 0,v,h0,h1,e=>by have:=gP R h0 h1;lia
 | n+1,v,h0,h1,e=>by
   rw[nZ g R h0 h1];refine uz λk b i=>?_;obtain⟨a,p,q⟩:=(bz g R h0 h1).mp b;have f:=R.pos a.1 a.2 p;rw[q]at f;exact wS g R n a.1 a.2 (by lia) _
theorem VA(g:Good m l)(R:ε m l r d j)(O:Order m r d o){k:Int}(b:0<=k)(a:k<m)(e:k≠r):υ m l r d j k*tup l d k<=υ m l r d j (d k):=by
 have p:=(R.up k b a e).1;have:=(UR g R O).std k ((O.all k b a).resolve_left e);rw[gZ b a,gZ p.1 p.2]at this;exact this
theorem DZ(g:Good m l)(R:ε m l r d j)(O:Order m r d o){k:Int}(b:0<=k)(a:k<m)(f:k≠r)(h:(c k:Int)=tup l d k)(i:Nat):υ m l r d j k*((ω (c k) i:Nat)+1)<=υ m l r d j (d k)*((i:Int)+1):=by
 have w:=VA g R O b a f;have t:=(iW g R b a f).1;have e:((ω (c k) i:Nat):Int)+1=tup l d k*((i:Int)+1):=by
  unfold ω;have:1<=(i+1)*c k:=cg (show 1<=i+1 by lia) (show 1<=c k by lia);rw[kF this,jc,h,ff];simp
 rw[e,<-gO];exact b9 w (by lia)
theorem xc{w a b:Int}(h:1<=w)(f:0<=a)(e:w*a<=b):a<=b:=bW (by have:=b9 h f;lia) e
theorem LX(g:Good m l)(R:ε m l r d j)(O:Order m r d o)(t:∀k,0<=k->k<m->k≠r->(c k:Int)=tup l d k){x:Nat}{v:Int}(n:0<=v)(p:v<m)(u:∀k∈kd m l r d v,∀h:Nat,υ m l r d j k*((h:Int)+1)<=2^x->0<=wy m l r d j fr be c k h/\wy m l r d j fr be c k h<=2^(x*Bv m l r d j k)){ks:fc}(b:∀k∈ks,k∈kd m l r d v){h:Nat}(q:υ m l r d j v*((h:Int)+1)<=2^x):ς fr be (λk g=>wy m l r d j fr be c k (ω (c k) g)) ks h<=2^(x*(ks.map λk=>Bv m l r d j k+1).sum):=by
 have w:=(iY g R n p).1;have:=(xU (fr:=fr) (be:=be) (ws:=λk g=>wy m l r d j fr be c k (ω (c k) g)) (X:=h) (x:=x) (by rw[eL];exact xc w (by lia) q) (a:=λk=>x*Bv m l r d j k) (ks:=ks) (λk f i z=>by
  obtain⟨e,s,y⟩:=(bz g R n p).mp (b k f);refine u k (b k f) _ (bW (DZ g R O e.1 e.2 s (t k e.1 e.2 s) i) ?_);rw[y];exact bW (bU (by lia) (by lia)) q) h (az _)).2
 refine bW this (Cd ?_);rw[jI];exact sN λk _=>by rw[gm,jI];lia
theorem LK(g:Good m l)(R:ε m l r d j)(O:Order m r d o)(f:∀k,0<=k->k<m->k≠r->(c k:Int)=tup l d k){x:Nat}:∀(n:Nat){v:Int},0<=v->v<m->m.toNat-j v<=n->∀h:Nat,υ m l r d j v*((h:Int)+1)<=2^x->0<=wy m l r d j fr be c v h/\wy m l r d j fr be c v h<=2^(x*Bv m l r d j v)
 | 0,v,h0,h1,e=>by have:=gP R h0 h1;lia
 | n+1,v,h0,h1,e=>λh t=>by
   refine⟨bW (by decide) (wS g R _ h0 h1 (az _) h),?_⟩;rw[nZ g R h0 h1,<-jP g R h0 h1];refine LX g R O f h0 h1 (λk b i p=>?_) (λk b=>b) t;obtain⟨a,s,u⟩:=(bz g R h0 h1).mp b;have q:=R.pos a.1 a.2 s;rw[u]at q;exact LK g R O f n a.1 a.2 (by lia) i p
end
section
variable{m r w:Int}{i:hD}{b:fm}{d:fv}{p o j:fm}
structure Spr(m:Int)(i:hD)(r:Int)(b:fm)(d:fv)(w:Int)(p o:fm):Prop where
 rt:p r=w-1
 up:∀v,0<=v->v<m->v≠r->p v=(o v+1)*tup i b v-1/\(o v≠0->υ m i r b d v*tup i b v=υ m i r b d (b v))
 su:∀v,0<=v->v<m->kd m i r b v≠[]->((kd m i r b v).map o).sum=p v
theorem Spr.Ε(g:Good m i)(R:ε m i r b d)(N:Spr m i r b d w p o)(h:∀v,0<=v->v<m->j v=if kd m i r b v=[]then p v else 0):∀(n:Nat)(v:Int),m.toNat-d v=n->0<=v->v<m->Pb.Ε m i r b d j (ϛ i b) v=p v
 | 0,v,e,h0,h1=>by
   have:=gP R h0 h1
   lia
 | n+1,v,e,h0,h1=>by
   rw[eG g R h0 h1,h v h0 h1];have k:∀u∈bQ m i (front r b v) v,ϛ i b u (Pb.Ε m i r b d j (ϛ i b) u)=o u:=λu q=>by
    obtain⟨a,f,s⟩:=(bz g R h0 h1).mp q;have l:=R.pos a.1 a.2 f;rw[s]at l;rw[Spr.Ε g R N h n u (by lia) a.1 a.2,(N.up u a.1 a.2 f).1];exact Fa (iW g R a.1 a.2 f).1
   rw[ko k];by_cases c:kd m i r b v=[]
   .rw[aj c,show bQ m i (front r b v) v=[]from c];exact g6 _
   .rw[ag c,N.su v h0 h1 c];exact cM _
theorem Spr.sums(g:Good m i)(R:ε m i r b d)(N:Spr m i r b d w p o)(q:∀v,0<=v->v<m->j v=if kd m i r b v=[]then p v else 0):∀(n:Nat)(v:Int),m.toNat-d v=n->0<=v->v<m->((cI m i r b d v).map λu=>j u-υ m i r b d u*(tup i b u-1)).sum=υ m i r b d v*p v-υ m i r b d v*(tup i b v-1)
 | 0,v,e,h0,h1=>by
   have:=gP R h0 h1
   lia
 | n+1,v,e,h0,h1=>by
   rw[jv g R h0 h1,aq,aH,BW];have x:∀u∈bQ m i (front r b v) v,((cI m i r b d u).map λu=>j u-υ m i r b d u*(tup i b u-1)).sum=υ m i r b d v*o u:=λu z=>by
    obtain⟨f,t,s⟩:=(bz g R h0 h1).mp z;have y:=R.pos f.1 f.2 t;rw[s]at y;obtain⟨A,h⟩:=N.up u f.1 f.2 t;rw[Spr.sums g R N q n u (by lia) f.1 f.2,A];rw[s]at h;generalize υ m i r b d v=V at h ⊢;generalize υ m i r b d u=W at h ⊢;generalize tup i b u=k at h ⊢;by_cases c:o u=0
    .rw[c,cM,gM,o9]
     lia
    .rw[<-h c,eC,eC,dW,dB,fJ,gM,gO,ff (o u)]
     lia
   have B:∀l:List Int,(l.map λu=>υ m i r b d v*o u).sum=υ m i r b d v*(l.map o).sum:=λl=>by
    induction l with
    | nil=>exact(o9 _).symm
    | cons a l ih=>rw[aq,aq,aH,aH,ih,dB]
   rw[ko x,B,q v h0 h1];by_cases c:kd m i r b v=[]
   .have w1:υ m i r b d v=1:=by
     show fo mx m i r b d _ _ v=1;rw[sG g R h0 h1,show bQ m i (front r b v) v=[]from c]
     rfl
    rw[aj c,w1,show bQ m i (front r b v) v=[]from c];show p v-_+1*0=_
    lia
   .rw[ag c,N.su v h0 h1 c]
    lia
theorem Spr.total(g:Good m i)(R:ε m i r b d)(N:Spr m i r b d w p o)(s:∀v,0<=v->v<m->j v=if kd m i r b v=[]then p v else 0)(c:0<=r)(e:r<m){a:fc}(l:cI m i r b d r=r::a)(O:Order m r b a):((bM m.toNat).map j).sum=lE m i r b (dP m i r b d) w:=by
 have h:=Spr.sums g R N s _ r rfl c e;rw[l,Bt,N.rt]at h;have n:((r::a).map j).sum=((bM m.toNat).map j).sum:=by
  refine sx ((iP O.nd (ij _) λx=>?_).map _);rw[aw,fh];refine⟨λh=>?_,λh=>O.all x h.1 (by have:=h.2;lia)⟩;rcases h with h|h
  .rw[h];exact⟨c,by lia⟩
  .have:=O.Ι x h;exact⟨this.1,by lia⟩
 rw[<-n];unfold lE;rw[<-O.sums,show(dP m i r b d).getD r.toNat 0=υ m i r b d r from gZ c e];have q:(a.map (slk i b (dP m i r b d))).sum=(a.map λu=>υ m i r b d u*(tup i b u-1)).sum:=by
  refine ko λu k=>?_;unfold slk tup;rw[show(dP m i r b d).getD u.toNat 0=υ m i r b d u from gZ (O.Ι u k).1 (O.Ι u k).2]
 rw[q];rw[aq (f:=λu=>υ m i r b d u*(tup i b u-1)),aH]at h
 lia
theorem LL(g:Good m i)(R:ε m i r b d){B:Int}(l:∀v,0<=j v/\j v<=B):∀(n:Nat)(v:Int),m.toNat-d v=n->0<=v->v<m->Pb.Ε m i r b d j (ϛ i b) v<=B*((Bv m i r b d v:Int)+1)
 | 0,v,e,h0,h1=>by
   have:=gP R h0 h1
   lia
 | n+1,v,e,h0,h1=>by
   have t:∀f:List Int,(∀k∈f,k∈kd m i r b v)->(f.map λc=>ϛ i b c (Pb.Ε m i r b d j (ϛ i b) c)).sum<=B*((f.map λk=>Bv m i r b d k+1).sum:Nat):=λf s=>by
    induction f with
    | nil=>exact pE (o9 _).symm
    | cons u f ih=>
      have:=ih λk h=>s k (.tail _ h);obtain⟨a,x,A⟩:=(bz g R h0 h1).mp (s u (.head _));have y:=R.pos a.1 a.2 x;rw[A]at y;have q:=LL g R l n u (by lia) a.1 a.2;have z:=JB (m:=m) (r:=r) (par:=b) (dep:=d) g (λv=>(l v).1) u;have C:=(iW g R a.1 a.2 x).1;rw[aq,aq,aH,aH,eL,dB];have:ϛ i b u (Pb.Ε m i r b d j (ϛ i b) u)<=Pb.Ε m i r b d j (ϛ i b) u:=by
       show _/tup i b u<=_;exact Int.ediv_le_self _ z
      have e:((Bv m i r b d u+1:Nat):Int)=(Bv m i r b d u:Int)+1:=rfl;rw[e]
      lia
   have:=t _ λk h=>h;rw[eG g R h0 h1];rw[jP g R h0 h1]at this;have:=(l v).2;rw[dB,fJ];exact bW (Int.add_le_add this (t _ λk h=>h)) (by rw[jP g R h0 h1];lia)
end
theorem VP{m r w:Int}{d:hD}{a:fm}{b:fv}(g:Good m d)(R:ε m d r a b)(i:0<=r)(h:r<m)(s:1<=w):υ m d r a b r*w<=3*lE m d r a (dP m d r a b) w+1:=by
 have o:∀x∈((bM m.toNat).filter λv=>decide (v≠r)).map (slk d a (dP m d r a b)),0<=x:=λx u=>by
  obtain⟨v,j,rfl⟩:=aU.mp u;obtain⟨j,t⟩:=bx.mp j;obtain⟨l,E⟩:=fh.mp j;have n:v<m:=by lia
  have p:2<=(ce d v (a v)).getD 1:=(iW g R l n (bF t)).1;unfold slk;rw[show(dP m d r a b).getD v.toNat 0=υ m d r a b v from gZ l n];exact dF (by have:=(iY g R l n).1;lia) (by lia)
 have C:=(iY g R i h).1;have z:=wB o;have A:=dF (show 0<=υ m d r a b r by lia) (show 0<=w-1 by lia);have e:υ m d r a b r*w=υ m d r a b r*(w-1)+υ m d r a b r:=by rw[eC,fJ];lia
 unfold lE;rw[show(dP m d r a b).getD r.toNat 0=υ m d r a b r from gZ i h,e];by_cases c:kd m d r a r=[]
 .have s:υ m d r a b r=1:=by
   show fo mx m d r a b _ _ r=1;rw[sG g R i h,show bQ m d (front r a r) r=[]from c]
   rfl
  lia
 .obtain⟨k,hk,ek⟩:=Fh g R i h c;obtain⟨f,q,B⟩:=(bz g R i h).mp hk;have p:=(iW g R f.1 f.2 q).1;have y:=(iY g R f.1 f.2).1;have:=EW o (aU.mpr ⟨k,bx.mpr ⟨fh.mpr ⟨f.1,by lia⟩,bq q⟩,rfl⟩);unfold slk at this;rw[show(dP m d r a b).getD k.toNat 0=υ m d r a b k from gZ f.1 f.2,show(ce d k (a k)).getD 1=tup d a k from rfl,eC,fJ,ek]at this;have D:υ m d r a b k*2<=υ m d r a b r:=by rw[<-ek];exact bU p (by lia)
  unfold slk
  lia
theorem UF{d b N W:Int}{i g D a:Nat}(f:d.natAbs<=i*2^(50000+600*a-590))(l:b.natAbs<=2^50000)(j:N.natAbs<=2^(50000+600*g))(m:0<=W/\W<=2^(D*(45+20*D)))(n:g+1+D<=a)(k:a<=23):IntMulOk N W/\(d+b+N*W).natAbs<=(i+1)*2^(50000+600*a-590):=by
 have c:W.natAbs<=2^(600*D):=aP (tq m) (cj (by decide) (by rw[jI 600];exact kJ _ (by lia)));refine⟨r9 (iK j (by lia)) (iK c (by lia)),?_⟩;have p:(N*W).natAbs<=2^(50000+600*a-591):=by
  rw[kY];refine aP (cg j c) ?_;rw[<-fA];exact cj (by decide) (by lia)
 have h:b.natAbs<=2^(50000+600*a-591):=aP l (cj (by decide) (by lia));have e:2^(50000+600*a-590)=2^(50000+600*a-591)*2:=by rw[<-iC];congr 1;lia
 rw[gm,o0];generalize i*2^(50000+600*a-590)=I at f ⊢;rw[e];generalize 2^(50000+600*a-591)=X at p h ⊢;refine aP (jC _ _) (aP (gV (aP (jC _ _) (gV f h)) p) ?_);rw[Nat.mul_two,Nat.add_assoc];exact az _
theorem VT{m:Nat}{cs csk:fc}{c:Nat}{z:Int}{g:Nat}(v:m<=24)(f:-70<=z)(r:z+1<=2^64)(e:(g:Int)+1<=2^64)(d:c<=1000000)(q:cs.length<=24)(l:csk.length<=24)(p:∀c∈cs,c.natAbs<=2^15000)(h:∀c∈csk,c.natAbs<=2^15000):(Ω (ϧ (ϲ m (ϻ cs csk c z))) g 0).natAbs<=2^50000:=by
 have a:(ϧ (ϲ m (ϻ cs csk c z))).length=m:=by rw[En];unfold ϲ;rw[ah,bG]
 have n:∀x∈ϧ (ϲ m (ϻ cs csk c z)),x.natAbs<=2^(42815+m):=Cg m (by unfold ϲ;rw[ah,bG]) λx s=>by
  obtain⟨j,t,rfl⟩:=aU.mp s;rw[cQ]at t;have o:=BE (F:=ϻ cs csk c z) (b:=42810) (k:=j) λi u=>IZ f r (by lia) d q l p h;refine aP o (aP (eE _ (show j<=2^5 by lia)) (oj (fA ..).symm))
 have:=xI (z:=(g:Int)) (x:=64) (by lia) e (by decide) (cs:=ϧ (ϲ m (ϻ cs csk c z))) (k:=0) (by lia) n;rw[qM,a]at this;refine aP this (aP (eE _ (show m<=2^5 by lia)) ?_);rw[<-fA];exact cj (by decide) (by lia)
section
variable{X:Cx}{x:Str}{p a l:Pos}{e:Expr}{d:List Expr}{v:TE}{t:TA}{y:XK->TE}
theorem γ(i:Nat)(n:NmL X.env.scope x:=by exact .of (by kernel_rfl))(b:X.N[i]?=some x:=by rfl):PE X (.Name x a) (yZ i):=pvl i n b
theorem Ϩ(i:Nat)(n:NmC X.env.scope x:=by exact .of (by kernel_rfl))(b:X.N[i]?=some x:=by rfl):PE X (.Name x a) (yZ i):=pvc i n b
theorem ϐ(i:Nat)(c:X.N.Nodup:=by exact bF (by kernel_rfl))(f:X.N[i]?=some x:=by rfl)(b:X.env.scope.names.lookup x=some .local:=by kernel_rfl):PG X (.Name x a) (xf i):=f9 c f (.inl b) (.inr b)
theorem Η(i:Nat)(h:PE X e v)(g:X.N.Nodup:=by exact bF (by kernel_rfl))(f:X.N[i]?=some x:=by rfl)(b:X.env.scope.names.lookup x=some .local:=by kernel_rfl)(c:swapsWith e (some (.Name x l)) a.line X.env=pure false:=by rfl):PS X (.Assign [.Name x l] e a) (D7 v (xf i)):=tG g f (.inl b) h c (.inr b)
variable{s:CXT}{k j:Nat}{f:Addr}{fd:FuncData}{h:gy}{g:Sp}{o:Stmt}
theorem pcq(D:Df X.K X.mg x o h f fd)(F:Ψ X.prog X.w X.K X.mg X.base s k f fd h g)(c:ϊ j X.A)(q:bZ s)(n:PA X (e::d) t)(z:k<=j:=by decide)(i:X.env.scope.names.lookup x=some .globalImplicit:=by kernel_rfl)(hdb:(x==("__debug__":Str))=false:=by kernel_rfl)(r:starEach (e::d) X.env=(false,eval e X.env)::starEach d X.env:=by rfl)(u:(backTo a (starEach d X.env)).any (·.1)=false:=by rfl):PE X (.Call (.Name x p) (e::d) [] a) (ya g [] E0 t):=ju F (c.mono z) i D.m D.F.kp D.b .nil (md q) n hdb r u
theorem pcx{E:XK}(D:Df X.K X.mg x o h f fd)(F:Ψ X.prog X.w X.K X.mg X.base s k f fd h g)(i:ϊ j X.A)(q:tj s X E)(r:PA X (e::d) t)(B:k<=j:=by decide)(n:X.env.scope.names.lookup x=some .globalImplicit:=by kernel_rfl)(c:(x==("__debug__":Str))=false:=by kernel_rfl)(u:starEach (e::d) X.env=(false,eval e X.env)::starEach d X.env:=by rfl)(z:(backTo a (starEach d X.env)).any (·.1)=false:=by rfl):PE X (.Call (.Name x p) (e::d) [] a) (ya g [] E t):=ju F (i.mono B) n D.m D.F.kp D.b .nil q r c u z
structure Cb(P:Program)(w:World)(K:f3)(mg:gx)(base:Heap)(x:Str)(o:Stmt)(h:gy)(k:Nat)(g:Sp) where
 f:Addr
 fd:FuncData
 D:Df K mg x o h f fd
 G:Ψ P w K mg base (ψ P w) k f fd h g
def cb{P:Program}{w:World}{K:f3}{b:gx}{base:Heap}(D:Df K b x o h f fd)(G:Ψ P w K b base (ψ P w) k f fd h g):Cb P w K b base x o h k g:=⟨f,fd,D,G⟩
theorem Μ(c:Cb X.prog X.w X.K X.mg X.base x o h k g)(b:ϊ j X.A)(q:bZ (ψ X.prog X.w))(m:PA X (e::d) t)(u:k<=j:=by decide)(i:X.env.scope.names.lookup x=some .globalImplicit:=by kernel_rfl)(hdb:(x==("__debug__":Str))=false:=by kernel_rfl)(n:starEach (e::d) X.env=(false,eval e X.env)::starEach d X.env:=by rfl)(r:(backTo a (starEach d X.env)).any (·.1)=false:=by rfl):PE X (.Call (.Name x p) (e::d) [] a) (ya g [] E0 t):=pcq c.D c.G b q m u i hdb n r
theorem Χ{E:XK}(c:Cb X.prog X.w X.K X.mg X.base x o h k g)(b:ϊ j X.A)(m:tj (ψ X.prog X.w) X E)(n:PA X (e::d) t)(u:k<=j:=by decide)(i:X.env.scope.names.lookup x=some .globalImplicit:=by kernel_rfl)(hdb:(x==("__debug__":Str))=false:=by kernel_rfl)(q:starEach (e::d) X.env=(false,eval e X.env)::starEach d X.env:=by rfl)(r:(backTo a (starEach d X.env)).any (·.1)=false:=by rfl):PE X (.Call (.Name x p) (e::d) [] a) (ya g [] E t):=pcx c.D c.G b m n u i hdb q r
variable{u T:String}{r:List V->Hp->VK->Prop}
theorem pcb(q:oC X (.builtin u) r)(i:X.mg x=none)(n:PA X (e::d) t)(A:bootBuiltins x=some (.builtin u):=by kernel_rfl)(c:X.env.scope.names.lookup x=some .globalImplicit:=by kernel_rfl)(m:decide (x="__name__")=false:=by kernel_rfl)(b:(x==("__debug__":Str))=false:=by kernel_rfl)(w:starEach (e::d) X.env=(false,eval e X.env)::starEach d X.env:=by rfl)(z:(backTo a (starEach d X.env)).any (·.1)=false:=by rfl):PE X (.Call (.Name x p) (e::d) [] a) (tCB r t):=QO q c i A n (of_decide_eq_false m) b w z
theorem pct(n:oC X (.type T) r)(c:X.mg x=none)(m:PA X (e::d) t)(z:bootBuiltins x=some (.type T):=by kernel_rfl)(b:X.env.scope.names.lookup x=some .globalImplicit:=by kernel_rfl)(i:decide (x="__name__")=false:=by kernel_rfl)(hdb:(x==("__debug__":Str))=false:=by kernel_rfl)(q:starEach (e::d) X.env=(false,eval e X.env)::starEach d X.env:=by rfl)(w:(backTo a (starEach d X.env)).any (·.1)=false:=by rfl):PE X (.Call (.Name x p) (e::d) [] a) (tCB r t):=Fq n b c z m (of_decide_eq_false i) hdb q w
end
inductive E3{A0 A1 A2:Type}(p:A0->A1->A2->Prop):Prop
 | mk (a0:A0) (a1:A1) (a2:A2) (h:p a0 a1 a2):E3 p
inductive E4{A0 A1 A2 A3:Type}(p:A0->A1->A2->A3->Prop):Prop
 | mk (a0:A0) (a1:A1) (a2:A2) (a3:A3) (h:p a0 a1 a2 a3):E4 p
inductive E5{A0 A1 A2 A3 A4:Type}(p:A0->A1->A2->A3->A4->Prop):Prop
 | mk (a0:A0) (a1:A1) (a2:A2) (a3:A3) (a4:A4) (h:p a0 a1 a2 a3 a4):E5 p
inductive E6{A0 A1 A2 A3 A4 A5:Type}(p:A0->A1->A2->A3->A4->A5->Prop):Prop
 | mk (a0:A0) (a1:A1) (a2:A2) (a3:A3) (a4:A4) (a5:A5) (h:p a0 a1 a2 a3 a4 a5):E6 p
inductive E7{A0 A1 A2 A3 A4 A5 A6:Type}(p:A0->A1->A2->A3->A4->A5->A6->Prop):Prop
 | mk (a0:A0) (a1:A1) (a2:A2) (a3:A3) (a4:A4) (a5:A5) (a6:A6) (h:p a0 a1 a2 a3 a4 a5 a6):E7 p
inductive E8{A0 A1 A2 A3 A4 A5 A6 A7:Type}(p:A0->A1->A2->A3->A4->A5->A6->A7->Prop):Prop
 | mk (a0:A0) (a1:A1) (a2:A2) (a3:A3) (a4:A4) (a5:A5) (a6:A6) (a7:A7) (h:p a0 a1 a2 a3 a4 a5 a6 a7):E8 p
inductive E9{A0 A1 A2 A3 A4 A5 A6 A7 A8:Type}(p:A0->A1->A2->A3->A4->A5->A6->A7->A8->Prop):Prop
 | mk (a0:A0) (a1:A1) (a2:A2) (a3:A3) (a4:A4) (a5:A5) (a6:A6) (a7:A7) (a8:A8) (h:p a0 a1 a2 a3 a4 a5 a6 a7 a8):E9 p
inductive E10{A0 A1 A2 A3 A4 A5 A6 A7 A8 A9:Type}(p:A0->A1->A2->A3->A4->A5->A6->A7->A8->A9->Prop):Prop
 | mk (a0:A0) (a1:A1) (a2:A2) (a3:A3) (a4:A4) (a5:A5) (a6:A6) (a7:A7) (a8:A8) (a9:A9) (h:p a0 a1 a2 a3 a4 a5 a6 a7 a8 a9):E10 p
inductive E11{A0 A1 A2 A3 A4 A5 A6 A7 A8 A9 oK:Type}(p:A0->A1->A2->A3->A4->A5->A6->A7->A8->A9->oK->Prop):Prop
 | mk (a0:A0) (a1:A1) (a2:A2) (a3:A3) (a4:A4) (a5:A5) (a6:A6) (a7:A7) (a8:A8) (a9:A9) (a10:oK) (h:p a0 a1 a2 a3 a4 a5 a6 a7 a8 a9 a10):E11 p
inductive E12{A0 A1 A2 A3 A4 A5 A6 A7 A8 A9 oK A11:Type}(p:A0->A1->A2->A3->A4->A5->A6->A7->A8->A9->oK->A11->Prop):Prop
 | mk (a0:A0) (a1:A1) (a2:A2) (a3:A3) (a4:A4) (a5:A5) (a6:A6) (a7:A7) (a8:A8) (a9:A9) (a10:oK) (a11:A11) (h:p a0 a1 a2 a3 a4 a5 a6 a7 a8 a9 a10 a11):E12 p
inductive E16{A0 A1 A2 A3 A4 A5 A6 A7 A8 A9 oK A11 A12 A13 A14 A15:Type}(p:A0->A1->A2->A3->A4->A5->A6->A7->A8->A9->oK->A11->A12->A13->A14->A15->Prop):Prop
 | mk (a0:A0) (a1:A1) (a2:A2) (a3:A3) (a4:A4) (a5:A5) (a6:A6) (a7:A7) (a8:A8) (a9:A9) (a10:oK) (a11:A11) (a12:A12) (a13:A13) (a14:A14) (a15:A15) (h:p a0 a1 a2 a3 a4 a5 a6 a7 a8 a9 a10 a11 a12 a13 a14 a15):E16 p
inductive E17{A0 A1 A2 A3 A4 A5 A6 A7 A8 A9 oK A11 A12 A13 A14 A15 A16:Type}(p:A0->A1->A2->A3->A4->A5->A6->A7->A8->A9->oK->A11->A12->A13->A14->A15->A16->Prop):Prop
 | mk (a0:A0) (a1:A1) (a2:A2) (a3:A3) (a4:A4) (a5:A5) (a6:A6) (a7:A7) (a8:A8) (a9:A9) (a10:oK) (a11:A11) (a12:A12) (a13:A13) (a14:A14) (a15:A15) (a16:A16) (h:p a0 a1 a2 a3 a4 a5 a6 a7 a8 a9 a10 a11 a12 a13 a14 a15 a16):E17 p
inductive E18{A0 A1 A2 A3 A4 A5 A6 A7 A8 A9 oK A11 A12 A13 A14 A15 A16 A17:Type}(p:A0->A1->A2->A3->A4->A5->A6->A7->A8->A9->oK->A11->A12->A13->A14->A15->A16->A17->Prop):Prop
 | mk (a0:A0) (a1:A1) (a2:A2) (a3:A3) (a4:A4) (a5:A5) (a6:A6) (a7:A7) (a8:A8) (a9:A9) (a10:oK) (a11:A11) (a12:A12) (a13:A13) (a14:A14) (a15:A15) (a16:A16) (a17:A17) (h:p a0 a1 a2 a3 a4 a5 a6 a7 a8 a9 a10 a11 a12 a13 a14 a15 a16 a17):E18 p
inductive E19{A0 A1 A2 A3 A4 A5 A6 A7 A8 A9 oK A11 A12 A13 A14 A15 A16 A17 A18:Type}(p:A0->A1->A2->A3->A4->A5->A6->A7->A8->A9->oK->A11->A12->A13->A14->A15->A16->A17->A18->Prop):Prop
 | mk (a0:A0) (a1:A1) (a2:A2) (a3:A3) (a4:A4) (a5:A5) (a6:A6) (a7:A7) (a8:A8) (a9:A9) (a10:oK) (a11:A11) (a12:A12) (a13:A13) (a14:A14) (a15:A15) (a16:A16) (a17:A17) (a18:A18) (h:p a0 a1 a2 a3 a4 a5 a6 a7 a8 a9 a10 a11 a12 a13 a14 a15 a16 a17 a18):E19 p
inductive E20{A0 A1 A2 A3 A4 A5 A6 A7 A8 A9 oK A11 A12 A13 A14 A15 A16 A17 A18 A19:Type}(p:A0->A1->A2->A3->A4->A5->A6->A7->A8->A9->oK->A11->A12->A13->A14->A15->A16->A17->A18->A19->Prop):Prop
 | mk (a0:A0) (a1:A1) (a2:A2) (a3:A3) (a4:A4) (a5:A5) (a6:A6) (a7:A7) (a8:A8) (a9:A9) (a10:oK) (a11:A11) (a12:A12) (a13:A13) (a14:A14) (a15:A15) (a16:A16) (a17:A17) (a18:A18) (a19:A19) (h:p a0 a1 a2 a3 a4 a5 a6 a7 a8 a9 a10 a11 a12 a13 a14 a15 a16 a17 a18 a19):E20 p
inductive E21{A0 A1 A2 A3 A4 A5 A6 A7 A8 A9 oK A11 A12 A13 A14 A15 A16 A17 A18 A19 A20:Type}(p:A0->A1->A2->A3->A4->A5->A6->A7->A8->A9->oK->A11->A12->A13->A14->A15->A16->A17->A18->A19->A20->Prop):Prop
 | mk (a0:A0) (a1:A1) (a2:A2) (a3:A3) (a4:A4) (a5:A5) (a6:A6) (a7:A7) (a8:A8) (a9:A9) (a10:oK) (a11:A11) (a12:A12) (a13:A13) (a14:A14) (a15:A15) (a16:A16) (a17:A17) (a18:A18) (a19:A19) (a20:A20) (h:p a0 a1 a2 a3 a4 a5 a6 a7 a8 a9 a10 a11 a12 a13 a14 a15 a16 a17 a18 a19 a20):E21 p
inductive E22{A0 A1 A2 A3 A4 A5 A6 A7 A8 A9 oK A11 A12 A13 A14 A15 A16 A17 A18 A19 A20 A21:Type}(p:A0->A1->A2->A3->A4->A5->A6->A7->A8->A9->oK->A11->A12->A13->A14->A15->A16->A17->A18->A19->A20->A21->Prop):Prop
 | mk (a0:A0) (a1:A1) (a2:A2) (a3:A3) (a4:A4) (a5:A5) (a6:A6) (a7:A7) (a8:A8) (a9:A9) (a10:oK) (a11:A11) (a12:A12) (a13:A13) (a14:A14) (a15:A15) (a16:A16) (a17:A17) (a18:A18) (a19:A19) (a20:A20) (a21:A21) (h:p a0 a1 a2 a3 a4 a5 a6 a7 a8 a9 a10 a11 a12 a13 a14 a15 a16 a17 a18 a19 a20 a21):E22 p
inductive E23{A0 A1 A2 A3 A4 A5 A6 A7 A8 A9 oK A11 A12 A13 A14 A15 A16 A17 A18 A19 A20 A21 A22:Type}(p:A0->A1->A2->A3->A4->A5->A6->A7->A8->A9->oK->A11->A12->A13->A14->A15->A16->A17->A18->A19->A20->A21->A22->Prop):Prop
 | mk (a0:A0) (a1:A1) (a2:A2) (a3:A3) (a4:A4) (a5:A5) (a6:A6) (a7:A7) (a8:A8) (a9:A9) (a10:oK) (a11:A11) (a12:A12) (a13:A13) (a14:A14) (a15:A15) (a16:A16) (a17:A17) (a18:A18) (a19:A19) (a20:A20) (a21:A21) (a22:A22) (h:p a0 a1 a2 a3 a4 a5 a6 a7 a8 a9 a10 a11 a12 a13 a14 a15 a16 a17 a18 a19 a20 a21 a22):E23 p
def clK(e:gy)(b:Nat)(c:List Nat)(N:gy)(a d:Scope):Bool:=(a.names.all λy=>decide (y.2≠.cell))&&decide (a.kind=.function)&&(a.names.all λy=>decide (y.2=.local->a.names.lookup y.1=some .local))&&decide (e.length=b+c.length)&&(a.names.all λy=>decide (y.2=.free->d.names.lookup y.1=some .cell))&&decide (d.kind=.function)&&(List.range c.length).all λi=>match e[b+i]?,c[i]? with
 | some x,some j=>decide (N[j]?=some x)&&decide (a.names.lookup x=some .free)
 | _,_=>false
theorem clo{X:Cx}{scope:Scope}(d:gy)(a:Nat)(b:List Nat)(h:clK d a b X.N scope X.env.scope=true:=by kernel_rfl)(o:∀x,X.env.scope.names.lookup x=some .cell->∃c,X.env.cells.lookup x=some c:=by exact λ_ h=>BR h):ϣ X d a b scope (ve X.env.cells scope.names []):=by
 unfold clK at h;simp only[bK,bT,gL,cQ]at h;obtain⟨⟨⟨⟨⟨⟨k,l⟩,n⟩,m⟩,g⟩,f⟩,p⟩:=h;refine VC a b k l n m g f o λi e=>?_;have q:=p i e;split at q
 .rename_i x j e1 e2
  simp only[bK,bT]at q;exact⟨x,j,e1,e2,q.1,q.2⟩
 .cases q
abbrev Ok(P:Program)(w:World)(K:f3)(d:gx)(a:Heap)(x:Str)(st:Stmt)(c:gy)(k:Nat)(e:Sp):Prop:=∀(f:Addr)(b:FuncData),Df K d x st c f b->Ψ P w K d a (ψ P w) k f b c e
section
variable{X:Cx}{a b:Expr}{d e:TE}{c:Pos}
theorem Ο{r:R2}(f:IxR X r)(h:PE X a d)(i:PE X b e)(g:Mj b:=by exact λ_ _=>rfl):PE X (.Subscript a b c) (tOp r d e):=oH f h i g
theorem Ϭ{f:CmpOp}{r:R2}(g:Rw X (compareOp f) r)(j:PE X a d)(k:PE X b e)(h:f≠.In:=by decide)(i:f≠.NotIn:=by decide):PT X (.Compare a [f] [b] c) (Cr (tOp r d e)):=wY g j k (lY _ h i)
end
theorem Jk(d:Int)(r:fc)(n:Nat):Ω (d::r) (n+1) 0-Ω (d::r) n 0=Ω r n 0:=by
 have:=P2 d r (n:Int);rw[show(n:Int)+1=((n+1:Nat):Int)from rfl,qM,qM,qM]at this;exact this
theorem GM:∀{cs:fc},(∀n,Ω cs n 0=0)->∀c∈cs,c=0
 | [],_=>λ_ h=>(nomatch h)
 | d::r,h=>by
   have a:=h 0;rw[LU]at a;have b:=GM (cs:=r) λn=>by rw[<-Jk d r n,h,h];rfl
   intro c hc;rcases aw.mp hc with e|hc
   .rw[e];exact a
   .exact b c hc
theorem B8:∀{a:fc},(∀c∈a,c=0)->∀(z:Int)(k:Nat),iD a z k=0
 | [],_,z,k=>pT z k
 | d::r,h,z,k=>by
   rw[kN,h d (.head _),B8 (λc b=>h c (.tail _ b)) z (k+1),j3]
   rfl
theorem Fk:∀(D:Nat){cs:fc}{f:Nat->Int},(∀n,Ω cs n 0=f n)->Pd D f->∀z:Int,Pd D (λg:Nat=>iD cs (z-(g:Int)) 0)
 | _,[],_,_,_,z=>Pd.zero (λn=>pT _ _) _
 | 0,d::r,f,h,hf,z=>by
   have i:∀c∈r,c=0:=GM λn=>by
    rw[<-Jk d r n,h,h];have k:f (n+1)=f n:=by
     have a:=hf (n+1);have b:=hf n
     lia
    lia
   intro n;show iD (d::r) _ 0=iD (d::r) _ 0;rw[kN,kN,uJ,uJ,B8 i,B8 i]
 | D+1,d::r,f,h,hf,z=>by
   have j:=(Fk D (cs:=r) (f:=dl f) (λn=>by rw[<-Jk d r n,h,h];rfl) hf (z-1)).smul (-1);show Pd D (dl λg:Nat=>iD (d::r) (z-(g:Int)) 0);have e:(dl λg:Nat=>iD (d::r) (z-(g:Int)) 0)=λg:Nat=>-1*iD r (z-1-(g:Int)) 0:=by
    funext g
    show iD (d::r) (z-((g+1:Nat):Int)) 0-iD (d::r) (z-(g:Int)) 0=_;have:=P2 d r (z-1-(g:Int));rw[show z-1-(g:Int)+1=z-(g:Int) by lia]at this;rw[show z-((g+1:Nat):Int)=z-1-(g:Int) by lia,<-this]
    lia
   rw[e];exact j
theorem Ql(m:Nat)(G:Nat->Int):ϧ ((List.range m).map G)=dfs m G:=by
 unfold ϧ;rw[ah,bG];exact vL λi a=>Bx a
theorem Ot{d a:fc}{c m b f:Nat}{z:Int}{i h:Nat->Int}(t:∀n,Ω d n 0=i n)(p:Pd b i)(j:∀n,Ω a n 0=h n)(o:Pd f h)(k:1<=c)(q:f+b+1<m)(g:Nat):Ω (ϧ (ϲ m (ϻ d a c z))) g 0=Υ g (ϻ d a c z):=by
 have s:Pd f (λg=>Ω a (ω c g) 0):=by
  have e:(λg=>Ω a (ω c g) 0)=λg=>h (c*g+(c-1)):=by
   funext g
   rw[j,LC k]
  rw[e];exact o.lin c (c-1)
 have l:Pd b (λg:Nat=>iD d (z-(g:Int)) 0):=Fk b t p z;have r:Pd (f+b) (ϻ d a c z):=Pd.mul _ (az _) s l;unfold ϲ;rw[Ql];exact Da m r.Υ q g
theorem Yz{f b:fc}{c a g:Nat}{d e:Nat->Int}(j:∀n,Ω f n 0=d n)(i:∀n,Ω b n 0=e n)(h:g<=a):ϻ f b c (a:Int) g=e (ω c g)*d (a-g):=by
 unfold ϻ;rw[show(a:Int)-(g:Int)=((a-g:Nat):Int) by lia,qM,j,i]
section
variable{fr be:Int->Bool}{o:Int->Nat->Int}
def By(fr be:Int->Bool)(o:Int->Nat->Int)(k:Int)(b:fc)(a g:Nat):Int:=if fr k=true then Υ g (λi=>o k i*ς fr be o b (a-i))else 0
inductive Rk(fr be:Int->Bool)(o:Int->Nat->Int):List Int->Nat->List (Int×Nat×Int)->Int->Prop
 | nil (left:Nat):Rk fr be o [] left [] 0
 | cons {k:Int} {ks:fc} {left g:Nat} {n nu:Int} {cs:gJ} (hg:g<=left) (hb:fr k=false->be k=true->g=left) (he:fr k=false->be k=false->g=0) (n0:0<=n) (n1:n<o k g) (h:Rk fr be o ks (left-g) cs nu):Rk fr be o (k::ks) left ((k,g,n)::cs) (By fr be o k ks left g+n*ς fr be o ks (left-g)+nu)
theorem Iy{f:Nat->Int}{a b:Nat}(h:∀i,0<=f i)(l:a<=b):Υ a f<=Υ b f:=by
 induction l with
 | refl=>exact bw _
 | step _ ih=>exact bW ih (by show Υ _ f<=Υ _ f+f _;have:=h (by assumption);lia)
theorem Rk.lt{ks:fc}{d:Nat}{r:gJ}{j:Int}(h:Rk fr be o ks d r j):(∀k∈ks,∀i,1<=o k i)->0<=j/\j<ς fr be o ks d:=by
 induction h with
 | nil d=>intro _;exact⟨bw _,show(0:Int)<1 by decide⟩
 | @cons k ks d g n j r hg hb he n0 n1 h s=>
   intro p;have s:=s λx w=>p x (.tail _ w);have l:=p k (.head _);have m:=uz (fr:=fr) (be:=be) (ws:=o) (ks:=ks) (λk v i=>p k (.tail _ v) i);have u:0<=n*ς fr be o ks (d-g):=dF n0 (by have:=m (d-g);lia);have top:n*ς fr be o ks (d-g)+j<o k g*ς fr be o ks (d-g):=by
    have:(n+1)*ς fr be o ks (d-g)<=o k g*ς fr be o ks (d-g):=b9 (by lia) (by have:=m (d-g);lia);rw[dW,gM]at this
    lia
   have t:∀i,0<=o k i*ς fr be o ks (d-i):=λi=>dF (by have:=l i;lia) (by have:=m (d-i);lia);unfold By;by_cases c:fr k=true
   .rw[aj c,uO c];have a:=Ht (f:=λi=>o k i*ς fr be o ks (d-i)) (k:=g) λi _=>t i;have b:Υ (g+1) (λi=>o k i*ς fr be o ks (d-i))<=cnv (o k) (ς fr be o ks) d:=Iy t (by lia);have e:Υ (g+1) (λi=>o k i*ς fr be o ks (d-i))=Υ g (λi=>o k i*ς fr be o ks (d-i))+o k g*ς fr be o ks (d-g):=rfl
    lia
   .rw[ag c];have q:fr k=false:=(by simpa using c);by_cases b:be k=true
    .rw[uS c b];have:=hb q b;subst this;rw[dD]at top u ⊢;show _/\_<o k g*ς fr be o ks 0
     lia
    .rw[uY c b];have:=he q (by simpa using b);subst this;rw[eu]at top u ⊢;show _/\_<o k 0*ς fr be o ks d
     lia
theorem OP{k:Int}{ks:fc}(r:∀x∈k::ks,∀i,1<=o x i){d g:Nat}{f:Int}(t:0<=f)(h:f<ς fr be o (k::ks) d)(q:g<=d)(n:fr k=false->be k=true->g=d)(p:fr k=false->be k=false->g=0)(m:fr k=true->(g=0\/Υ g (λi=>o k i*ς fr be o ks (d-i))<=f)/\(g=d\/f<Υ (g+1) (λi=>o k i*ς fr be o ks (d-i)))):0<=(f-By fr be o k ks d g)/ς fr be o ks (d-g)/\(f-By fr be o k ks d g)/ς fr be o ks (d-g)<o k g/\0<=(f-By fr be o k ks d g)%ς fr be o ks (d-g)/\(f-By fr be o k ks d g)%ς fr be o ks (d-g)<ς fr be o ks (d-g):=by
 have u:=uz (fr:=fr) (be:=be) (ws:=o) (ks:=ks) (λx s i=>r x (.tail _ s) i) (d-g);have j:0<=f-By fr be o k ks d g/\f-By fr be o k ks d g<o k g*ς fr be o ks (d-g):=by
  unfold By;by_cases c:fr k=true
  .rw[aj c];obtain⟨a,b⟩:=m c;rw[uO c]at h;have e:Υ (g+1) (λi=>o k i*ς fr be o ks (d-i))=Υ g (λi=>o k i*ς fr be o ks (d-i))+o k g*ς fr be o ks (d-g):=rfl;refine⟨?_,?_⟩
   .rcases a with a|a
    .rw[a];show 0<=f-0;lia
    .lia
   .rcases b with b|b
    .have:f<Υ (g+1) (λi=>o k i*ς fr be o ks (d-i)):=(by rw[b];rw[b]at q;exact h)
     lia
    .lia
  .rw[ag c];have l:fr k=false:=(by simpa using c);by_cases b:be k=true
   .rw[uS c b]at h;have:=n l b;subst this;rw[dD];exact⟨by lia,by show f-0<_;rw[kb];exact h⟩
   .rw[uY c b]at h;have:=p l (by simpa using b);subst this;rw[eu];exact⟨by lia,by show f-0<_;rw[kb];exact h⟩
 exact⟨ja j.1 (by lia),Int.ediv_lt_of_lt_mul (by lia) j.2,dA _ (by lia),de _ (by lia)⟩
theorem Rk.inj{ks:fc}{d:Nat}{z:gJ}{j:Int}(h:Rk fr be o ks d z j):(∀k∈ks,∀i,1<=o k i)->∀{m:gJ}{q:Int},Rk fr be o ks d m q->j=q->z=m:=by
 induction h with
 | nil d=>intro _ m q t _;cases t;rfl
 | @cons k ks d g n j z hg hb he n0 n1 h ih=>
   intro D m q t e;have r:∀x∈ks,∀i,1<=o x i:=λx B=>D x (.tail _ B);have A:=D k (.head _);cases t with
   | @cons _ _ _ g' m' ahP asQ hg' hb' he' m0 m1 t=>
     have v:=uz (fr:=fr) (be:=be) (ws:=o) (ks:=ks) (λx B i=>r x B i);have C:∀i,0<=o k i*ς fr be o ks (d-i):=λi=>dF (by have:=A i;lia) (by have:=v (d-i);lia);have f:∀{g:Nat}{n j:Int},0<=n->n<o k g->0<=j->j<ς fr be o ks (d-g)->0<=n*ς fr be o ks (d-g)+j/\n*ς fr be o ks (d-g)+j<o k g*ς fr be o ks (d-g):=λ{g n j} n0 n1 a b=>by
      have p:=dF n0 (show 0<=ς fr be o ks (d-g) by have:=v (d-g);lia);have:(n+1)*ς fr be o ks (d-g)<=o k g*ς fr be o ks (d-g):=b9 (by lia) (by have:=v (d-g);lia);rw[dW,gM]at this
      lia
     have y:=h.lt r;have w:=t.lt r;have K:=f n0 n1 y.1 y.2;have J:=f m0 m1 w.1 w.2;have G:g=g':=by
      by_cases c:fr k=true
      .unfold By at e;rw[aj c,aj c]at e;have s:∀g:Nat,Υ (g+1) (λi=>o k i*ς fr be o ks (d-i))=Υ g (λi=>o k i*ς fr be o ks (d-i))+o k g*ς fr be o ks (d-g):=λ_=>rfl;rcases lQ g g' with l|l|l
       .have u:=Iy C (show g+1<=g' by lia);rw[s]at u
        lia
       .exact l
       .have u:=Iy C (show g'+1<=g by lia);rw[s]at u
        lia
      .have cf:fr k=false:=(by simpa using c);by_cases b:be k=true
       .rw[hb cf b,hb' cf b]
       .rw[he cf (by simpa using b),he' cf (by simpa using b)]
     subst G;have H:n*ς fr be o ks (d-g)+j=m'*ς fr be o ks (d-g)+ahP:=(by lia);have I:n=m':=by
      have E:(n*ς fr be o ks (d-g)+j)/ς fr be o ks (d-g)=n:=by
       rw[pA,fC _ _ (by have:=v (d-g);lia),eA y.1 y.2,cM]
      have F:(m'*ς fr be o ks (d-g)+ahP)/ς fr be o ks (d-g)=m':=by
       rw[pA,fC _ _ (by have:=v (d-g);lia),eA w.1 w.2,cM]
      rw[<-E,<-F,H]
     subst I;rw[ih r t (by lia)]
theorem Rk.go{a:fc}{z i b g:Nat}{l d k:Int}{m:gJ}(p:a[i]?=some k)(G:∀x∈a,∀i,1<=o x i)(P:∀f,Rk fr be o (a.drop i) b f d->Rk fr be o a z (m++f) l)(C:0<=d)(s:d<ς fr be o (a.drop i) b)(w:g<=b)(t:fr k=false->be k=true->g=b)(u:fr k=false->be k=false->g=0)(E:fr k=true->(g=0\/Υ g (λj=>o k j*ς fr be o (a.drop (i+1)) (b-j))<=d)/\(g=b\/d<Υ (g+1) (λj=>o k j*ς fr be o (a.drop (i+1)) (b-j)))):0<=(d-By fr be o k (a.drop (i+1)) b g)%ς fr be o (a.drop (i+1)) (b-g)/\(d-By fr be o k (a.drop (i+1)) b g)%ς fr be o (a.drop (i+1)) (b-g)<ς fr be o (a.drop (i+1)) (b-g)/\(0<=(d-By fr be o k (a.drop (i+1)) b g)/ς fr be o (a.drop (i+1)) (b-g)/\(d-By fr be o k (a.drop (i+1)) b g)/ς fr be o (a.drop (i+1)) (b-g)<o k g)/\∀f,Rk fr be o (a.drop (i+1)) (b-g) f ((d-By fr be o k (a.drop (i+1)) b g)%ς fr be o (a.drop (i+1)) (b-g))->Rk fr be o a z ((m++[(k,g,(d-By fr be o k (a.drop (i+1)) b g)/ς fr be o (a.drop (i+1)) (b-g))])++f) l:=by
 have v:=(aD.mp p).1;have B:a[i]=k:=bu ((ay v).symm.trans p);have r:a.drop i=k::a.drop (i+1):=by rw[dy v,B]
 rw[r]at s P;have n:∀x∈k::a.drop (i+1),∀i,1<=o x i:=λx y=>G x (by rw[<-r]at y;exact cL y);obtain⟨q,A,F,D⟩:=OP n C s w t u E;refine⟨F,D,⟨q,A⟩,λf h=>?_⟩;have c:=Rk.cons w t u q A h;have e:By fr be o k (a.drop (i+1)) b g+(d-By fr be o k (a.drop (i+1)) b g)/ς fr be o (a.drop (i+1)) (b-g)*ς fr be o (a.drop (i+1)) (b-g)+(d-By fr be o k (a.drop (i+1)) b g)%ς fr be o (a.drop (i+1)) (b-g)=d:=by
  have:=j8 (d-By fr be o k (a.drop (i+1)) b g) (ς fr be o (a.drop (i+1)) (b-g));rw[ff]at this
  lia
 rw[e]at c;rw[cU];exact P _ c
theorem Md{m r:Int}{b:hD}{a:fm}{e:fv}{c:fv}(G:Good m b)(R:ε m b r a e)(p:∀v,0<=v->v<m->v≠r->1<=c v/\c v<=1000000){v k:Int}{i H C:Nat}{w n:fc}(q:0<=v)(s:v<m)(u:(kd m b r a v)[i]?=some k)(y:ϒ H w (ς fr be (λk g=>wy m b r a e fr be c k (ω (c k) g)) ((kd m b r a v).drop (i+1))))(A:ϒ C n (wy m b r a e fr be c k)){left g:Nat}(K:g<=left+1):(if fr k=true then Ω (ϧ (ϲ m.toNat (ϻ w n (c k) (left:Int)))) g 0 else 0)=By fr be (λk g=>wy m b r a e fr be c k (ω (c k) g)) k ((kd m b r a v).drop (i+1)) left g:=by
 unfold By;by_cases f:fr k=true
 .rw[aj f,aj f];obtain⟨t,I,J⟩:=(bz G R q s).mp (aO u);have h:∀x∈(kd m b r a v).drop (i+1),(0<=x/\x<m)/\x≠r/\a x=v:=λx l=>(bz G R q s).mp (cL l);have F:=(zL (fr:=fr) (be:=be) (W:=wy m b r a e fr be c) (c:=c) (d:=Bv m b r a e) (ks:=(kd m b r a v).drop (i+1)) (λx l=>Dz G R p _ (h x l).1.1 (h x l).1.2 (az _)) λx l=>p x (h x l).1.1 (h x l).1.2 (h x l).2.1).1;have E:=(Dz (fr:=fr) (be:=be) G R p _ t.1 t.2 (az _)).1;have z:=(aD.mp u).1;have B:(kd m b r a v)[i]=k:=bu ((ay z).symm.trans u);have D:=uV (λk=>Bv m b r a e k+1) (kd m b r a v) i;rw[jP G R q s,dy z,B,aq,aH]at D;have dl:=qi G R q s;rw[Ot y.val F A.val E (p k t.1 t.2 I).1 (by lia) g];exact sW λj L=>Yz y.val A.val (by lia)
 .rw[ag f,ag f]
end
section
variable{fr be:Int->Bool}{d:Int->Nat->Int}
theorem Rk.fst{c:fc}{a:Nat}{b:gJ}{e:Int}(h:Rk fr be d c a b e):b.map (·.1)=c:=by
 induction h with
 | nil=>rfl
 | cons _ _ _ _ _ _ ih=>rw[aq,ih]
theorem Rk.agj{k:Int}{c:fc}{a g:Nat}{n b:Int}{f:gJ}(h:Rk fr be d (k::c) a ((k,g,n)::f) b):g<=a/\∃e,Rk fr be d c (a-g) f e/\b=By fr be d k c a g+n*ς fr be d c (a-g)+e:=by
 cases h with
 | cons hg _ _ _ _ h=>exact⟨hg,_,h,rfl⟩
theorem Rk.acw{a:Nat}{c:gJ}{b:Int}(h:Rk fr be d [] a c b):b=0:=by
 cases h
 rfl
theorem Rk.bd{e:fc}{a:Nat}{b:gJ}{c:Int}(h:Rk fr be d e a b c):∀x∈b,(0<=x.2.2/\x.2.2<d x.1 x.2.1)/\x.2.1<=a/\(fr x.1=false->be x.1=false->x.2.1=0):=by
 induction h with
 | nil=>intro x hx;cases hx
 | cons hg hb he n0 n1 h ih=>
   intro x hx;rcases aw.mp hx with rfl|hx
   .exact⟨⟨n0,n1⟩,hg,he⟩
   .have:=ih x hx;exact⟨this.1,by lia,this.2.2⟩
theorem Rk.sum{e:fc}{a:Nat}{c:gJ}{g:Int}(h:Rk fr be d e a c g):(c.map (·.2.1)).sum<=a/\((∃k∈e,fr k=false/\be k=true)->(c.map (·.2.1)).sum=a):=by
 induction h with
 | nil=>exact⟨bB _,λ⟨_,h,_⟩=>(by cases h)⟩
 | cons hg hb he n0 n1 h ih=>
   obtain⟨j,i⟩:=ih;rw[aq,aH];dsimp only;refine⟨by lia,λ⟨k,hk,f,b⟩=>?_⟩;rcases aw.mp hk with rfl|hk
   .have:=hb f b
    lia
   .have:=i ⟨k,hk,f,b⟩
    lia
theorem PQ(f:Nat->Int)(b:Int):∀a:Nat,∃g,g<=a/\(g=0\/Υ g f<=b)/\(g=a\/b<Υ (g+1) f)
 | 0=>⟨0,az _,.inl rfl,.inl rfl⟩
 | n+1=>by
   obtain⟨g,h,e,h3⟩:=PQ f b n;by_cases c:Υ (n+1) f<=b
   .exact⟨n+1,az _,.inr c,.inl rfl⟩
   .rcases h3 with h3|h3
    .subst h3;exact⟨g,by lia,e,.inr (by lia)⟩
    .exact⟨g,by lia,e,.inr h3⟩
theorem Rk.ex:∀{f:fc}{e:Nat}{j:Int},(∀k∈f,∀i,1<=d k i)->0<=j->j<ς fr be d f e->∃l,Rk fr be d f e l j
 | [],e,j,_,h0,h1=>by
   have:j=0:=by have:j<1:=h1;lia
   subst this;exact⟨_,.nil _⟩
 | k::f,e,j,hw,h0,h1=>by
   obtain⟨g,o,m,n,r⟩:∃g,g<=e/\(fr k=false->be k=true->g=e)/\(fr k=false->be k=false->g=0)/\(fr k=true->(g=0\/Υ g (λi=>d k i*ς fr be d f (e-i))<=j)/\(g=e\/j<Υ (g+1) (λi=>d k i*ς fr be d f (e-i)))):=by
    cases ef:fr k with
    | true=>
      obtain⟨g,a,b,c⟩:=PQ (λi=>d k i*ς fr be d f (e-i)) j e;exact⟨g,a,λz=>(by cases z),λz=>(by cases z),λ_=>⟨b,c⟩⟩
    | false=>
      cases eb:be k with
      | true=>exact⟨e,az _,λ_ _=>rfl,λ_ z=>(by cases z),λz=>(by cases z)⟩
      | false=>exact⟨0,bB _,λ_ z=>(by cases z),λ_ _=>rfl,λz=>(by cases z)⟩
   obtain⟨p,u,s,q⟩:=OP hw h0 h1 o m n r;obtain⟨l,h⟩:=Rk.ex (λx t=>hw x (.tail _ t)) s q;have c:=Rk.cons o m n p u h;have:=j8 (j-By fr be d k f e g) (ς fr be d f (e-g));rw[ff]at this;rw[show By fr be d k f e g+(j-By fr be d k f e g)/ς fr be d f (e-g)*ς fr be d f (e-g)+(j-By fr be d k f e g)%ς fr be d f (e-g)=j by lia]at c;exact⟨_,c⟩
def gvn(a:gJ)(x:Int):Nat×Int:=((a.find? λy=>decide (y.1=x)).map (·.2)).getD (0,0)
theorem Lf:∀{cs:gJ},(cs.map (·.1)).Nodup->cs=(cs.map (·.1)).map λx=>(x,(gvn cs x).1,(gvn cs x).2)
 | [],_=>rfl
 | y::cs,h=>by
   rw[aq]at h;obtain⟨c,a⟩:=bg.mp h;have e:gvn (y::cs) y.1=y.2:=by unfold gvn;rw[List.find?_cons_of_pos (by simp)];rfl
   rw[aq,aq,e];refine congrArg (y::·) ((Lf a).trans (bH λx b=>?_));have:gvn (y::cs) x=gvn cs x:=by
    unfold gvn;rw[List.find?_cons_of_neg (by simp;intro z;exact c (z▸b))]
   rw[this]
end
section
variable{m r:Int}{rs:hD}{d:fm}{dep:fv}{fr be:Int->Bool}{c:fv}
structure Nsp(m:Int)(rs:hD)(r:Int)(d:fm)(dep:fv)(fr be:Int->Bool)(c:fv)(cn gv:fv)(nb:fm):Prop where
 up:∀v,0<=v->v<m->v≠r->cn v=ω (c v) (gv v)
 at_:∀v,0<=v->v<m->Rk fr be (λk g=>wy m rs r d dep fr be c k (ω (c k) g)) (kd m rs r d v) (cn v) ((kd m rs r d v).map λk=>(k,gv k,nb k)) (nb v)
theorem Ip(g:Good m rs)(R:ε m rs r d dep){v:Int}(f:0<=v)(e:v<m):∀k∈kd m rs r d v,∀i,1<=(λk g=>wy m rs r d dep fr be c k (ω (c k) g)) k i:=λk b i=>by
 have a:=((bz g R f e).mp b).1;exact wS g R _ a.1 a.2 (az _) _
theorem Nsp.bd{f h:fv}{a:fm}(N:Nsp m rs r d dep fr be c f h a)(g:Good m rs)(R:ε m rs r d dep){v:Int}(b:0<=v)(e:v<m):0<=a v/\a v<wy m rs r d dep fr be c v (f v):=by
 rw[nZ g R b e];exact(N.at_ v b e).lt (Ip g R b e)
theorem Nsp.kid{k a:fv}{e:fm}(N:Nsp m rs r d dep fr be c k a e)(g:Good m rs)(R:ε m rs r d dep){v:Int}(h:0<=v)(i:v<m)(j:v≠r):v∈kd m rs r d (d v)/\a v<=k (d v)/\(fr v=false->be v=false->a v=0):=by
 have p:=(R.up v h i j).1;have f:v∈kd m rs r d (d v):=(bz g R p.1 p.2).mpr ⟨⟨h,i⟩,j,rfl⟩;have b:=(N.at_ _ p.1 p.2).bd (v,a v,e v) (aU.mpr ⟨v,f,rfl⟩);exact⟨f,b.2.1,b.2.2⟩
def dnF(F:Int->Nat->Int->List (Int×Nat×Int))(d:fm)(c:fv)(z:Nat)(a:Int):Nat->Int->Nat×Nat×Int
 | 0,_=>(z,0,a)
 | n+1,v=>let q:=gvn (F (d v) (dnF F d c z a n (d v)).1 (dnF F d c z a n (d v)).2.2) v
   (ω (c v) q.1,q.1,q.2)
theorem Nsp.ex(g:Good m rs)(R:ε m rs r d dep){z:Nat}{f:Int}(J:0<=r)(I:r<m)(G:0<=f)(D:f<wy m rs r d dep fr be c r z):∃(y E:fv)(w:fm),Nsp m rs r d dep fr be c y E w/\y r=z/\w r=f:=by
 let F:Int->Nat->Int->List (Int×Nat×Int):=λv h n=>Classical.epsilon λcs=>Rk fr be (λk g=>wy m rs r d dep fr be c k (ω (c k) g)) (kd m rs r d v) h cs n
 have t:∀v h n,0<=v->v<m->0<=n->n<wy m rs r d dep fr be c v h->Rk fr be (λk g=>wy m rs r d dep fr be c k (ω (c k) g)) (kd m rs r d v) h (F v h n) n:=λv h n o q a b=>by
  rw[nZ g R o q]at b;exact Classical.epsilon_spec (Rk.ex (Ip g R o q) a b)
 have s:∀v h n,0<=v->v<m->0<=n->n<wy m rs r d dep fr be c v h->F v h n=(kd m rs r d v).map λx=>(x,(gvn (F v h n) x).1,(gvn (F v h n) x).2):=λv h n o q a b=>by
  have e:=(t v h n o q a b).fst;have:=Lf (cs:=F v h n) (by rw[e];exact jQ);rw[e]at this;exact this
 have st:∀v,0<=v->v<m->v≠r->dnF F d c z f (dep v) v=(ω (c v) (gvn (F (d v) (dnF F d c z f (dep (d v)) (d v)).1 (dnF F d c z f (dep (d v)) (d v)).2.2) v).1,(gvn (F (d v) (dnF F d c z f (dep (d v)) (d v)).1 (dnF F d c z f (dep (d v)) (d v)).2.2) v).1,(gvn (F (d v) (dnF F d c z f (dep (d v)) (d v)).1 (dnF F d c z f (dep (d v)) (d v)).2.2) v).2):=λv o q l=>by
  rw[R.pos o q l]
  rfl
 have u:dnF F d c z f (dep r) r=(z,0,f):=by rw[R.root];rfl
 have bd:∀(n:Nat)(v:Int),dep v=n->0<=v->v<m->0<=(dnF F d c z f (dep v) v).2.2/\(dnF F d c z f (dep v) v).2.2<wy m rs r d dep fr be c v (dnF F d c z f (dep v) v).1:=λn=>by
  induction n with
  | zero=>
    intro v e i j;by_cases l:v=r
    .rw[l,u];exact⟨G,D⟩
    .have:=R.pos i j l
     lia
  | succ n ih=>
    intro v e i j;have l:v≠r:=λz=>by have:=R.root;rw[z]at e;lia
    have p:=(R.up v i j l).1;obtain⟨a,b⟩:=ih (d v) (by have:=R.pos i j l;lia) p.1 p.2;have k:=s (d v) _ _ p.1 p.2 a b;have:=(t (d v) _ _ p.1 p.2 a b).bd (v,_,_) (by rw[k];exact aU.mpr ⟨v,(bz g R p.1 p.2).mpr ⟨⟨i,j⟩,l,rfl⟩,rfl⟩);rw[st v i j l];exact this.1
 refine⟨λv=>(dnF F d c z f (dep v) v).1,λv=>(dnF F d c z f (dep v) v).2.1,λv=>(dnF F d c z f (dep v) v).2.2,⟨λv i j l=>?_,λv i j=>?_⟩,?_,?_⟩
 .show(dnF F d c z f (dep v) v).1=ω (c v) (dnF F d c z f (dep v) v).2.1;rw[st v i j l]
 .obtain⟨a,b⟩:=bd _ v rfl i j;have h:=t v _ _ i j a b;have e:=s v _ _ i j a b;rw[e]at h;refine(?_:List.map _ _=List.map _ _)▸h;refine bH λk B=>?_;obtain⟨A,H,C⟩:=(bz g R i j).mp B;rw[st k A.1 A.2 H,C]
 .show(dnF F d c z f (dep r) r).1=z;rw[u]
 .show(dnF F d c z f (dep r) r).2.2=f;rw[u]
theorem Ln(f:fv):∀l:List Int,(l.map λk=>(f k:Int)).sum=((l.map f).sum:Nat)
 | []=>rfl
 | a::l=>by rw[aq,aq,aH,aH,Ln f l];rfl
theorem Lj{c i:Nat}(h:1<=c):((ω c i:Nat):Int)=((i:Int)+1)*c-1:=by
 unfold ω;have:1<=(i+1)*c:=cg (show 1<=i+1 by lia) h;rw[kF this,jc]
 rfl
theorem Nsp.spr{a b:fv}{f:fm}(N:Nsp m rs r d dep fr be c a b f)(g:Good m rs)(R:ε m rs r d dep)(e:∀k,0<=k->k<m->k≠r->(c k:Int)=tup rs d k)(i:∀k,0<=k->k<m->k≠r->fr k=true\/be k=true->υ m rs r d dep k*tup rs d k=υ m rs r d dep (d k))(h:∀v,0<=v->v<m->kd m rs r d v≠[]->∃k∈kd m rs r d v,fr k=false/\be k=true):Spr m rs r d dep (a r+1) (λv=>(a v:Int)) λv=>(b v:Int) where
 rt:=by lia
 up v h0 h1 vr:=by
  refine⟨?_,λz=>i v h0 h1 vr ?_⟩
  .rw[N.up v h0 h1 vr,Lj (by have:=e v h0 h1 vr;have:=(iW g R h0 h1 vr).1;lia),e v h0 h1 vr]
  .have q:=(N.kid g R h0 h1 vr).2.2;cases ef:fr v with
   | true=>exact .inl rfl
   | false=>
     cases eb:be v with
     | true=>exact .inr rfl
     | false=>exact absurd (q ef eb) (by lia)
 su v h0 h1 kn:=by
  have s:=(N.at_ v h0 h1).sum.2 (h v h0 h1 kn);rw[iG]at s;rw[Ln,<-s]
  rfl
theorem Nsp.amH{l w:fv}{x:fm}(N:Nsp m rs r d dep fr be c l w x)(g:Good m rs)(R:ε m rs r d dep){a:fc}(O:Order m r d a)(t:∀k,fr k=(decide (υ m rs r d dep k*tup rs d k=υ m rs r d dep (d k))&&decide (As m rs r d dep a (d k)≠some k)))(u:∀k,be k=decide (As m rs r d dep a (d k)=some k))(y:∀k,c k=(tup rs d k).toNat):Spr m rs r d dep (l r+1) (λv=>(l v:Int)) λv=>(w v:Int):=by
 have B:=Qt g R O;refine N.spr g R (λk j n f=>?_) (λk j n f h=>?_) λv i o z=>?_
 .rw[y k];exact bA (by have:=(iW g R j n f).1;lia)
 .have p:=(R.up k j n f).1;rcases h with h|h
  .rw[t k,bK]at h;exact bF h.1
  .rw[u k]at h;exact(B.hv _ _ p.1 p.2 (bF h)).2
 .cases e:As m rs r d dep a v with
  | none=>exact absurd (B.no v i o e) z
  | some b=>
    have q:=(B.hv v b i o e).1;have s:=((bz g R i o).mp q).2.2;refine⟨b,q,?_,?_⟩
    .rw[t b,s,e];simp
    .rw[u b,s,e];simp
theorem D9(g:Good m rs)(R:ε m rs r d dep){b f:fc}(i:∀x∈b,0<=x)(j:∀v,0<=v->v<m->v≠r->f.getD v.toNat 0=0):∀(n:Nat)(v:Int),m.toNat-dep v=n->0<=v->v<m->Ϗ m rs r d dep f b v=Ε m rs r d dep (λv=>b.getD v.toNat 0) (ϛ rs d) v-f.getD v.toNat 0
 | 0,v,e,h0,h1=>by
   have:=gP R h0 h1
   lia
 | n+1,v,e,h0,h1=>by
   have k:∀u∈bQ m rs (front r d v) v,ϝ rs d u (Ϗ m rs r d dep f b u)=ϛ rs d u (Ε m rs r d dep (λv=>b.getD v.toNat 0) (ϛ rs d) u):=λu p=>by
    obtain⟨a,h,l⟩:=(bz g R h0 h1).mp p;have o:=R.pos a.1 a.2 h;rw[l]at o;rw[D9 g R i j n u (by lia) a.1 a.2,j u a.1 a.2 h,kb];unfold ϝ;rw[aj (JB g (λv=>Vd i _) u)]
    rfl
   rw[yP g R h0 h1,eG g R h0 h1,ko k]
   lia
theorem VO{w:Int}(e:0<=r)(b:r<m){t:fc}(O:Order m r d t):lE m rs r d (dP m rs r d dep) w=(t.map (hol m rs r d dep)).sum+υ m rs r d dep r*(w-1):=by
 unfold lE;rw[<-O.sums,show(dP m rs r d dep).getD r.toNat 0=υ m rs r d dep r from gZ e b,pA];refine congrArg (·+_) (ko λu a=>?_);unfold slk hol lT;rw[show(dP m rs r d dep).getD u.toNat 0=υ m rs r d dep u from gZ (O.Ι u a).1 (O.Ι u a).2]
end
end Pb
set_option maxHeartbeats 4000000
namespace Pk
open PySem L2 Pb
seal L2.PSs L2.PS L2.PE L2.PT L2.PW L2.PA L2.PG L2.PGs L2.PI L2.PTs L2.PC L2.PPs L2.PO
abbrev top(i:Nat):Stmt:=Hd.top i
local macro_rules|`(tactic| walk_at "") => `(tactic| ((try dsimp only [afO, QP, N9, FS, Lc, Fx, T2, MP, Ul, NC, Mq, ME, QQ, Tc, O6, FF, SU, NH, adE, D7, xf, Nw, MD, afz, R5, Oe, Ua, ipI, Sj, NM, Cr, tB, DE, tC, yZ, tOp, tUn, rI0, rI, rU, rEq, rNe, ya, MY, Mz, afD, RF, R4, tCB, tBM, SO, Sc, SZ, T3, Eo, Mu, Od, GH, zm, ack, acm, Ra, tOr, RQ, NU, tIf, List.nil_append, List.append_nil, List.set_cons_zero, List.set_cons_succ, List.getElem?_cons_zero, List.getElem?_cons_succ]);(try simp only [afO, QP, N9, FS, Lc, Fx, T2, MP, Ul, NC, Mq, ME, QQ, Tc, O6, FF, SU, NH, adE, D7, xf, Nw, MD, afz, R5, Oe, Ua, ipI, Sj, NM, Cr, tB, DE, tC, yZ, tOp, tUn, rI0, rI, rU, rEq, rNe, Vy, Vh, UM, US, UH, UV, ya, MY, Mz, afD, RF, R4, tCB, tBM, SO, Sc, SZ, T3, Eo, Mu, Od, GH, zm, ack, acm, Ra, tOr, RQ, NU, tIf, List.nil_append, List.append_nil, List.set_cons_zero, List.set_cons_succ, List.getElem?_cons_zero, List.getElem?_cons_succ, Option.some.injEq, V.int.injEq, V.bl.injEq, V.ref.injEq, List.cons.injEq, exists_eq_left, exists_eq_left', exists_and_left, exists_const, and_true, true_and, decide_eq_true_eq, Bool.not_eq_true', decide_eq_false_iff_not, Bool.true_eq_false, Bool.false_eq_true, if_true, if_false])))
local macro_rules|`(tactic| walk_at "v") => `(tactic| (intro _ _ _ _ h;first|(cases h;(have q := ‹_ = _ /\ _›);rw [q.1];rfl)|((repeat (obtain ⟨_, h⟩ := h));subst_vars;rfl)))
local macro_rules|`(tactic| walk_at "s") => `(tactic| simp only [L2.start, List.map_cons, List.map_nil, List.length_cons, List.length_nil, Nat.reduceAdd, Nat.reduceSub, List.replicate_succ, List.replicate_zero, List.cons_append, List.nil_append])
set_option genSizeOf false in
set_option genInjectivity false in
structure Txt(K:f3)(mg:gx) where
 TollError:Addr
 Zs:mg "TollError"=some (.ref TollError)
 BadWeb:Addr
 ZZ:mg "BadWeb"=some (.ref BadWeb)
 NoPlace:Addr
 P3:mg "NoPlace"=some (.ref NoPlace)
 NoRoad:Addr
 Rq:mg "NoRoad"=some (.ref NoRoad)
 BadLaying:Addr
 Kr:mg "BadLaying"=some (.ref BadLaying)
 BadWish:Addr
 FV:mg "BadWish"=some (.ref BadWish)
 TooMany:Addr
 Qb:mg "TooMany"=some (.ref TooMany)
 NoNumber:Addr
 Cy:mg "NoNumber"=some (.ref NoNumber)
 NoWorst:Addr
 OV:mg "NoWorst"=some (.ref NoWorst)
 Web:Addr
 Zu:mg "Web"=some (.ref Web)
 Outlook:Addr
 OU:mg "Outlook"=some (.ref Outlook)
 Tally:Addr
 Eb:mg "Tally"=some (.ref Tally)
 Be:afW K TollError
 HW:ϱ K TollError BadWeb
 FT:ϱ K TollError NoPlace
 y7:p9 K NoPlace
 G1:ϱ K TollError NoRoad
 BA:p9 K NoRoad
 Bm:ϱ K TollError BadLaying
 vU:p9 K BadLaying
 Fc:ϱ K TollError BadWish
 vJ:p9 K BadWish
 Fg:ϱ K TollError TooMany
 zi:p9 K TooMany
 Cw:ϱ K TollError NoNumber
 ut:p9 K NoNumber
 Fm:ϱ K TollError NoWorst
 zt:p9 K NoWorst
 ndx:[TollError,BadWeb,NoPlace,NoRoad,BadLaying,BadWish,TooMany,NoNumber,NoWorst].Nodup
 range:mg "range"=none
 zip:mg "zip"=none
 len:mg "len"=none
 all:mg "all"=none
 int:mg "int"=none
 tuple:mg "tuple"=none
 list:mg "list"=none
 reversed:mg "reversed"=none
 sorted:mg "sorted"=none
 min:mg "min"=none
 max:mg "max"=none
 enumerate:mg "enumerate"=none
 sum:mg "sum"=none
 str:mg "str"=none
 set:mg "set"=none
 aaQ:∃t,mg "MOST_PLACES"=some (.int 24 t)
 abt:∃t,mg "LEAST_TOLL"=some (.int 2 t)
 abQ:∃t,mg "MOST_TOLL"=some (.int 1000000 t)
 aaH:∃t,mg "MOST_PEBBLES"=some (.int 1000000000000 t)
 iw:Cls K Web
 Κ:Λ K Web "many"
 abu:Λ K Web "roads"
 gD:Cls K Outlook
 Θ:Λ K Outlook "web"
 z3:Λ K Outlook "needs"
 Ρ:Λ K Outlook "kids"
 acy:Λ K Outlook "idle"
 di:Cls K Tally
 Δ:Λ K Tally "web"
 wq:Λ K Tally "down"
 abh:Λ K Tally "weights"
 vF:Λ K Tally "bearers"
 χ:Λ K Tally "kids"
 ϴ:Λ K Tally "rests"
section
variable{P:Program}{w:World}{K:f3}{L:gx}{base:Heap}{CX:CXT}
def vA(T:Txt K L):Sp:=λb H Q _=>E3 λ(m:Int)(t:Addr)(a:List V)=>b=[.int m,.ref t]/\Ξ K H t a/\1<=m/\m<=24/\(a.length:Int)=m-1/\Q .ο H
abbrev ng:Stmt:=top 19
theorem CJ:ζ ["many","roads"] ["many","roads"] (aG ng):=.of
theorem nB:ώ (aG ng) "MOST_PLACES":=.of (by kernel_rfl)
theorem Dp(T:Txt K L)(o:bZ (ψ P w)):Ok P w K L base "check_counts" ng ["many","roads"] 1 (vA T):=λ_ _ D=>by
 refine D.F.ϖ CJ (by walk_at "v") λj A a s H f Q E l h=>?_;obtain⟨m,t,b,rfl,e,c,n,i,k⟩:=h;refine⟨_,(aB (dQ (lO (Bz xP xP aQ (γ 0) (xC nB.g T.aaQ (hd:=nB.d)))) (aL sC) cY) (aL (dQ (Ϭ pW (pcb m3 T.len (aa (γ 1) ax)) (bh f8 (γ 0) aQ)) (aL sC) cY))),?_⟩;walk_at "s";walk_at "";rw[aj c,ag (by lia)];exact⟨b,.inr e,by rw[ag (by lia)];exact k⟩
def vT(T:Txt K L):Sp:=λa H Q _=>∃m n:Int,a=[.int m,.int n]/\Q (.bl (decide (0<=n)&&decide (n<m))) H
abbrev rc:Stmt:=top 18
theorem KR:ζ ["many","number"] ["many","number"] (aG rc):=.of
theorem JZ(T:Txt K L)(d:bZ (ψ P w)):Ok P w K L base "is_place" rc ["many","number"] 1 (vT T):=λ_ _ D=>by
 refine D.F.ϖ KR (by walk_at "v") λe A a s H f Q E b h=>?_;obtain⟨m,n,rfl,k⟩:=h;refine⟨_,(aL (bJ (R3 xP vo aQ (γ 1) (γ 0)))),?_⟩;walk_at "s";walk_at "";by_cases c:0<=n
 .simpa[c]using k
 .simpa[c]using k
def yp(T:Txt K L):Sp:=λc H Q _=>E3 λ(m:Int)(p:Addr)(r:Road)=>c=[.int m,.ref p]/\H p=some (.tup (pI r))/\0<=r.a/\r.a<m/\0<=r.b/\r.b<m/\r.a≠r.b/\Q .ο H
abbrev rB:Stmt:=top 20
theorem Gm:ζ ["many","road"] ["many","road"] (aG rB):=.of
theorem Gu(T:Txt K L)(f:bZ (ψ P w))(g:Cb P w K L base "is_place" rc ["many","number"] 1 (vT T)):Ok P w K L base "check_ends" rB ["many","road"] 2 (yp T):=λ_ _ D=>by
 refine D.F.ϖ Gm (by walk_at "v") λq A d s H o Q E e h=>?_;obtain⟨m,p,r,rfl,c,j,i,n,l,ne,k⟩:=h;refine⟨_,(aB (dQ (PW.pt (zT (lO (kR (Μ g e f (aa (γ 0) (aa (Ο lW (γ 1) aQ) ax))))) (wj (lO (kR (Μ g e f (aa (γ 0) (aa (Ο lW (γ 1) aQ) ax)))))))) (aL sC) cY) (aL (dQ (Ϭ kG (Ο lW (γ 1) aQ) (Ο lW (γ 1) aQ)) (aL sC) cY))),?_⟩;walk_at "s";walk_at "";refine ixT c rfl ⟨m,r.a,rfl,_,rfl,?_⟩;rw[ag (by simp[j,i])];refine ixT c rfl ⟨m,r.b,rfl,_,rfl,?_⟩;rw[ag (by simp[n,l])];refine ixT c rfl (ixT c rfl ⟨rfl,?_⟩);rw[ag (by simpa using ne)];exact k
def tW(T:Txt K L):Sp:=λd H Q _=>E4 λ(t:Addr)(c:gf)(b:hD)(n:Int)=>d=[.ref t,.int n]/\Ξ K H t (c.map V.ref)/\π H c b/\b.length<=1000/\∀l a,H l=none->δ H a->a l=some (.lst ((gG b n).map V.int))->Q (.ref l) a
abbrev oU:Stmt:=top 23
theorem Gx:ζ ["roads","place","ends","road"] ["roads","place"] (aG oU):=.of
theorem F8(T:Txt K L)(hq:bZ (ψ P w)):Ok P w K L base "other_ends" oU ["roads","place"] 1 (tW T):=λ_ _ D=>by
 refine D.F.ϖ Gx (by walk_at "v") λX A G s H U Q E Y h=>?_;obtain⟨t,N,c,n,rfl,I,M,W,k⟩:=h;refine⟨_,(aB (Η 2 (gF ax)) (aB (fq PassesOwn.never rfl (yQ (γ 0)) (ϐ 3) (aB (dQ (Ϭ kG (Ο lW (γ 3) aQ) (γ 1)) (aL (eM (nN PySem.F.plainAttrs_list PySem.F.slot_list_append PySem.F.type_list_append ic (γ 2) (aa (Ο lW (γ 3) aQ) ax)))) cY) (aL (dQ (Ϭ kG (Ο lW (γ 3) aQ) (γ 1)) (aL (eM (nN PySem.F.plainAttrs_list PySem.F.slot_list_append PySem.F.type_list_append ic (γ 2) (aa (Ο lW (γ 3) aQ) ax)))) cY)))) (aL (bJ (γ 2))))),?_⟩;walk_at "s";walk_at "";refine⟨by decide,λl m=>?_⟩;have j:N.length=c.length:=Paired.length M;refine⟨⟨_,δ.tup (δ.new _ m) I⟩,Ey (xs:=N.map V.ref) (λi y B=>B=upd H l (.lst ((gG (c.take i) n).map V.int))/\∃v,y=[some (.ref t),some (.int n),some (.ref l),v]) ⟨rfl,_,rfl⟩ (λi y B _ z=>by rw[z.1];exact δ.tup (δ.new _ m) I) ?_ ?_⟩
 .rintro i x y B hi ⟨rfl,v,rfl⟩;obtain⟨p,r,rfl,Z,J,O⟩:=M.get hi;have S:p≠l:=cG O m;have R:i<c.length:=(aD.mp J).1;have q:c.take (i+1)=c.take i++[r]:=by rw[bI,J];rfl
  have hb:(gG (c.take i) n).length<=2000:=aP (Jx _ _) (by rw[bE];lia);have f:∀o,upd H l o p=some (.tup (pI r)):=λo=>by rw[aN S];exact O
  walk_at "";refine ixT (f _) rfl ?_;walk_at "";have d:∀(C:fc),(gG (c.take i) n++C)=gG (c.take (i+1)) n->upd H l (.lst ((gG (c.take i) n).map V.int++C.map V.int))=upd H l (.lst ((gG (c.take (i+1)) n).map V.int)):=λC e=>by
   rw[<-aI,e]
  have u:vH n r=(if r.a=n then[r.b]else[])++(if r.b=n then[r.a]else[]):=rfl;by_cases g:r.a=n
  .rw[aj g];refine⟨tyL aE,ixT (f _) rfl (tX aE (fV (by rw[ah];lia)) ?_)⟩;rw[uC];refine ixT (f _) rfl ?_;walk_at "";by_cases cb:r.b=n
   .rw[aj cb];refine⟨tyL aE,ixT (f _) rfl (tX aE (fV (by rw[aX,ah];simp;lia)) ?_)⟩;rw[uC,cU];exact⟨d [r.b,r.a] (by rw[q,vq,u,aj g,aj cb];rfl),_,rfl⟩
   .rw[ag cb];exact⟨d [r.b] (by rw[q,vq,u,aj g,ag cb];rfl),_,rfl⟩
  .rw[ag g];refine ixT (f _) rfl ?_;walk_at "";by_cases cb:r.b=n
   .rw[aj cb];refine⟨tyL aE,ixT (f _) rfl (tX aE (fV (by rw[ah];lia)) ?_)⟩;rw[uC];exact⟨d [r.a] (by rw[q,vq,u,ag g,aj cb];rfl),_,rfl⟩
   .rw[ag cb];have:=d [] (by rw[q,vq,u,ag g,ag cb];rfl);rw[eP,b7]at this;exact⟨this,_,rfl⟩
 .rintro y B ⟨rfl,v,rfl⟩;rw[ah,j,bL];exact⟨_,rfl,k l _ m (δ.new _ m) aE⟩
def pJ(a:fc):List (Key×V):=a.map λk=>((Sum.inl k:Key),V.bl true)
theorem Fw(a:fc):(pJ a).length=a.length:=by unfold pJ;rw[ah]
theorem Hk(a:fc)(e:Int):gN (pJ a) (Sum.inl e:Key)=if e∈a then some (V.bl true)else none:=by
 unfold pJ
 induction a with
 | nil=>rfl
 | cons k a ih=>
   rw[aq];by_cases c:k=e
   .rw[jJ (by rw[c]),aj (by rw[c];exact aA)]
   .rw[jK (λz=>c (Sum.inl.inj z)),ih];by_cases d:e∈a
    .rw[aj d,aj (ap _ d)]
    .rw[ag d,ag (λz=>by rcases aw.mp z with z|z;exact c z.symm;exact d z)]
theorem Q0{a:fc}{e:Int}(h:e∉a):jp (pJ a) (Sum.inl e:Key) (V.bl true)=pJ (a++[e]):=by
 rw[IX _ (by rw[Hk,ag h])];unfold pJ;rw[aI]
 rfl
def vB(T:Txt K L):Sp:=λd H Q _=>E4 λ(m:Int)(t:Addr)(b:gf)(c:hD)=>d=[.int m,.ref t]/\Ξ K H t (b.map V.ref)/\π H b c/\Good m c/\∀a,δ H a->Q .ο a
abbrev pQ:Stmt:=top 22
theorem DJ:ζ ["many","roads","reached","waiting","place","end"] ["many","roads"] (aG pQ):=.of
theorem DF(T:Txt K L)(hq:bZ (ψ P w))(m6:Cb P w K L base "other_ends" oU ["roads","place"] 1 (tW T)):Ok P w K L base "check_joined" pQ ["many","roads"] 2 (vB T):=λ_ _ D=>by
 refine D.F.ϖ DJ (by walk_at "v") λρ A ab s H vs Q E hr h=>?_;obtain⟨m,t,ps,u,rfl,ht,hp,g,k⟩:=h;have hu:=sJ hr;refine⟨_,(aB (Η 2 (L1 (Jj aQ sU Lq) rfl rfl (List.cons_ne_nil _ _) (by decide))) (aB (Η 3 (gF (aa aQ ax))) (aB (rX PassesOwn.never (u9 (γ 3) (λ_=>rfl)) (aB (Η 4 (Jp PySem.F.plainAttrs_list PySem.F.slot_list_pop PySem.F.type_list_pop IV (γ 3))) (aL (fq PassesOwn.never rfl (iB (Μ m6 hr hq (aa (γ 1) (aa (γ 4) ax)))) (ϐ 5) (aL (dQ (De (QB hu (γ 5) (γ 2))) (aB (zX hu (γ 2) (γ 5) sU rfl) (aL (eM (nN PySem.F.plainAttrs_list PySem.F.slot_list_append PySem.F.type_list_append ic (γ 3) (aa (γ 5) ax))))) cY)))))) (aL (dQ (Ϭ pW (pcb Qe T.len (aa (γ 2) ax)) (γ 0)) (aL sC) cY))))),?_⟩;walk_at "s";have m1:=g.m1;have Ζ:=g.Ζ;have bm:=g.len;walk_at "";intro d hd;refine⟨aE,[(Sum.inl 0,.bl true)],rfl,by decide,?_⟩;rw[uC];refine⟨by decide,λr W=>?_⟩;have ed:kW [] [((Sum.inl 0:Key),V.bl true)]=pJ [0]:=rfl;rw[ed];have v:r≠d:=λz=>by rw[z,aE]at W;cases W
 have S:H r=none:=by rw[aN v]at W;exact W
 refine wW (λn I X=>E4 λ(C O:fc)(v4 G:Option V)=>n=2*(m.toNat-C.length)+O.length/\I=[some (.int m),some (.ref t),some (.ref d),some (.ref r),v4,G]/\δ H X/\X d=some (.dK (pJ C))/\X r=some (.lst (O.map V.int))/\abM m u C O) _ ⟨[0],[0],none,none,rfl,rfl,?_,?_,aE,abM.start m1⟩ ?_
 .exact δ.trans (δ.new _ hd) (δ.new _ W)
 .rw[aN v.symm,aE]
 rintro n I X NW hN U ⟨C,O,v4,G,rfl,rfl,sm,h1,Y,J⟩;have kl:=g9 (by lia) J.nd J.Ι;refine⟨_,rfl,!(O.map V.int).isEmpty,.inl ⟨_,ν.of Y,rfl⟩,?_⟩;rcases j6 O with rfl|⟨j,p,rfl⟩
 .-- nothing ahR: all places have a3 reached
  have am:=J.all m1 g.jn;refine YN ?_;walk_at "";refine⟨pJ C,h1,?_⟩;rw[Fw,ag (by lia)];exact k _ sm
 .rw[j4]at J Y hN U ⊢;have e1:(!(List.map V.int (j++[p])).isEmpty)=true:=by simp
  rw[e1];refine VU ⟨NW,U,?_⟩;walk_at "";rw[aI,aq,eP]at Y;refine⟨tyL Y,Ub Y ?_⟩;have N:d≠r:=v.symm;have y:δ H (upd X r (.lst (j.map V.int))):=λb o e=>by rw[aN (cG e S)];exact sm b o e
  refine⟨t,ps,u,p,rfl,δ.tup y ht,π.same y hp,by lia,λl H3 hn s3 hl=>?_⟩;have ad:r≠l:=cG (o:=.lst (j.map V.int)) aE hn;have Z:d≠l:=cG (o:=.dK (pJ C)) (by rw[aN N];exact h1) hn;have a2:H l=none:=y.free hn;refine⟨l,rfl,⟨_,ν.of hl⟩,vw (K:=K) (xs:=(gG u p).map V.int) (λi I B=>∃(G:Option V),I=[some (.int m),some (.ref t),some (.ref d),some (.ref r),some (.int p),G]/\δ H B/\B l=some (.lst ((gG u p).map V.int))/\∃a f:List Int,B d=some (.dK (pJ a))/\B r=some (.lst (f.map V.int))/\abn m u p ((gG u p).take i) a f C j.length) ?_ (λi I B _ z=>by obtain⟨_,_,_,z,_⟩:=z;exact ν.of z) ?_ ?_⟩
  .refine⟨_,rfl,y.trans s3,hl,C,j,?_,?_,?_⟩
   .exact s3 _ _ (by rw[aN N];exact h1)
   .exact s3 _ _ aE
   .rw[dY];exact abn.start J
  .rintro i x I B NI hI hi ⟨G,rfl,s4,hl4,a,f,hd4,hw4,M⟩;rw[aJ]at hi;obtain⟨e,he,rfl⟩:∃e,(gG u p)[i]?=some e/\V.int e=x:=by
    cases q:(gG u p)[i]? with
    | none=>rw[q]at hi;cases hi
    | some e=>rw[q]at hi;exact⟨e,rfl,bu hi⟩
   have er:=So g.ok (aO he);have et:(gG u p).take (i+1)=(gG u p).take i++[e]:=(by rw[bI,he];rfl);have st:=M.step er.1 er.2;have k4:=g9 (by lia) M.nd M.Ι;have ae:=M.mu;walk_at "";refine⟨_,ϵ.k (k:=Sum.inl e) hd4,?_⟩;rw[Hk];by_cases c:e∈a
   .rw[aj c];rw[ag (by simp)];refine hI _ _ ⟨_,rfl,s4,hl4,a,f,hd4,hw4,?_⟩;rw[et];unfold Co at st;rw[aj c]at st;exact st
   .rw[ag c];rw[aj (by simp)];refine⟨_,aaM.k (k:=Sum.inl e) hd4 (fV (by rw[Fw];lia)),?_⟩;rw[Q0 c];have R:upd B d (.dK (pJ (a++[e]))) r=some (.lst (f.map V.int)):=(by rw[aN v];exact hw4);refine⟨tyL R,tX R (fV (by rw[ah];have:=M.wl;lia)) ?_⟩;have a5:=M.mu;refine hI _ _ ⟨_,rfl,λb o z=>?_,?_,a++[e],f++[e],?_,?_,?_⟩
    .rw[aN (cG z S),aN (cG z hd)];exact s4 b o z
    .rw[aN ad.symm,aN Z.symm];exact hl4
    .rw[aN N,aE]
    .rw[aE,aI];rfl
    .rw[et];unfold Co at st;rw[ag c]at st;exact st
  .rintro I B ⟨G,rfl,s4,hl4,a,f,hd4,hw4,M⟩;rw[ah,bL]at M;have k4:=g9 (by lia) M.nd M.Ι;have ae:=M.mu;have a7:=M.up;refine hN _ _ _ ?_ ⟨a,f,some (.int p),G,rfl,rfl,s4,hd4,hw4,M.done⟩;rw[aX];simp only[aR,ft]
   lia
def wM(T:Txt K L):Sp:=λb H Q _=>∃(p:Addr)(r:Road),b=[.ref p]/\H p=some (.tup (pI r))/\2<=r.t/\r.t<=1000000/\2<=r.u/\r.u<=1000000/\∀a,δ H a->Q .ο a
abbrev my:Stmt:=top 21
theorem EF:ζ ["road","number"] ["road"] (aG my):=.of
theorem oN:ώ (aG my) "LEAST_TOLL":=.of (by kernel_rfl)
theorem pp:ώ (aG my) "MOST_TOLL":=.of (by kernel_rfl)
theorem Eh(T:Txt K L)(N:bZ (ψ P w)):Ok P w K L base "check_tolls" my ["road"] 1 (wM T):=λ_ _ D=>by
 refine D.F.ϖ EF (by walk_at "v") λI A c s H G Q E M h=>?_;obtain⟨p,r,rfl,f,l,m,B,j,k⟩:=h;refine⟨_,(aL (fq PassesOwn.never rfl (yQ (m7 (aa (Ο lW (γ 0) aQ) (aa (Ο lW (γ 0) aQ) ax)))) (ϐ 1) (aL (dQ (lO (Bz xP xP (xC oN.g T.abt (hd:=oN.d)) (γ 1) (xC pp.g T.abQ (hd:=pp.d)))) (aL sC) cY)))),?_⟩;walk_at "s";walk_at "";refine ixT f rfl (ixT f rfl ⟨dz (by simp),λq o=>?_⟩);have e:upd H q (.tup [.int r.t,.int r.u]) q=some (.tup [.int r.t,.int r.u]):=aE;refine⟨⟨_,Ξ.of e⟩,Ey (K:=K) (xs:=[.int r.t,.int r.u]) (λi a b=>b=upd H q (.tup [.int r.t,.int r.u])/\∃v,a=[some (.ref p),v]) ⟨rfl,_,rfl⟩ (λi a b _ z=>by rw[z.1];exact Ξ.of e) ?_ ?_⟩
 .rintro i x a b hi ⟨rfl,v,rfl⟩;have y:∃n:Int,x=.int n/\2<=n/\n<=1000000:=by
   match i,hi with
   | 0,hi=>exact⟨r.t,by simpa using hi.symm,l,m⟩
   | 1,hi=>exact⟨r.u,by simpa using hi.symm,B,j⟩
  obtain⟨n,rfl,C,J⟩:=y;walk_at "";rw[aj C,ag (by lia)];exact⟨_,rfl⟩
 .rintro a b ⟨rfl,v,rfl⟩;exact k _ (δ.new _ o)
def CM(m:Int)(t:Addr):List (Str×V):=bj "roads" (.ref t) (bj "many" (.int m) [])
theorem ZB:¬(("many":Str)="roads"):=by decide +kernel
theorem fU(m:Int)(t:Addr):(CM m t).lookup ("many":Str)=some (.int m):=by
 unfold CM;rw[b5,ag ZB,b5,aj rfl]
theorem Bg(m:Int)(t:Addr):(CM m t).lookup ("roads":Str)=some (.ref t):=by
 unfold CM;rw[b5,aj rfl]
structure μ(C:Addr)(H:Hp)(p:Addr)(m:Int)(t:Addr)(ps:gf)(rs:hD):Prop where
 ob:∃dx,H p=some (.ins C dx (CM m t))
 tu:H t=some (.tup (ps.map V.ref))
 ro:π H ps rs
 go:Good m rs
theorem μ.same{C:Addr}{H a:Hp}{p:Addr}{m:Int}{t:Addr}{b:gf}{c:hD}(e:δ H a)(h:μ C H p m t b c):μ C a p m t b c:=⟨let ⟨dx,q⟩:=h.ob;⟨dx,e _ _ q⟩,e _ _ h.tu,π.same e h.ro,h.go⟩
def rz(T:Txt K L):Sp:=λh H Q _=>E7 λ(p g:Addr)(m:Int)(c:Bool)(a:Addr)(e:gf)(f:hD)=>h=[.ref p,.int m,.ref a]/\H p=some (.ins T.Web g [])/\ϑ K c H a (e.map V.ref)/\π H e f/\Good m f/\∀t d,H t=none->μ T.Web d p m t e f->(∀b o,H b=some o->b≠p->d b=some o)->Q .ο d
abbrev jL:Stmt:=EM (top 14) 0
theorem Dc:ζ ["self","many","roads","kept","road"] ["self","many","roads"] (aG jL):=.of
theorem Dk(T:Txt K L)(C:bZ (ψ P w)){f:Addr}{fd:FuncData}(F:Fun K "__init__" "Web.__init__" jL f fd)(rY:Cb P w K L base "check_counts" ng ["many","roads"] 1 (vA T))(u7:Cb P w K L base "check_ends" rB ["many","road"] 2 (yp T))(rZ:Cb P w K L base "check_joined" pQ ["many","roads"] 2 (vB T))(tQ:Cb P w K L base "check_tolls" my ["road"] 1 (wM T)):Ψ P w K L base (ψ P w) 3 f fd ["self","many","roads"] (rz T):=by
 refine F.ϖ Dc (by walk_at "v") λρ A ab s H vs Q E O h=>?_;obtain⟨p,W,m,c,a,d,rs,rfl,Z,ha,j,g,k⟩:=h;refine⟨_,(aB (Η 3 (pct kO T.tuple (aa (kE rfl (xZ (Nc:=["road"]) 1 (by decide +kernel) (by decide +kernel) rfl (by decide +kernel) rfl) (Qc c (γ 2)) (λ_ _ _ _=>(f9 (i:=0) (show(["road"]:gy).Nodup from by decide +kernel) rfl (Or.inl rfl))) (λ_ _ _ _=>kj) (λ_ _ _ _=>(Fq (EY K rfl) (by rfl) T.tuple Ts (aa (pv 0) ax)))) ax))) (aB (eM (Μ rY O C (aa (γ 1) (aa (γ 3) ax)))) (aB (fq PassesOwn.never rfl (yQ (γ 3)) (ϐ 4) (aB (eM (Μ u7 O C (aa (γ 1) (aa (γ 4) ax)))) (aL (eM (Μ tQ O C (aa (γ 4) ax)))))) (aB (eM (Μ rZ O C (aa (γ 1) (aa (γ 3) ax)))) (aB (nQ (γ 0) (γ 1) rfl) (aL (nQ (γ 0) (γ 3) rfl))))))),?_⟩;walk_at "s";walk_at "";refine⟨⟨_,ha⟩,λl I=>?_⟩;have ak:d.length=rs.length:=Paired.length j;have a4:=g.len;have Ζ:=g.Ζ;have av:δ H (upd H l (.lst [])):=δ.new _ I;refine vc (K:=K) (xs:=d.map V.ref) (λi M u S=>S=upd H l (.lst ((d.take i).map V.ref))/\M=(d.take i).map V.ref/\∃v,u=[v]) ⟨rfl,rfl,_,rfl⟩ (λi M u S _ ⟨z,_⟩=>by rw[z];exact δ.gE (δ.new _ I) ha) ?_ ?_
 .rintro i x M u S N hN hi ⟨rfl,rfl,v,rfl⟩;obtain⟨q,r,rfl,X,h2,G⟩:=j.get hi;have nq:q≠l:=cG G I;have a2:i<d.length:=(aD.mp X).1;have et:d.take (i+1)=d.take i++[q]:=by rw[bI,X];rfl
  walk_at "";refine⟨pI r,.inr ⟨Ξ.of (by rw[aN nq];exact G),aE,fV (by rw[ah,bE];lia),hN _ _ _ ⟨?_,?_,_,rfl⟩⟩⟩
  .rw[uC,et,aI];rfl
  .rw[et,aI];rfl
 .rintro M u S ⟨rfl,rfl,v,rfl⟩;rw[ah,bL];refine⟨l,rfl,d.map V.ref,.inl ⟨ν.of aE,λt ht=>?_⟩⟩;have U:δ H (upd H l (.lst (d.map V.ref))):=δ.new _ I;have s2:δ (upd H l (.lst (d.map V.ref))) (upd (upd H l (.lst (d.map V.ref))) t (.tup (d.map V.ref))):=δ.new _ ht;have B:H t=none:=U.free ht;have D:∀{H':Hp},δ (upd (upd H l (.lst (d.map V.ref))) t (.tup (d.map V.ref))) H'->H' t=some (.tup (d.map V.ref)):=λe=>e _ _ aE;refine⟨m,t,d.map V.ref,rfl,Ξ.of aE,g.m1,g.Ζ,by rw[ah];lia,⟨_,Ξ.of aE⟩,?_⟩;refine IA (K:=K) (xs:=d.map V.ref) (λi u J=>δ (upd (upd H l (.lst (d.map V.ref))) t (.tup (d.map V.ref))) J/\∃v,u=[some (.ref p),some (.int m),some (.ref a),some (.ref t),v]) ⟨δ.refl _,_,rfl⟩ (λi u J _ ⟨z,_⟩=>Ξ.of (D z)) ?_ ?_
  .rintro i x u J N hN hi ⟨s3,v,rfl⟩;have n:=U.trans (s2.trans s3);obtain⟨q,r,rfl,X,h2,G⟩:=j.get hi;have ok:=g.ok r (aO h2);walk_at "";refine⟨m,q,r,rfl,n _ _ G,ok.a0,ok.a1,ok.b0,ok.b1,ok.ne,?_⟩;exact⟨q,r,rfl,n _ _ G,ok.t0,ok.t1,ok.u0,ok.u1,λH4 R=>hN _ _ ⟨s3.trans R,_,rfl⟩⟩
  .rintro u J ⟨s3,v,rfl⟩;have n:=U.trans (s2.trans s3);walk_at "";refine⟨m,t,d,rs,rfl,Ξ.of (D s3),π.same n j,g,λH4 R=>?_⟩;have y:=n.trans R;have Y:t≠p:=λz=>by rw[z,Z]at B;cases B
   refine⟨T.Web,W,[],y _ _ Z,T.iw,T.Κ,by decide,?_⟩;refine⟨T.Web,W,_,aE,T.iw,T.abu,by show 1<1000;decide,?_⟩;rw[uC];refine k t _ B ⟨⟨W,aE⟩,?_,?_,g⟩ λb o hb nb=>?_
   .rw[aN Y];exact D (s3.trans R)
   .refine Paired.imp' (λq r C=>?_) j;rw[aN (fM C Z (by intro z;cases z))];exact y _ _ C
   .rw[aN nb];exact y _ _ hb
theorem Ys(T:Txt K L){H:Hp}{m:Int}{c:Bool}{a:Addr}{j:gf}{i:hD}{Q:Addr->Hp->Prop}(q:ϑ K c H a (j.map V.ref))(s:π H j i)(g:Good m i)(k:∀x t f,H x=none->H t=none->δ H f->μ T.Web f x m t j i->Q x f):∀x d,H x=none->H d=none->d≠x->rz T [.ref x,.int m,.ref a] (upd (upd H d (.own x)) x (.ins T.Web d [])) (λv y=>v=.ο/\Q x y) E0:=by
 intro x d n p ne;have l:upd H d (.own x) x=none:=by rw[aN ne.symm];exact n
 have h:δ H (upd (upd H d (.own x)) x (.ins T.Web d [])):=(δ.new _ p).trans (δ.new _ l);exact⟨x,d,m,c,a,j,i,rfl,aE,δ.gE h q,π.same h s,g,λt f r W u=>⟨rfl,k x t f n (h.free r) (λb o e=>u b o (h b o e) (cG e n)) W⟩⟩
def VS(H:Hp)(d:Addr)(e:hD)(n:Nat):Prop:=∃c,H d=some (.dT c)/\(c.length<=2*n/\∀p∈c,∃a b:Int,p.1=[.inl a,.inl b])/\∀a b:Int,(∀i x,i<n->e[i]?=some x->rA x a b->gN c [.inl a,.inl b]=(jk a b x).map V.int)/\((∀i x,i<n->e[i]?=some x->¬rA x a b)->gN c [.inl a,.inl b]=none)
structure ϥ(H:Hp)(d:Addr)(rs:hD):Prop where
 ex:∃η,H d=some (.dT η)/\∀a b:Int,gN η [.inl a,.inl b]=(ce rs a b).map V.int
 ks:∃η,H d=some (.dT η)/\η.length<=2*rs.length/\∀p∈η,∃a b:Int,p.1=[.inl a,.inl b]
theorem ϥ.same{H b:Hp}{d:Addr}{c:hD}(e:δ H b)(h:ϥ H d c):ϥ b d c:=by
 obtain⟨k,i,g⟩:=h.ex;obtain⟨a,f,j⟩:=h.ks;exact⟨⟨k,e _ _ i,g⟩,⟨a,e _ _ f,j⟩⟩
def zf(T:Txt K L):Sp:=λe H Q _=>E4 λ(l:Addr)(c:gf)(m:Int)(b:hD)=>e=[.ref l]/\H l=some (.lst (c.map V.ref))/\π H c b/\Good m b/\∀d a,H d=none->δ H a->ϥ a d b->Q (.ref d) a
abbrev sK:Stmt:=top 95
theorem Ja:ζ ["roads","tolls","one","other","there","back"] ["roads"] (aG sK):=.of
theorem HL(T:Txt K L)(hq:bZ (ψ P w)):Ok P w K L base "_law_tolls" sK ["roads"] 1 (zf T):=λ_ _ D=>by
 refine D.F.ϖ Ja (by walk_at "v") λρ A Y s H vs Q E hr h=>?_;obtain⟨l,ps,m,I,rfl,hl,ro,g,k⟩:=h;have hu:=sJ hr;refine⟨_,(aB (Η 1 S4) (aB (fq PassesOwn.never rfl (iB (γ 0)) (j1 (n:=4) rfl (cH (ϐ 2) (cH (ϐ 3) (cH (ϐ 4) (cH (ϐ 5) gX))))) (aB (zX hu (γ 1) (m7 (aa (γ 2) (aa (γ 3) ax))) (γ 4) rfl) (aL (zX hu (γ 1) (m7 (aa (γ 3) (aa (γ 2) ax))) (γ 5) rfl)))) (aL (bJ (γ 1))))),?_⟩;walk_at "s";walk_at "";intro d S;have s0:=δ.new (.dT []) S;have f:ps.length=I.length:=Paired.length ro;have a2:=g.len;have Ζ:=g.Ζ;refine⟨⟨_,ν.of (s0 _ _ hl)⟩,?_⟩;refine vw (K:=K) (xs:=ps.map V.ref) (λi J y=>δ H y/\VS y d I i/\∃v1 B O M,J=[some (V.ref l),some (V.ref d),v1,B,O,M]) ⟨s0,⟨[],aE,⟨by simp,λp X=>nomatch X⟩,λa b=>⟨λi x c=>absurd c (mL _),λ_=>rfl⟩⟩,_,_,_,_,rfl⟩ (λi J y _ z=>ν.of (z.1 _ _ hl)) ?_ ?_
 .rintro i x J y N hN G ⟨s2,⟨η,hk,⟨hkl,hks⟩,hkv⟩,v1,B,O,M,rfl⟩;obtain⟨q,r,rfl,h1,C,h3⟩:=ro.get G;have a1:i<I.length:=(aD.mp C).1;have ok:=g.ok r (aO C);walk_at "";refine⟨_,Ξ.of (s2 _ _ h3),rfl,_,_,rfl,_,_,rfl,_,_,rfl,_,_,rfl,rfl,?_⟩;refine⟨dz (by simp),λp1 n1=>⟨_,aaM.t (k:=[.inl r.a,.inl r.b]) (δ.new (.tup [V.int r.a,V.int r.b]) n1 _ _ hk) aE (fV (by lia)),dz (by simp),λp2 R=>?_⟩⟩;have l1:=qh η [Sum.inl r.a,Sum.inl r.b] (V.int r.t);have ac:d≠p2:=λz=>by rw[<-z,aE]at R;cases R
  refine⟨_,aaM.t (k:=[.inl r.b,.inl r.a]) (by rw[aN ac];exact aE) aE (fV (by lia)),hN _ _ ⟨?_,⟨_,aE,?_,?_⟩,_,_,_,_,rfl⟩⟩
  .intro b o hb;have nd:b≠d:=cG hb S;have b2:=s2 _ _ hb;have Z:b≠p1:=cG b2 n1;have b3:upd (upd y p1 (.tup [V.int r.a,V.int r.b])) d (.dT (jp η [Sum.inl r.a,Sum.inl r.b] (V.int r.t))) b=some o:=(by rw[aN nd,aN Z];exact b2);rw[aN nd,aN (cG b3 R)];exact b3
  .have l2:=qh (jp η [Sum.inl r.a,Sum.inl r.b] (V.int r.t)) [Sum.inl r.b,Sum.inl r.a] (V.int r.u);refine⟨by lia,λp X=>?_⟩;rcases GQ X with e|⟨q,hq,e⟩
   .exact⟨_,_,e⟩
   rcases GQ hq with W|⟨q',U,W⟩
   .exact⟨_,_,e.trans W⟩
   .obtain⟨a',b',e2⟩:=hks q' U;exact⟨a',b',e.trans (W.trans e2)⟩
  .intro a' b';have B:gN (jp (jp η [Sum.inl r.a,Sum.inl r.b] (V.int r.t)) [Sum.inl r.b,Sum.inl r.a] (V.int r.u)) [Sum.inl a',Sum.inl b']=if a'=r.b/\b'=r.a then some (V.int r.u)else if a'=r.a/\b'=r.b then some (V.int r.t)else gN η [Sum.inl a',Sum.inl b']:=by
    rw[BP,BP];simp
   rw[B];have v:¬rA r a' b'->(if a'=r.b/\b'=r.a then some (V.int r.u)else if a'=r.a/\b'=r.b then some (V.int r.t)else gN η [Sum.inl a',Sum.inl b'])=gN η [Sum.inl a',Sum.inl b']:=λz=>by
    rw[ag (λw=>z (.inr ⟨w.1.symm,w.2.symm⟩)),ag (λw=>z (.inl ⟨w.1.symm,w.2.symm⟩))]
   constructor
   .intro j x hj hy jx;by_cases e:j=i
    .subst e;rw[C]at hy;cases hy;rcases jx with⟨w1,w2⟩|⟨w1,w2⟩
     .subst w1 w2;rw[ag (λz=>ok.ne z.1),aj ⟨rfl,rfl⟩,TU ok.ne]
      rfl
     .subst w1 w2;rw[aj ⟨rfl,rfl⟩,QY ok.ne]
      rfl
    .rw[v λw=>e (FK g hy C jx w)];exact(hkv a' b').1 j x (by lia) hy jx
   .intro z;rw[v (z i r (by lia) C)];exact(hkv a' b').2 λj x hj G=>z j x (by lia) G
 .rintro J y ⟨s2,⟨η,hk,⟨hkl,hks⟩,hkv⟩,v1,B,O,M,rfl⟩;rw[ah,f]at hkv;walk_at "";refine k d y S s2 ⟨⟨η,hk,λa b=>?_⟩,⟨η,hk,by rw[ah,f]at hkl;exact hkl,hks⟩⟩;by_cases z:∃(i:Nat)(x:Road),I[i]?=some x/\rA x a b
  .obtain⟨i,x,c,j⟩:=z;rw[(hkv a b).1 i x (aD.mp c).1 c j,tJ g c j]
  .rw[(hkv a b).2 λi x _ c j=>z ⟨i,x,c,j⟩,Qp]
   .rfl
   .rintro⟨x,G,j⟩;obtain⟨i,c⟩:=cJ G;exact z ⟨i,x,c,j⟩
def m9(T:Txt K L):Sp:=λc H Q E=>E6 λ(p t:Addr)(m:Int)(a:gf)(b:hD)(n:Int)=>c=[.ref p,.int n]/\μ T.Web H p m t a b/\(0<=n->n<m->Q .ο H)/\(¬(0<=n/\n<m)->E (.ref T.NoPlace) none H)
abbrev jw:Stmt:=top 17
theorem Ev:ζ ["web","number"] ["web","number"] (aG jw):=.of
theorem qg:ώ (aG jw) "NoPlace":=.of (by kernel_rfl)
theorem D3(T:Txt K L)(r:bZ (ψ P w))(i:Cb P w K L base "is_place" rc ["many","number"] 1 (vT T)):Ok P w K L base "check_place" jw ["web","number"] 2 (m9 T):=λ_ _ D=>by
 refine D.F.gT Ev (by walk_at "v") λo A a s H l Q E f h=>?_;obtain⟨p,t,m,q,j,n,rfl,W,k,e⟩:=h;obtain⟨b,ob⟩:=W.ob;refine⟨_,(aL (dQ (lO (kR (Χ i f cR (aa (cD (γ 0) rfl) (aa (γ 1) ax))))) (aL (nM T.y7 rfl pK qg.g T.P3 (aa rh ax) (hdb:=qg.d))) cY)),?_⟩;walk_at "s";walk_at "";refine⟨T.Web,b,_,ob,T.iw,T.Κ,_,fU m t,m,n,rfl,_,rfl,?_⟩;by_cases c:0<=n/\n<m
 .rw[ag (by simp[c.1,c.2])];exact k c.1 c.2
 .rw[aj (by simpa[bK]using c)];exact⟨by decide,e c⟩
def yi(T:Txt K L):Sp:=λe H Q E=>E6 λ(p t:Addr)(m:Int)(d:gf)(c:hD)(a:Int)=>e=[.ref p,.int a]/\μ T.Web H p m t d c/\(∀l b,0<=a->a<m->H l=none->δ H b->b l=some (.lst ((kM m c a).map V.int))->Q (.ref l) b)/\(¬(0<=a/\a<m)->E (.ref T.NoPlace) none H)
abbrev q8:Stmt:=top 16
theorem F9:ζ ["web","a"] ["web","a"] (aG q8):=.of
abbrev hY(P w base)(T:Txt K L):=Cb P w K L base "check_place" jw ["web","number"] 2 (m9 T)
theorem Ga(T:Txt K L)(J:bZ (ψ P w))(u:hY P w base T)(z:Cb P w K L base "other_ends" oU ["roads","place"] 1 (tW T)):Ok P w K L base "neighbours" q8 ["web","a"] 3 (yi T):=λ_ _ D=>by
 refine D.F.gT F9 (by walk_at "v") λC A c s H B Q E l h=>?_;obtain⟨p,t,m,n,b,a,rfl,W,k,e⟩:=h;obtain⟨q,ob⟩:=W.ob;refine⟨_,(aB (eM (Χ u l cR (aa (γ 0) (aa (γ 1) ax)))) (aL (bJ (pcb KO T.sorted (aa (Χ z l cR (aa (cD (γ 0) rfl) (aa (γ 1) ax))) ax))))),?_⟩;walk_at "s";walk_at "";refine⟨p,t,m,n,b,a,rfl,W,λg d=>?_,e⟩;have j:(b.length:Int)=m-1:=W.go.len;have Ζ:=W.go.Ζ;refine⟨T.Web,q,_,ob,T.iw,T.abu,_,Bg m t,t,n,b,a,rfl,Ξ.of W.tu,W.ro,by lia,λy M G f x=>?_⟩;refine⟨y,rfl,gG b a,ν.of x,by have:=Jx b a;lia,λr I i o v=>?_⟩;rw[Vb W.go g d o v];exact k r _ g d (f.free i) (f.trans (δ.new _ i)) aE
def wK(T:Txt K L):Sp:=λf H Q _=>E7 λ(p t:Addr)(m:Int)(e:gf)(d:hD)(a:Int)(b:V)=>f=[.ref p,.int a,b]/\μ T.Web H p m t e d/\0<=a/\a<m/\(b=.ο\/∃i,b=.int i)/\∀l c,H l=none->δ H c->c l=some (.lst ((bQ m d b a).map V.int))->Q (.ref l) c
abbrev uK:Stmt:=top 31
theorem U3:ζ ["web","place","front"] ["web","place","front"] (aG uK):=.of
theorem Vi(T:Txt K L)(Y:bZ (ψ P w))(S:Cb P w K L base "neighbours" q8 ["web","a"] 3 (yi T)):Ok P w K L base "kids" uK ["web","place","front"] 4 (wK T):=λ_ _ D=>by
 refine D.F.ϖ U3 (by walk_at "v") λρ A u s H vs Q E M h=>?_;obtain⟨p,t,m,U,d,a,e,rfl,W,I,G,J,k⟩:=h;have Ζ:=W.go.Ζ;refine⟨_,(aL (bJ (kE rfl (clo ["near","front"] 1 [2]) (iB (Μ S M Y (aa (γ 0) (aa (γ 1) ax)))) (λ_ _ _ _=>(f9 (i:=0) (show(["near","front"]:gy).Nodup from by decide +kernel) rfl (Or.inl rfl))) (λ_ _ _ _=>(Eu (Ϭ pW (pv 0) (pv 1)))) (λ_ _ _ _=>(pv 0))))),?_⟩;walk_at "s";walk_at "";have nl:(kM m d a).length<=24:=by
  have:=dq (λq=>decide (q∈gG d a)) (bM m.toNat);rw[cq]at this;unfold kM
  lia
 refine⟨p,t,m,U,d,a,rfl,W,λC Z _ _ n1 x B=>⟨C,rfl,⟨_,ν.of B⟩,λn o=>?_⟩,λz=>absurd ⟨I,G⟩ z⟩;have r:H n=none:=x.free o;refine vc (c:=true) (K:=K) (a:=C) (xs:=(kM m d a).map V.int) (λj g l f=>δ Z f/\f n=some (.lst g)/\g=(((kM m d a).take j).filter λv=>decide (V.int v≠e)).map V.int/\∃v,l=[v,some e]) ⟨δ.new _ o,aE,rfl,_,rfl⟩ (λj g l f _ z=>ν.of (z.1 _ _ B)) ?_ ?_
 .rintro j xj g l f N hN hj ⟨s2,h2,rfl,v,rfl⟩;rw[aJ]at hj;obtain⟨b,R,rfl⟩:=cV.mp hj;have y:(kM m d a).take (j+1)=(kM m d a).take j++[b]:=by rw[bI,R];rfl
  have ll:(((kM m d a).take j).filter λv=>decide (V.int v≠e)).length<=24:=by
   have O:=dq (λv=>decide (V.int v≠e)) ((kM m d a).take j);rw[bE]at O
   lia
  walk_at "";have X:tV (V.int b) e=true:=by
   rcases J with rfl|⟨i,rfl⟩<;>rfl
  refine⟨X,?_⟩;by_cases c:V.int b=e
  .rw[ag (λz=>z c)];refine hN _ _ _ ⟨s2,h2,?_,_,rfl⟩;rw[y,cX];simp[c]
  .rw[aj c];refine⟨h2,fV (by rw[ah];lia),hN _ _ _ ⟨s2.put o _,aE,?_,_,rfl⟩⟩;rw[y,cX];simp[c]
 .rintro g l f ⟨s2,h2,rfl,v,rfl⟩;rw[ah,bL]at h2;exact k n f r (x.trans s2) h2
def u6(T:Txt K L):Sp:=λf H Q E=>E6 λ(p t:Addr)(m:Int)(e:gf)(d:hD)(r:Int)=>f=[.ref p,.int r]/\μ T.Web H p m t e d/\(0<=r->r<m->∃a c,ε m d r a c/\∀l b,H l=none->δ H b->b l=some (.lst (oz m r a))->Q (.ref l) b)/\(¬(0<=r/\r<m)->E (.ref T.NoPlace) none H)
abbrev sB:Stmt:=top 29
theorem Tr:ζ ["web","r","nearer","waiting","place","front","kid"] ["web","r"] (aG sB):=.of
abbrev iv(P w base)(T:Txt K L):=Cb P w K L base "kids" uK ["web","place","front"] 4 (wK T)
theorem QI(T:Txt K L)(hq:bZ (ψ P w))(fS:hY P w base T)(jH:iv P w base T):Ok P w K L base "ahead" sB ["web","r"] 5 (u6 T):=λ_ _ D=>by
 refine D.F.gT Tr (by walk_at "v") λρ A av s H vs Q E hr h=>?_;obtain⟨p,t,m,ps,rs,r,rfl,W,k,e⟩:=h;obtain⟨dx,ob⟩:=W.ob;have g:=W.go;have Ζ:=g.Ζ;refine⟨_,(aB (eM (Χ fS hr cR (aa (γ 0) (aa (γ 1) ax)))) (aB (Η 2 (bh qf (gF (aa uP ax)) (cD (γ 0) rfl))) (aB (Η 3 (gF (aa (γ 1) ax))) (aB (rX PassesOwn.leaving (u9 (γ 3) (λ_=>rfl)) (aB (Η 4 (Jp PySem.F.plainAttrs_list PySem.F.slot_list_pop PySem.F.type_list_pop IV (γ 3))) (aB (Η 5 (Ο bX (γ 2) (γ 4))) (aL (fq PassesOwn.leaving rfl (iB (Χ jH hr cR (aa (γ 0) (aa (γ 4) (aa (γ 5) ax))))) (ϐ 6) (aB (nz (γ 4) (oW (γ 2) (γ 6) iR)) (aL (eM (nN PySem.F.plainAttrs_list PySem.F.slot_list_append PySem.F.type_list_append ic (γ 3) (aa (γ 6) ax)))))))))) (aL (bJ (γ 2))))))),?_⟩;walk_at "s";walk_at "";refine⟨p,t,m,ps,rs,r,rfl,W,λr0 r1=>?_,e⟩;obtain⟨par,bV,R,k⟩:=k r0 r1;refine⟨by decide,λl1 n1=>?_⟩;have s1:=δ.new (.lst [V.ο]) n1;refine⟨T.Web,dx,_,s1 _ _ ob,T.iw,T.Κ,_,rfl,?_⟩;refine⟨l1,m,[V.ο],rfl,rfl,aE,by lia,by lia,dz (by simp;lia),λb n2=>?_⟩;have ad:H b=none:=s1.free n2;rw[uN,<-XF (par:=par)];have s2:=s1.trans (δ.new (.lst (nl m par [])) n2);refine⟨dz (by simp),λa n3=>?_⟩;have Y:H a=none:=s2.free n3;have j:a≠b:=λz=>by rw[z,aE]at n3;cases n3
 have s3:=s2.trans (δ.new (.lst [V.int r]) n3);have S:upd (upd (upd H l1 (.lst [V.ο])) b (.lst (nl m par []))) a (.lst [V.int r]) b=some (.lst (nl m par [])):=by rw[aN j.symm,aE]
 have Z:upd (upd (upd H l1 (.lst [V.ο])) b (.lst (nl m par []))) a (.lst [V.int r]) a=some (.lst [V.int r]):=aE;generalize upd (upd (upd H l1 (.lst [V.ο])) b (.lst (nl m par []))) a (.lst [V.int r])=H3 at s3 S Z ⊢;refine L7 (λn y f=>E5 λ(B X:fc)(v4 v5 G:Option V)=>n=2*(m.toNat-B.length)+X.length/\y=[some (.ref p),some (.int r),some (.ref b),some (.ref a),v4,v5,G]/\δ H f/\f b=some (.lst (nl m par B))/\f a=some (.lst (X.map V.int))/\ϗ m rs r par B X) (2*m.toNat+1) ⟨[],[r],_,_,_,rfl,rfl,s3,S,Z,ϗ.start⟩ ?_;rintro n y f NW BB N hN O ⟨B,X,v4,v5,G,rfl,rfl,s4,h2,h3,J⟩;refine N _ _ _ ?_;have kl:=g9 (by lia) J.nd J.Ι;walk_at "";refine⟨_,.inl ⟨_,ν.of h3,rfl⟩,?_⟩;rcases j6 X with rfl|⟨ws',q,rfl⟩
 .rw[ag (by simp)];rw[J.done R]at h2;exact k b f ad s4 h2
 .rw[j4]at J h3 hN O ⊢;rw[aj (by simp)];have hq:q∈ws'++[q]:=bf _ (aK.mpr rfl);have u:=J.at_ r0 r1 hq;have I:=J.step g R r0 r1 (p:=q) (ws':=ws') (lF q ws');refine⟨NW,λcd H' z=>?_,?_⟩
  .obtain⟨m',lt,ks',adW,a4,a5,a6,e1,S,Z⟩:=O _ _ z
   first|exact⟨m',lt,ks',adW,a4,a5,a6,e1,S,Z⟩|exact⟨m',lt,ks',adW,e1,a4,a5,a6,S,Z⟩
  rw[aI,aq,eP]at h3;refine⟨tyL h3,Ub h3 ?_⟩;have s5:δ H (upd f a (.lst (ws'.map V.int))):=s4.put Y _;have l:upd f a (.lst (ws'.map V.int)) b=some (.lst (nl m par B)):=by rw[aN j.symm];exact h2
  have C:upd f a (.lst (ws'.map V.int)) a=some (.lst (ws'.map V.int)):=aE;generalize upd f a (.lst (ws'.map V.int))=H5 at s5 l C ⊢;refine Φ l (dj u.1 (QD u.1 u.2)) ?_;rw[J.front hq];have a3:Pb.front r par q=.ο\/∃i,Pb.front r par q=.int i:=by
   unfold Pb.front;by_cases c:q=r
   .rw[aj c];exact .inl rfl
   .rw[ag c];exact .inr ⟨_,rfl⟩
  have mk:∀v,v∈bQ m rs (Pb.front r par q) q->(0<=v/\v<m)/\v≠r/\par v=q:=λv=>(bz g R u.1 u.2).mp;refine⟨p,t,m,ps,rs,q,_,rfl,W.same s5,u.1,u.2,a3,λU H6 n6 s6 e6=>⟨U,rfl,⟨_,ν.of e6⟩,?_⟩⟩;generalize bQ m rs (Pb.front r par q) q=d at mk e6 I ⊢;have cf:H U=none:=s5.free n6;have aT:U≠b:=λz=>by rw[z,l]at n6;cases n6
  have au:U≠a:=λz=>by rw[z,C]at n6;cases n6
  have aC:=g9 (by lia) I.nd I.Ι;rw[aX]at aC;have a1:=g9 (by lia) I.wnd λw hw=>I.at_ r0 r1 hw;rw[aX]at a1;refine j7 (K:=K) (xs:=d.map V.int) (λi y o=>∃G,y=[some (.ref p),some (.int r),some (.ref b),some (.ref a),some (.int q),some (Pb.front r par q),G]/\δ H o/\o U=some (.lst (d.map V.int))/\o b=some (.lst (nl m par (B++d.take i)))/\o a=some (.lst ((ws'++d.take i).map V.int))) ⟨_,rfl,s5.trans s6,e6,by rw[dY,b7];exact s6 _ _ l,by rw[dY,b7];exact s6 _ _ C⟩ (λi y o _ z=>by obtain⟨_,_,_,z,_⟩:=z;exact ν.of z) ?_ ?_
  .rintro i x y o NI BB N hI hi ⟨G,rfl,s7,e7,h27,h37⟩;refine N _ _ ?_;rw[aJ]at hi;obtain⟨v,hv,rfl⟩:=cV.mp hi;obtain⟨vr,_,vp⟩:=mk v (aO hv);have et:d.take (i+1)=d.take i++[v]:=(by rw[bI,hv];rfl);walk_at "";refine⟨b,_,v,v.toNat,rfl,rfl,h27,by unfold ixN;rw[aj vr.1,aj (by rw[vx];lia)],?_⟩;rw[<-vp,Za vr.1 vr.2,vp,cU,<-et];have M:upd o b (.lst (nl m par (B++d.take (i+1)))) a=some (.lst ((ws'++d.take i).map V.int)):=(by rw[aN j];exact h37);have b2:(ws'++d.take i).length<=100:=by
    rw[aX,bE]
    lia
   refine⟨tyL M,tX M (fV (by rw[ah];lia)) (hI _ _ ⟨_,rfl,(s7.put ad _).put Y _,?_,?_,?_⟩)⟩
   .rw[aN au,aN aT];exact e7
   .rw[aN j.symm,aE]
   .rw[aE,et,<-cU,aI (l₁:=ws'++d.take i)];rfl
  .rintro BB y o N ⟨G,rfl,s7,e7,h27,h37⟩;refine N _ _ ?_;rw[ah,bL]at h27 h37;refine hN _ _ _ ?_ ⟨_,_,_,_,_,rfl,rfl,s7,h27,h37,I⟩;rw[aX,aX,aX];simp only[aR,ft]
   lia
def Ei(T:Txt K L):Sp:=λf H Q E=>E6 λ(p t:Addr)(m:Int)(e:gf)(c:hD)(r:Int)=>f=[.ref p,.int r]/\μ T.Web H p m t e c/\(0<=r->r<m->∃a b,ε m c r a b/\∀l d,H l=none->δ H d->d l=some (.lst ((cI m c r a b r).map V.int))->(cI m c r a b r).Nodup->(∀v,v∈cI m c r a b r↔0<=v/\v<m)->Q (.ref l) d)/\(¬(0<=r/\r<m)->E (.ref T.NoPlace) none H)
abbrev wu:Stmt:=top 30
theorem U6:ζ ["web","r","nearer","places","waiting","place","kid"] ["web","r"] (aG wu):=.of
theorem Ce:ώ (aG wu) "reversed":=.of (by kernel_rfl)
abbrev ix(P w base)(T:Txt K L):=Cb P w K L base "ahead" sB ["web","r"] 5 (u6 T)
theorem Vz(T:Txt K L)(hq:bZ (ψ P w))(mw:ix P w base T)(jH:iv P w base T):Ok P w K L base "down" wu ["web","r"] 6 (Ei T):=λ_ _ D=>by
 refine D.F.gT U6 (by walk_at "v") λρ A a8 s H vs Q E hr h=>?_;obtain⟨p,t,m,ps,rs,r,rfl,W,k,e⟩:=h;have g:=W.go;have Ζ:=g.Ζ;refine⟨_,(aB (Η 2 (Χ mw hr cR (aa (γ 0) (aa (γ 1) ax)))) (aB (Η 3 (gF ax)) (aB (Η 4 (gF (aa (γ 1) ax))) (aB (rX PassesOwn.leaving (u9 (γ 4) (λ_=>rfl)) (aB (Η 5 (Jp PySem.F.plainAttrs_list PySem.F.slot_list_pop PySem.F.type_list_pop IV (γ 4))) (aB (eM (nN PySem.F.plainAttrs_list PySem.F.slot_list_append PySem.F.type_list_append ic (γ 3) (aa (γ 5) ax))) (aL (fq PassesOwn.leaving rfl (sY Ce.g T.reversed (Χ jH hr cR (aa (γ 0) (aa (γ 5) (aa (Ο bX (γ 2) (γ 5)) ax))))) (ϐ 6) (aL (eM (nN PySem.F.plainAttrs_list PySem.F.slot_list_append PySem.F.type_list_append ic (γ 4) (aa (γ 6) ax))))))))) (aL (bJ (γ 3))))))),?_⟩;walk_at "s";walk_at "";refine⟨p,t,m,ps,rs,r,rfl,W,λr0 r1=>?_,e⟩;obtain⟨a,G,R,k⟩:=k r0 r1;refine⟨a,G,R,λy H1 n1 s1 e1=>⟨by decide,λb n3=>⟨dz (by simp),λd Y=>?_⟩⟩⟩;have av:H b=none:=s1.free n3;have s3:=s1.trans (δ.new (.lst []) n3);have aS:H d=none:=s3.free Y;have be:y≠b:=λz=>by rw[<-z,e1]at n3;cases n3
 have o:b≠d:=λz=>by rw[<-z,aE]at Y;cases Y
 have a0:=δ.new (.lst []) n3 _ _ e1;have a3:y≠d:=λz=>by rw[<-z,a0]at Y;cases Y
 have s4:=s3.trans (δ.new (.lst [V.int r]) Y);have a1:=δ.new (.lst [V.int r]) Y _ _ a0;have an:upd (upd H1 b (.lst [])) d (.lst [V.int r]) b=some (.lst []):=by rw[aN o,aE]
 have ai:upd (upd H1 b (.lst [])) d (.lst [V.int r]) d=some (.lst [V.int r]):=aE;generalize upd (upd H1 b (.lst [])) d (.lst [V.int r])=H4 at s4 a1 an ai ⊢;refine L7 (λn M l=>E5 λ(U N f:fc)(v5 v6:Option V)=>n=2*(m.toNat-U.length)+N.length/\M=[some (.ref p),some (.int r),some (.ref y),some (.ref b),some (.ref d),v5,v6]/\δ H l/\l y=some (.lst (oz m r a))/\l b=some (.lst (f.map V.int))/\l d=some (.lst (N.map V.int))/\ϗ m rs r a U N/\(f++N).Perm (r::U)/\f++N.reverse.flatMap (cI m rs r a G)=cI m rs r a G r) (2*m.toNat+1) ⟨[],[r],[],_,_,rfl,rfl,s4,a1,an,ai,ϗ.start,List.Perm.refl _,by simp⟩ ?_;rintro n M l NW BB ϓ hN am ⟨U,N,f,v5,v6,rfl,rfl,s5,h1,h3,h4,J,S,ep⟩;refine ϓ _ _ _ ?_;have rk:∀w∈r::U,0<=w/\w<m:=λw hw=>by
  rcases aw.mp hw with rfl|z
  .exact⟨r0,r1⟩
  .exact J.Ι w z
 have nk:(r::U).Nodup:=bg.mpr ⟨J.nr,J.nd⟩;have kl:=g9 (m:=m) (by lia) nk rk;have cs:=g9 (m:=m) (by lia) J.nd J.Ι;have X:=S.length_eq;rw[aX]at X;rw[aR]at kl X;walk_at "";refine⟨_,.inl ⟨_,ν.of h4,rfl⟩,?_⟩;rcases j6 N with rfl|⟨ws',q,rfl⟩
 .rw[ag (by simp)];rw[List.reverse_nil,List.flatMap_nil,b7]at ep;rw[b7]at S;subst ep;refine k b l av s5 h3 (S.nodup_iff.mpr nk) λv=>⟨λz=>rk v (S.mem_iff.mp z),λz=>S.mem_iff.mpr ?_⟩;by_cases c:v=r
  .rw[c];exact aA
  .exact ap _ (J.all R v z.1 z.2 c)
 .rw[j4]at J h4 hN am S ep X ⊢;rw[aj (by simp)];have hq:q∈ws'++[q]:=bf _ (aK.mpr rfl);have I:=J.at_ r0 r1 hq;have J2:=J.step g R r0 r1 (p:=q) (ws':=ws') (lF q ws');refine⟨NW,λcu H' z=>?_,?_⟩
  .obtain⟨m',lt,ks',adW,pl',a5,a6,z1,z2⟩:=am _ _ z
   first|exact⟨m',lt,ks',adW,pl',a5,a6,z1,z2⟩|exact⟨m',lt,ks',adW,z1,pl',a5,a6,z2⟩
  rw[aI,aq,eP]at h4;refine⟨tyL h4,Ub h4 ?_⟩;have s6:δ H (upd l d (.lst (ws'.map V.int))):=s5.put aS _;have Z:upd l d (.lst (ws'.map V.int)) b=some (.lst (f.map V.int)):=by rw[aN o];exact h3
  have af:upd l d (.lst (ws'.map V.int)) y=some (.lst (oz m r a)):=by rw[aN a3];exact h1
  have ak:upd l d (.lst (ws'.map V.int)) d=some (.lst (ws'.map V.int)):=aE;generalize upd l d (.lst (ws'.map V.int))=H6 at s6 Z af ak ⊢;refine⟨tyL Z,tX Z (fV (by rw[ah];lia)) ?_⟩;have s7:δ H (upd H6 b (.lst (f.map V.int++[V.int q]))):=s6.put av _;have O:upd H6 b (.lst (f.map V.int++[V.int q])) b=some (.lst ((f++[q]).map V.int)):=by rw[aE,aI];rfl
  have u:upd H6 b (.lst (f.map V.int++[V.int q])) y=some (.lst (oz m r a)):=by rw[aN be];exact af
  have C:upd H6 b (.lst (f.map V.int++[V.int q])) d=some (.lst (ws'.map V.int)):=by rw[aN o.symm];exact ak
  generalize upd H6 b (.lst (f.map V.int++[V.int q]))=H7 at s7 O u C ⊢;refine Φ u (dj I.1 (xA I.1 I.2)) ?_;have bp:Pb.front r a q=.ο\/∃i,Pb.front r a q=.int i:=by
   unfold Pb.front;by_cases c:q=r
   .rw[aj c];exact .inl rfl
   .rw[ag c];exact .inr ⟨_,rfl⟩
  have pq:=jv g R I.1 I.2;refine⟨p,t,m,ps,rs,q,_,rfl,W.same s7,I.1,I.2,bp,λl8 H8 n8 s8 e8=>⟨l8,rfl,_,ν.of e8,?_⟩⟩;generalize bQ m rs (Pb.front r a q) q=j at e8 J2 pq ⊢;have cx:y≠l8:=λz=>by rw[<-z,u]at n8;cases n8
  have cl:b≠l8:=λz=>by rw[<-z,O]at n8;cases n8
  have bm:d≠l8:=λz=>by rw[<-z,C]at n8;cases n8
  have bd:=g9 (m:=m) (by lia) J2.nd J2.Ι;rw[aX]at bd;have bn:=g9 (m:=m) (by lia) J2.wnd λw hw=>J2.at_ r0 r1 hw;rw[aX]at bn;refine qy (K:=K) (xs:=j.map V.int) (λi M B=>∃v6,M=[some (.ref p),some (.int r),some (.ref y),some (.ref b),some (.ref d),some (.int q),v6]/\δ H B/\B l8=some (.lst (j.map V.int))/\B y=some (.lst (oz m r a))/\B b=some (.lst ((f++[q]).map V.int))/\B d=some (.lst ((ws'++j.reverse.take i).map V.int))) ⟨_,rfl,s7.trans s8,e8,s8 _ _ u,s8 _ _ O,by rw[dY,b7];exact s8 _ _ C⟩ (λi M B _ z=>by obtain⟨_,_,_,z,_⟩:=z;exact ν.of z) ?_ ?_
  .rintro i x M B NI hI hi ⟨v6,rfl,s9,e9,h19,h39,h49⟩;rw[<-fQ,aJ]at hi;obtain⟨v,hv,rfl⟩:=cV.mp hi;have et:j.reverse.take (i+1)=j.reverse.take i++[v]:=(by rw[bI,hv];rfl);have cp:(ws'++j.reverse.take i).length<=100:=by
    rw[aX,bE,aV]
    lia
   walk_at "";refine⟨tyL h49,tX h49 (fV (by rw[ah];lia)) (hI _ _ ⟨_,rfl,s9.put aS _,?_,?_,?_,?_⟩)⟩
   .rw[aN bm.symm];exact e9
   .rw[aN a3];exact h19
   .rw[aN o];exact h39
   .rw[aE,et,<-cU,aI (l₁:=ws'++j.reverse.take i)];rfl
  .rintro M B ⟨v6,rfl,s9,e9,h19,h39,h49⟩;rw[ah,show j.length=j.reverse.length by rw[aV],bL]at h49;refine hN _ _ _ ?_ ⟨U++j,ws'++j.reverse,f++[q],_,_,rfl,rfl,s9,h19,h39,h49,J2.perm (nG _ j.reverse_perm.symm),?_,?_⟩
   .rw[aX,aX,aX,aV];simp only[aR,ft]
    lia
   .have p1:(f++[q]++(ws'++j.reverse)).Perm (f++(ws'++[q])++j):=by
     rw[cU,cU];refine nG _ ?_;rw[<-cU];exact List.Perm.append (List.perm_append_comm) j.reverse_perm
    exact p1.trans (List.Perm.append_right _ S)
   .rw[<-ep,nU,nU,nF,List.reverse_singleton,List.singleton_append,c9,pq,oB];simp
def NV(a:fm)(v:Int):List V:=[.int v,.int (a v)]
abbrev Α(H:Hp)(a:fm):List Addr->List Int->Prop:=Paired λq v=>H q=some (.tup (NV a v))
theorem Α.same{H b:Hp}{a:fm}{c:gf}{d:fc}(e:δ H b)(h:Α H a c d):Α b a c d:=Paired.imp' (λq v x=>e q _ x) h
theorem Α.get{H:Hp}{c:fm}:∀{d:gf}{f:fc}{i:Nat}{x:V},Α H c d f->(d.map V.ref)[i]?=some x->∃p r,x=.ref p/\d[i]?=some p/\f[i]?=some r/\H p=some (.tup (NV c r))
 | _,_,i,x,.nil,e=>by simp at e
 | _,_,0,x,.cons (a:=p) (b:=r) h hs,e=>⟨p,r,by simpa using e.symm,by simp,by simp,h⟩
 | a::l1,_,i+1,x,.cons h hs,e=>by
   have g:(List.map V.ref l1)[i]?=some x:=by simpa using e
   obtain⟨p,r,k,j,m,l⟩:=Α.get hs g;exact⟨p,r,k,by simpa using j,by simpa using m,l⟩
theorem Α.snoc{H:Hp}{a:fm}{q:Addr}{v:Int}(e:H q=some (.tup (NV a v))):∀{b:gf}{c:fc},Α H a b c->Α H a (b++[q]) (c++[v])
 | _,_,.nil=>.cons e .nil
 | _,_,.cons x xs=>.cons x (Α.snoc e xs)
def lH(T:Txt K L):Sp:=λh H Q E=>E6 λ(p t:Addr)(m:Int)(g:gf)(e:hD)(r:Int)=>h=[.ref p,.int r]/\μ T.Web H p m t g e/\(0<=r->r<m->∃a b,ε m e r a b/\∀l f d c,cI m e r a b r=r::d->H l=none->δ H c->c l=some (.lst (f.map V.ref))->Α c a f d.reverse->Order m r a d->Q (.ref l) c)/\(¬(0<=r/\r<m)->E (.ref T.NoPlace) none H)
abbrev jO:Stmt:=top 32
theorem FY:ζ ["web","r","nearer"] ["web","r"] (aG jO):=.of
theorem B4:NmC (aG jO) "nearer":=.of (by kernel_rfl)
theorem yI:ώ (aG jO) "reversed":=.of (by kernel_rfl)
theorem Pq(T:Txt K L)(hq:bZ (ψ P w))(mw:ix P w base T)(wJ:Cb P w K L base "down" wu ["web","r"] 6 (Ei T)):Ok P w K L base "inward" jO ["web","r"] 7 (lH T):=λ_ _ D=>by
 refine D.F.gT FY (by walk_at "v") λρ A ac s H vs Q E hr h=>?_;obtain⟨p,t,m,ps,rs,r,rfl,W,k,e⟩:=h;have g:=W.go;have Ζ:=g.Ζ;refine⟨_,(aB (tG (i:=2) FY.nd rfl (Or.inr B4.l) (Χ mw hr cR (aa (γ 0) (aa (Ϩ 1) ax)))) (aL (bJ (kE rfl (clo ["place","nearer","r"] 1 [2,1]) (sY yI.g T.reversed (Χ wJ hr cR (aa (γ 0) (aa (Ϩ 1) ax)))) (λ_ _ _ _=>(f9 (i:=0) (show(["place","nearer","r"]:gy).Nodup from by decide +kernel) rfl (Or.inl rfl))) (λ_ _ _ _=>(Eu (Ϭ pW (pv 0) (pv 2)))) (λ_ _ _ _=>(m7 (aa (pv 0) (aa (Ο (pF K rfl) (pv 1) (pv 0)) ax)))))))),?_⟩;walk_at "s";walk_at "";refine⟨p,t,m,ps,rs,r,?_⟩;refine an4 rfl W (λS I=>?_) e;obtain⟨d,C,R,k⟩:=k S I;refine⟨d,C,R,λl1 H1 n1 s1 e1=>?_⟩;refine⟨p,t,m,ps,rs,r,?_⟩;refine an4 rfl (W.same s1) (λ_ _=>⟨d,C,R,λl2 H2 n2 s2 e2 nd al=>?_⟩) (λz=>absurd ⟨S,I⟩ z);obtain⟨o,et,O⟩:=CZ g R S I nd al;have ll:=Ih g R S I;rw[et]at e2 ll;rw[aR]at ll;refine⟨l2,rfl,_,ν.of e2,λpc j=>?_⟩;have X:=s2 _ _ e1;have B:=s1.trans s2;have Z:=B.free j;refine R8 (K:=K) (xs:=(r::o).map V.int) (λi G J n=>δ H2 n/\n pc=some (.lst G)/\(∃f:List Addr,G=f.map V.ref/\Α n d f (o.reverse.take i))/\∃v,J=[v,some (V.ref l1),some (V.int r)]) ⟨δ.new _ j,aE,⟨[],rfl,.nil⟩,_,rfl⟩ (λi G J n _ z=>ν.of (z.1 _ _ e2)) ?_ ?_
 .rintro i x G J n N hN hx ⟨s3,e3,⟨f,rfl,pa⟩,v,rfl⟩;rw[<-fQ,eI,aJ]at hx;obtain⟨y,u,rfl⟩:=cV.mp hx;have il:=(aD.mp u).1;rw[aX,aV]at il;have ql:f.length=(o.reverse.take i).length:=Paired.length pa;rw[bE,aV]at ql;walk_at "";by_cases c:i<o.length
  .rw[dH (by rw[aV];exact c)]at u;have ym:y∈o:=dZ.mp (aO u);have U:=O.Ι y ym;rw[aj (O.ne ym)];have gp:Ϧ (oz m r d) y=some (V.int (d y)):=by
    have ef:Pb.front r d y=V.int (d y):=(by unfold Pb.front;rw[ag (O.ne ym)]);rw[<-ef];exact dj U.1 (xA U.1 U.2)
   refine Φ (s3 _ _ X) gp ⟨dz (by simp),λq M=>?_⟩;have s4:=δ.new (.tup [V.int y,V.int (d y)]) M;have Y:q≠pc:=λz=>by rw[z,e3]at M;cases M
   refine⟨s4 _ _ e3,fV (by rw[ah];lia),hN _ _ _ ⟨(s3.trans s4).put j _,aE,⟨f++[q],by rw[aI];rfl,?_⟩,_,rfl⟩⟩;rw[bI,u];refine Α.snoc (by rw[aN Y,aE];rfl) ?_;exact Paired.imp' (λa b h=>by
    rw[aN (fM h e3 (by intro z;cases z)),aN (cG h M)];exact h) pa
  .have ei:i=o.reverse.length:=(by rw[aV];simp at il;lia);rw[ei,dE (az _),dD]at u;cases u;rw[ag (λz=>z rfl)];refine hN _ _ _ ⟨s3,e3,⟨f,rfl,?_⟩,_,rfl⟩;rw[cW (by lia)]at pa ⊢;exact pa
 .rintro G J n ⟨s3,e3,⟨f,rfl,pa⟩,v,rfl⟩;rw[cW (by rw[ah,aV,aR];lia)]at pa;exact k pc f o n et Z (B.trans s3) e3 pa O
def lM(T:Txt K L):Sp:=λe H Q E=>E7 λ(p t:Addr)(m:Int)(d:gf)(c:hD)(a b:Int)=>e=[.ref p,.int a,.int b]/\μ T.Web H p m t d c/\(∀k,0<=a->a<m->0<=b->b<m->ce c a b=some k->Q (.int k) H)/\(¬((0<=a/\a<m)/\(0<=b/\b<m))->E (.ref T.NoPlace) none H)/\(0<=a->a<m->0<=b->b<m->ce c a b=none->E (.ref T.NoRoad) none H)
abbrev kU:Stmt:=top 15
theorem UT:ζ ["web","a","b","one","other","there","back"] ["web","a","b"] (aG kU):=.of
theorem wR:ώ (aG kU) "NoRoad":=.of (by kernel_rfl)
theorem VD(T:Txt K L)(hq:bZ (ψ P w))(Z:hY P w base T):Ok P w K L base "toll" kU ["web","a","b"] 3 (lM T):=λ_ _ D=>by
 refine D.F.gT UT (by walk_at "v") λρ A X s H vs Q E hr h=>?_;obtain⟨p,t,m,M,f,a,b,rfl,W,k,e1,e2⟩:=h;obtain⟨dx,ob⟩:=W.ob;refine⟨_,(aB (eM (Χ Z hr cR (aa (γ 0) (aa (γ 1) ax)))) (aB (eM (Χ Z hr cR (aa (γ 0) (aa (γ 2) ax)))) (aB (fq PassesOwn.leaving rfl (yQ (cD (γ 0) rfl)) (j1 (n:=4) rfl (cH (ϐ 3) (cH (ϐ 4) (cH (ϐ 5) (cH (ϐ 6) gX))))) (aB (dQ (PW.pt (CS (Ϭ kG (γ 3) (γ 1)) (Ab (Ϭ kG (γ 4) (γ 2))))) (aL (bJ (γ 5))) cY) (aL (dQ (PW.pt (CS (Ϭ kG (γ 3) (γ 2)) (Ab (Ϭ kG (γ 4) (γ 1))))) (aL (bJ (γ 6))) cY)))) (aL (nM T.BA rfl pK wR.g T.Rq (aa rh ax) (hdb:=wR.d)))))),?_⟩;walk_at "s";walk_at "";refine⟨p,t,m,M,f,a,rfl,W,λB y=>?_,λz=>e1 λw=>z w.1⟩;refine⟨p,t,m,M,f,b,rfl,W,λG C=>?_,λz=>e1 λw=>z w.2⟩;refine⟨T.Web,dx,_,ob,T.iw,T.abu,_,Bg m t,t,rfl,⟨_,Ξ.of W.tu⟩,?_⟩;have l:M.length=f.length:=Paired.length W.ro;refine IA (K:=K) (xs:=M.map V.ref) (λi J o=>o=H/\ce (f.take i) a b=none/\∃Y S R O,J=[some (V.ref p),some (V.int a),some (V.int b),Y,S,R,O]) ⟨rfl,rfl,_,_,_,_,rfl⟩ (λi J o _ z=>by rw[z.1];exact Ξ.of W.tu) ?_ ?_
 .rintro i x J o N hN hx ⟨rfl,hno,Y,S,R,O,rfl⟩;obtain⟨q,r,rfl,h1,I,h3⟩:=W.ro.get hx;have et:f.take (i+1)=f.take i++[r]:=by rw[bI,I];rfl
  have split:ce f a b=(ce (f.take i) a b).or ((jk a b r).or (ce (f.drop (i+1)) a b)):=by
   have:f=f.take i++r::f.drop (i+1):=by
    have U:i<f.length:=(aD.mp I).1;have e:f[i]=r:=(by rw[ay U]at I;exact bu I);rw[<-e,mR,cP]
   conv=>lhs;rw[this]
   unfold ce;rw[j5,lA];cases jk a b r<;>rfl
  rw[hno,Option.none_or]at split;walk_at "";refine⟨_,Ξ.of h3,rfl,_,_,rfl,_,_,rfl,_,_,rfl,_,_,rfl,rfl,?_⟩;walk_at "";have c:jk a b r=none->N [some (V.ref p),some (V.int a),some (V.int b),some (V.int r.a),some (V.int r.b),some (V.int r.t),some (V.int r.u)] o:=λz=>hN _ _ ⟨rfl,by
   rw[et];unfold ce at hno ⊢;rw[j5,hno,lA,z]
   rfl,_,_,_,_,rfl⟩
  have j:∀v,jk a b r=some v->ce f a b=some v:=λv z=>by rw[split,z];rfl
  unfold jk at c j;split
  .rename_i c1
   split
   .rename_i c2
    exact k _ B y G C (j _ (by rw[aj ⟨c1,c2⟩]))
   .rename_i c2
    split
    .rename_i c3
     split
     .rename_i c4
      exact k _ B y G C (j _ (by rw[ag (λz=>c2 z.2),aj ⟨c3,c4⟩]))
     .rename_i c4
      exact c (by rw[ag (λz=>c2 z.2),ag (λz=>c4 z.2)])
    .rename_i c3
     exact c (by rw[ag (λz=>c2 z.2),ag (λz=>c3 z.1)])
  .rename_i c1
   split
   .rename_i c3
    split
    .rename_i c4
     exact k _ B y G C (j _ (by rw[ag (λz=>c1 z.1),aj ⟨c3,c4⟩]))
    .rename_i c4
     exact c (by rw[ag (λz=>c1 z.1),ag (λz=>c4 z.2)])
   .rename_i c3
    exact c (by rw[ag (λz=>c1 z.1),ag (λz=>c3 z.1)])
 .rintro J o ⟨rfl,hno,Y,S,R,O,rfl⟩;rw[ah,l,bL]at hno;walk_at "";exact⟨by decide,e2 B y G C hno⟩
def Bs(T:Txt K L):Sp:=λf H Q _=>E11 λ(p b t:Addr)(c:Bool)(m:Int)(e:gf)(d:hD)(a:fc)(v u k:Int)=>f=[.ref p,.ref b,.int v,.int u]/\μ T.Web H p m t e d/\ϑ K c H b (a.map V.int)/\(0<=v/\v<m/\v<a.length)/\(0<=u/\u<m)/\ce d v u=some k/\k<=1000000/\2<=k/\Q (.int (a.getD v.toNat 0*k)) H
abbrev ww:Stmt:=top 52
theorem SH:ζ ["web","weights","place","front"] ["web","weights","place","front"] (aG ww):=.of
abbrev i5(P w base)(T:Txt K L):=Cb P w K L base "toll" kU ["web","a","b"] 3 (lM T)
theorem T6(T:Txt K L)(C:bZ (ψ P w))(i:i5 P w base T):Ok P w K L base "borne" ww ["web","weights","place","front"] 4 (Bs T):=λ_ _ D=>by
 refine D.F.gT SH (by walk_at "v") λq A d s H o Q E j h=>?_;obtain⟨p,b,t,c,m,n,g,r,v,u,x,rfl,W,l,a,f,e,B,y,k⟩:=h;refine⟨_,(aL (bJ (bh mD (Ο (Cq c) (γ 1) (γ 2)) (Χ i j cR (aa (γ 0) (aa (γ 2) (aa (γ 3) ax))))))),?_⟩;walk_at "s";walk_at "";refine ixX l (Ac a.1 a.2.2) ?_;refine⟨p,t,m,n,g,v,u,rfl,W,λG _ _ _ _ h=>?_,λz=>absurd ⟨⟨a.1,a.2.1⟩,f⟩ z,λ_ _ _ _ z=>by rw[e]at z;cases z⟩;rw[e]at h;cases h;exact⟨_,rfl,_,rfl,.inr ⟨by lia,by lia⟩,k⟩
def we(T:Txt K L):Sp:=λe H Q _=>E10 λ(p b t:Addr)(m:Int)(d:gf)(c:hD)(a:fc)(v u k:Int)=>e=[.ref p,.ref b,.int v,.int u]/\μ T.Web H p m t d c/\ν K H b (a.map V.int)/\(a.length:Int)=m/\(0<=v/\v<m)/\(0<=u/\u<m)/\ce c v u=some k/\k<=1000000/\2<=k/\Q (.bl (decide (a.getD v.toNat 0*k=a.getD u.toNat 0))) H
abbrev q9:Stmt:=top 59
theorem Kd:ζ ["web","weights","place","front"] ["web","weights","place","front"] (aG q9):=.of
abbrev i6(P w base)(T:Txt K L):=Cb P w K L base "borne" ww ["web","weights","place","front"] 4 (Bs T)
theorem Kx(T:Txt K L)(C:bZ (ψ P w))(n:i6 P w base T):Ok P w K L base "is_heavy" q9 ["web","weights","place","front"] 5 (we T):=λ_ _ D=>by
 refine D.F.gT Kd (by walk_at "v") λz A d s H y Q E o h=>?_;obtain⟨p,b,t,m,q,l,a,v,u,c,rfl,W,i,B,g,f,j,x,r,k⟩:=h;refine⟨_,(aL (bJ (nW kG (Χ n o cR (aa (γ 0) (aa (γ 1) (aa (γ 2) (aa (γ 3) ax))))) (Ο bX (γ 1) (γ 3)) (lY _)))),?_⟩;walk_at "s";walk_at "";refine⟨p,b,t,true,m,q,l,a,v,u,c,rfl,W,i,⟨g.1,g.2,by lia⟩,f,j,x,r,?_⟩;refine ixS i (Ac f.1 (by lia)) ?_;have e:decide (V.int (a.getD v.toNat 0*c)=V.int (a.getD u.toNat 0))=decide (a.getD v.toNat 0*c=a.getD u.toNat 0):=by simp
 rw[e];exact⟨rfl,k⟩
def lR(T:Txt K L):Sp:=λf H Q E=>E6 λ(p t:Addr)(m:Int)(e:gf)(d:hD)(r:Int)=>f=[.ref p,.int r]/\μ T.Web H p m t e d/\(0<=r->r<m->∃b c,ε m d r b c/\∀l a,H l=none->δ H a->a l=some (.lst ((dP m d r b c).map V.int))->Q (.ref l) a)/\(¬(0<=r/\r<m)->∀a,δ H a->E (.ref T.NoPlace) none a)
abbrev jo:Stmt:=top 55
theorem B3:ζ ["web","r","weights","place","front"] ["web","r"] (aG jo):=.of
abbrev i7(P w base)(T:Txt K L):=Cb P w K L base "inward" jO ["web","r"] 7 (lH T)
theorem B5(T:Txt K L)(hq:bZ (ψ P w))(uA:i6 P w base T)(eY:i7 P w base T):Ok P w K L base "least_weights" jo ["web","r"] 8 (lR T):=λ_ _ D=>by
 refine D.F.gT B3 (by walk_at "v") λρ A S s H vs Q E hr h=>?_;obtain⟨p,t,m,ps,j,r,rfl,W,k,e⟩:=h;have g:=W.go;have m1:=g.m1;have Ζ:=g.Ζ;obtain⟨dx,ob⟩:=W.ob;refine⟨_,(aB (Η 2 (bh qf (gF (aa aQ ax)) (cD (γ 0) rfl))) (aB (fq PassesOwn.leaving rfl (iB (Χ eY hr cR (aa (γ 0) (aa (γ 1) ax)))) (j1 (n:=2) rfl (cH (ϐ 3) (cH (ϐ 4) gX))) (aL (nz (pcb (O2 rfl) T.max (aa (Ο bX (γ 2) (γ 4)) (aa (Χ uA hr cR (aa (γ 0) (aa (γ 2) (aa (γ 3) (aa (γ 4) ax))))) ax))) (oW (γ 2) (γ 4) iR)))) (aL (bJ (γ 2))))),?_⟩;walk_at "s";walk_at "";refine⟨dz (by simp),λM n0=>?_⟩;have J:=δ.new (.lst [V.int 1]) n0;refine⟨T.Web,dx,_,J _ _ ob,T.iw,T.Κ,_,fU m t,?_⟩;refine⟨M,m,_,rfl,rfl,aE,by lia,by lia,dz (by simp;lia),λl n1=>?_⟩;rw[GF];have G:=J.trans (δ.new (.lst (List.replicate m.toNat (V.int 1))) n1);have nl:=J.free n1;have e1:upd (upd H M (.lst [V.int 1])) l (.lst (List.replicate m.toNat (V.int 1))) l=some (.lst ((List.replicate m.toNat (1:Int)).map V.int)):=by rw[aE,gU]
 generalize upd (upd H M (.lst [V.int 1])) l (.lst (List.replicate m.toNat (V.int 1)))=H1 at G e1 ⊢;refine⟨p,t,m,ps,j,r,?_⟩;refine an4 rfl (W.same G) (λr0 r1=>?_) (λz=>e z H1 G);obtain⟨c,f,R,k⟩:=k r0 r1;refine⟨c,f,R,λY B I H2 _ n2 s2 e2 pa O=>?_⟩;have ac:Y≠l:=λz=>by rw[z,e1]at n2;cases n2
 refine⟨Y,rfl,⟨_,ν.of e2⟩,?_⟩;have ql:B.length=I.reverse.length:=Paired.length pa;have st:aae mx m j r c f (λ_=>1) (bor j c) [] (List.replicate m.toNat (1:Int)):=aae.nil (by rw[cC];lia) λv v0 v1=>by
  rw[List.getD,j2 (by lia)];rfl
 refine j7 (K:=K) (xs:=B.map V.ref) (λi C d=>δ H d/\d Y=some (.lst (B.map V.ref))/\Α d c B I.reverse/\E3 λ(y:fc)(X Z:Option V)=>d l=some (.lst (y.map V.int))/\aae mx m j r c f (λ_=>1) (bor j c) (I.drop (I.length-i)) y/\C=[some (V.ref p),some (V.int r),some (V.ref l),X,Z]) ⟨G.trans s2,e2,pa,_,_,_,s2 _ _ e1,by rw[eu,dh];exact st,rfl⟩ (λi C d _ z=>ν.of z.2.1) ?_ ?_
 .rintro i x C d N BB ϓ hN hx ⟨s3,e3,pa3,y,X,Z,c3,so,rfl⟩;refine ϓ _ _ ?_;obtain⟨q,v,rfl,hq,hv,eq⟩:=pa3.get hx;obtain⟨⟨o,vn⟩,ev,U⟩:=O.ahH Lg g R so hv;have u:=R.up v o.1 o.2 vn;obtain⟨kk,hk,k0,k1⟩:=kC g R o.1 o.2 vn;have cl:=so.len;walk_at "";refine⟨_,Ξ.of eq,rfl,_,_,rfl,_,_,rfl,rfl,?_⟩;refine Φ c3 (Ac u.1.1 (by lia)) ?_;refine⟨p,l,t,true,m,ps,j,y,v,c v,kk,rfl,W.same s3,ν.of c3,⟨o.1,o.2,by lia⟩,u.1,hk,k1,k0,?_⟩;refine⟨_,_,⟨rfl,rfl⟩,rE c3 u.1.1 (by rw[ah];lia) (hN _ _ ⟨s3.put nl _,?_,?_,Ah mx c (bor j c) y v,_,_,?_,U,rfl⟩)⟩
  .rw[aN ac];exact e3
  .exact Paired.imp' (λa b h=>by rw[aN (fM h c3 (by intro z;cases z))];exact h) pa3
  .rw[aE,<-ee];unfold Ah bor mx;rw[hk]
   rfl
 .rintro BB C d ϓ ⟨s3,e3,pa3,y,X,Z,c3,so,rfl⟩;refine ϓ _ _ ?_;rw[ah,ql,aV,dD,fT]at so;rw[O.doneF Lg g R so]at c3;walk_at "";exact k l d nl s3 c3
def xX(T:Txt K L):Sp:=λg H Q E=>E6 λ(p t:Addr)(m:Int)(f:gf)(d:hD)(r:Int)=>g=[.ref p,.int r]/\μ T.Web H p m t f d/\(0<=r->r<m->∃a b,ε m d r a b/\∀e l c,cI m d r a b r=r::e->Order m r a e->H l=none->δ H c->c l=some (.lst (chL m (As m d r a b e)))->Q (.ref l) c)/\(¬(0<=r/\r<m)->∀c,δ H c->E (.ref T.NoPlace) none c)
abbrev qH:Stmt:=top 58
theorem NB:ζ ["web","r","weights","chosen","place","front"] ["web","r"] (aG qH):=.of
theorem yA:ώ (aG qH) "reversed":=.of (by kernel_rfl)
abbrev jb(P w base)(T:Txt K L):=Cb P w K L base "is_heavy" q9 ["web","weights","place","front"] 5 (we T)
abbrev jm(P w base)(T:Txt K L):=Cb P w K L base "least_weights" jo ["web","r"] 8 (lR T)
theorem Nv(T:Txt K L)(hq:bZ (ψ P w))(eY:i7 P w base T)(pS:jb P w base T)(fD:jm P w base T):Ok P w K L base "bearers" qH ["web","r"] 9 (xX T):=λ_ _ D=>by
 refine D.F.gT NB (by walk_at "v") λρ A ab s H vs Q E hr h=>?_;obtain⟨p,t,m,ps,f,r,rfl,W,k,e⟩:=h;have g:=W.go;have m1:=g.m1;have Ζ:=g.Ζ;obtain⟨dx,ob⟩:=W.ob;refine⟨_,(aB (Η 2 (Χ fD hr cR (aa (γ 0) (aa (γ 1) ax)))) (aB (Η 3 (bh qf (gF (aa uP ax)) (cD (γ 0) rfl))) (aB (fq PassesOwn.leaving rfl (sY yA.g T.reversed (Χ eY hr cR (aa (γ 0) (aa (γ 1) ax)))) (j1 (n:=2) rfl (cH (ϐ 4) (cH (ϐ 5) gX))) (aL (dQ (kR (Χ pS hr cR (aa (γ 0) (aa (γ 2) (aa (γ 4) (aa (γ 5) ax)))))) (aL (nz (γ 4) (oW (γ 3) (γ 5) iR))) cY))) (aL (bJ (γ 3)))))),?_⟩;walk_at "s";walk_at "";refine⟨p,t,m,ps,f,r,?_⟩;refine an4 rfl W (λr0 r1=>?_) e;obtain⟨c,d,R,k⟩:=k r0 r1;refine⟨c,d,R,λU H0 nw X ew=>⟨dz (by simp),λZ n0=>?_⟩⟩;have J:=δ.new (.lst [V.ο]) n0;refine⟨T.Web,dx,_,J _ _ (X _ _ ob),T.iw,T.Κ,_,fU m t,?_⟩;refine⟨Z,m,_,rfl,rfl,aE,by lia,by lia,dz (by simp;lia),λl M=>?_⟩;rw[GF];have s2:=J.trans (δ.new (.lst (List.replicate m.toNat V.ο)) M);have nl:=(X.trans J).free M;have ar:U≠l:=λz=>by rw[<-z,J _ _ ew]at M;cases M
 have el:chL m (λ_=>none)=List.replicate m.toNat V.ο:=by
  unfold chL;rw[List.map_const',cq]
  rfl
 have e1:upd (upd H0 Z (.lst [V.ο])) l (.lst (List.replicate m.toNat V.ο)) l=some (.lst (chL m (As m f r c d []))):=by rw[aE,<-el];rfl
 generalize upd (upd H0 Z (.lst [V.ο])) l (.lst (List.replicate m.toNat V.ο))=H1 at s2 e1 ⊢;have C:=X.trans s2;have aS:=s2 _ _ ew;refine⟨p,t,m,ps,f,r,?_⟩;refine an4 rfl (W.same C) (λ_ _=>⟨c,d,R,λl2 B y H2 au n2 s3 e2 pa O=>?_⟩) (λz=>absurd ⟨r0,r1⟩ z);have aC:l2≠l:=λz=>by rw[z,e1]at n2;cases n2
 refine⟨l2,rfl,_,ν.of e2,?_⟩;have ql:B.length=y.reverse.length:=Paired.length pa;have ll:((dP m f r c d).length:Int)=m:=by rw[qK];lia
 refine qy (K:=K) (xs:=B.map V.ref) (λi I j=>δ H j/\j U=some (.lst ((dP m f r c d).map V.int))/\j l2=some (.lst (B.map V.ref))/\Α j c B y.reverse/\∃(v4 v5:Option V),j l=some (.lst (chL m (As m f r c d (y.take i))))/\I=[some (V.ref p),some (V.int r),some (V.ref U),some (V.ref l),v4,v5]) ⟨C.trans s3,s3 _ _ aS,e2,pa,_,_,s3 _ _ e1,rfl⟩ (λi I j _ z=>ν.of z.2.2.1) ?_ ?_
 .rintro i x I j N hN hx ⟨s4,w3,e3,pa3,v4,v5,c3,rfl⟩;have il:=(aD.mp hx).1;rw[aV,ah]at il;rw[aV]at ql;rw[cw (by rw[ah];exact il),ah]at hx;obtain⟨q,v,rfl,bv,hv,eq⟩:=pa3.get hx;rw[cw (by lia),show y.length-1-(B.length-1-i)=i by lia]at hv;have vm:=aO hv;have o:=O.Ι v vm;have vn:=O.ne vm;have u:=R.up v o.1 o.2 vn;obtain⟨Y,hk,k0,k1⟩:=kC g R o.1 o.2 vn;have ek:tup f c v=Y:=by unfold tup;rw[hk];rfl
  walk_at "";refine⟨_,Ξ.of eq,rfl,_,_,rfl,_,_,rfl,rfl,?_⟩;refine⟨p,U,t,m,ps,f,dP m f r c d,v,c v,Y,rfl,W.same s4,ν.of w3,ll,o,u.1,hk,k1,k0,_,rfl,?_⟩;rw[gZ o.1 o.2,gZ u.1.1 u.1.2];have G:y.take (i+1)=y.take i++[v]:=by rw[bI,hv];rfl
  by_cases S:υ m f r c d v*Y=υ m f r c d (c v)
  .rw[aj (bq S)];refine rE c3 u.1.1 (by unfold chL;rw[ah,cq];lia) ?_;rw[VB u.1.1 u.1.2];exact hN _ _ ⟨s4.put nl _,by rw[aN ar];exact w3,by rw[aN aC];exact e3,Paired.imp' (λa b h=>by rw[aN (fM h c3 (by intro z;cases z))];exact h) pa3,_,_,by rw[aE,G,P7 (by rw[ek];exact S)],rfl⟩
  .rw[ag (by rw[b8 S];decide)];exact hN _ _ ⟨s4,w3,e3,pa3,_,_,by rw[G,OL (by rw[ek];exact S)];exact c3,rfl⟩
 .rintro I j ⟨s4,w3,e3,pa3,v4,v5,c3,rfl⟩;rw[aV]at ql;rw[ah,ql,bL]at c3;walk_at "";exact k y l j au O nl s4 c3
def sA(T:Txt K L):Sp:=λd H Q _=>∃(a:Addr)(c:fc),d=[.ref a]/\ν K H a (c.map V.int)/\c.length<=1000/\∀l b,H l=none->δ H b->b l=some (.lst ((ϧ c).map V.int))->Q (.ref l) b
abbrev kH:Stmt:=top 64
theorem wx:ζ ["values","found","row"] ["values"] (aG kH):=.of
theorem zr:NmL (aG kH) "row":=.of (by kernel_rfl)
theorem zh:ώ (aG kH) "zip":=.of (by kernel_rfl)
theorem EG(T:Txt K L)(hq:bZ (ψ P w)):Ok P w K L base "differences" kH ["values"] 1 (sA T):=λ_ _ D=>by
 refine D.F.ϖ wx (by walk_at "v") λρ A Z s H vs Q E hr h=>?_;obtain⟨a,xs,rfl,ha,xl,k⟩:=h;refine⟨_,(aB (Η 1 (gF ax)) (aB (Η 2 (pct oX T.list (aa (γ 0) ax))) (aB (rX PassesOwn.never (u9 (γ 2) (λ_=>rfl)) (aB (eM (nN PySem.F.plainAttrs_list PySem.F.slot_list_append PySem.F.type_list_append ic (γ 1) (aa (Ο bX (γ 2) aQ) ax))) (aL (xR (i:=2) wx.nd rfl zr.l rfl (xZ (Nc:=["earlier","later"]) 2 (by decide +kernel) (by decide +kernel) rfl (by decide +kernel) rfl) (OB true true zh.g T.zip (aa (γ 2) (aa (Sl Vm (γ 2) (U1 aQ) Vr) ax))) (λ_ _ _ _=>(zV K rfl (n:=2) rfl (cH (f9 (i:=0) (show(["earlier","later"]:gy).Nodup from by decide +kernel) rfl (Or.inl rfl)) (cH (f9 (i:=1) (show(["earlier","later"]:gy).Nodup from by decide +kernel) rfl (Or.inl rfl)) gX)))) (λ_ _ _ _=>kj) (λ_ _ _ _=>(bh f8 (pv 1) (pv 0))))))) (aL (bJ (γ 1)))))),?_⟩;walk_at "s";unfold tSl Ux acG;refine eZ λN0 h0=>?_;walk_at "";refine⟨dz (by simp),λl nl=>h0 _ _ (eZ λN1 h1=>?_)⟩;have s1:=δ.new (HO.lst []) nl;have e1:upd H l (HO.lst []) l=some (.lst (([]:fc).map V.int)):=aE;generalize upd H l (HO.lst [])=H1 at s1 e1 ⊢;walk_at "";refine⟨_,.inl (s1.seq ha),λq nq=>h1 _ _ (eZ λN2 h2=>?_)⟩;have s2:=δ.new (HO.lst (xs.map V.int)) nq;have e2:upd H1 q (HO.lst (xs.map V.int)) q=some (.lst (xs.map V.int)):=aE;have J:=s2 _ _ e1;have G:=s1.trans s2;have C:q≠l:=λz=>by rw[z,e1]at nq;cases nq
 generalize upd H1 q (HO.lst (xs.map V.int))=H2 at G e2 J ⊢;refine wW (λn y j=>E3 λ(f Y:fc)(q:Addr)=>n=f.length/\Y++ϧ f=ϧ xs/\Y.length+f.length=xs.length/\q≠l/\j q=some (.lst (f.map V.int))/\j l=some (.lst (Y.map V.int))/\δ H j/\y=[some (V.ref a),some (V.ref l),some (V.ref q)]) _ ⟨xs,[],q,rfl,rfl,by simp,C,e2,J,G,rfl⟩ ?_;rintro n y j NW hN ad ⟨f,m,q,rfl,W,hl,C,e3,B,s3,rfl⟩;refine⟨_,rfl,!(f.map V.int).isEmpty,.inl ⟨_,ν.of e3,rfl⟩,?_⟩;cases f with
 | nil=>
   refine YN (h2 _ _ ?_);walk_at "";have W:m=ϧ xs:=by
    have:m++[]=ϧ xs:=W;rw[b7]at this;exact this
   exact k l j nl s3 (by rw[B,W])
 | cons x r=>
   refine VU ⟨NW,ad,?_⟩;rw[aR]at hl;refine eZ λM1 k1=>?_;walk_at "";refine⟨tyL B,Φ e3 (v:=V.int x) (dj (bw 0) rfl) (tX B (fV (by rw[ah];lia)) (k1 _ _ ?_))⟩;have e4:upd j l (HO.lst (m.map V.int++[V.int x])) l=some (.lst ((m++[x]).map V.int)):=by rw[aE,aI];rfl
   have t:upd j l (HO.lst (m.map V.int++[V.int x])) q=some (.lst ((x::r).map V.int)):=by rw[aN C];exact e3
   have s4:δ H (upd j l (HO.lst (m.map V.int++[V.int x]))):=λb o e=>by rw[aN (cG e nl)];exact s3 _ _ e
   generalize upd j l (HO.lst (m.map V.int++[V.int x]))=H4 at e4 t s4 ⊢;walk_at "";refine slI (ν.of t) λp np=>?_;have U:=δ.new (HO.lst ((ED (x::r) (some 1) none).map V.int)) np;have X:upd H4 p (HO.lst ((ED (x::r) (some 1) none).map V.int)) p=some (.lst (((x::r).drop 1).map V.int)):=by
    rw[aE,<-Ji,VY _ (by decide),List.map_drop]
    rfl
   generalize upd H4 p (HO.lst ((ED (x::r) (some 1) none).map V.int))=H5 at U X ⊢;have R:=U _ _ t;have S:=U _ _ e4;have ak:=s4.trans U;refine⟨q,p,⟨rfl,rfl⟩,⟨_,ν.of R⟩,⟨_,ν.of X⟩,λpc u=>?_⟩;refine GV (K:=K) (c:=true) (d:=true) (a:=q) (b:=p) (xs:=(x::r).map V.int) (zs:=((x::r).drop 1).map V.int) (λi O y M=>δ H5 M/\M pc=some (.lst O)/\O=((((x::r).zip ((x::r).drop 1)).take i).map λq=>q.2-q.1).map V.int/\∃v w,y=[v,w]) ⟨δ.new _ u,aE,rfl,_,_,rfl⟩ (λi O y M z=>⟨ν.of (z.1 _ _ R),ν.of (z.1 _ _ X)⟩) ?_ ?_
   .rintro i y1 y2 O y M qt N hN6 h1 h2 ⟨s6,e6,rfl,v,w,rfl⟩ nqt;obtain⟨a1,I,rfl⟩:=List.ι h1;obtain⟨a2,ac,rfl⟩:=List.ι h2;have ez:((x::r).zip ((x::r).drop 1))[i]?=some (a1,a2):=by
     rw[lU];exact⟨I,ac⟩
    have il:=(aD.mp I).1;have et:((x::r).zip ((x::r).drop 1)).take (i+1)=((x::r).zip ((x::r).drop 1)).take i++[(a1,a2)]:=(by rw[bI,ez];rfl);rw[aR]at il;walk_at "";have s7:=δ.new (HO.tup [V.int a1,V.int a2]) nqt;refine⟨_,Ξ.of aE,rfl,_,_,rfl,_,_,rfl,rfl,?_⟩;walk_at "";refine⟨s7 _ _ e6,fV (by rw[ah,ah,bE];lia),hN6 _ _ _ ⟨?_,aE,?_,_,_,rfl⟩⟩
    .exact λb o e=>by rw[aN (cG e u)];exact s7 _ _ (s6 _ _ e)
    .rw[et,aI,aI]
     rfl
   .rintro O y M ⟨s6,e6,rfl,v,w,rfl⟩;have en:((((x::r).zip ((x::r).drop 1)).take (min ((x::r).map V.int).length (((x::r).drop 1).map V.int).length)).map λq=>q.2-q.1)=nxr (x::r):=by
     unfold nxr;rw[cW];rw[jW,ah,ah];exact az _
    rw[en]at e6;have ar:H5 l≠none:=(by rw[S];intro z;cases z);exact hN _ _ _ (by rw[Ae];simp) ⟨nxr (x::r),m++[x],pc,rfl,by rw[cU,<-W,IL];rfl,by rw[aX,Ae];simp;lia,λz=>ar (by rw[<-z];exact u),e6,s6 _ _ S,ak.trans s6,rfl⟩
def lG(T:Txt K L):Sp:=λe H Q _=>E3 λ(a:Addr)(b:fc)(n:Int)=>e=[.ref a,.int n]/\ν K H a (b.map V.int)/\b.length<=100/\-100<=n/\n.natAbs<ϫ/\(∀c∈b,c.natAbs<ϫ)/\(∀k,k<b.length->(chZ n k).natAbs<ϫ)/\∀d,δ H d->Q (.int (iD b n 0)) d
abbrev iL:Stmt:=top 65
theorem AZ:ζ ["found","at","value","choices","k","difference"] ["found","at"] (aG iL):=.of
theorem An:NmL (aG iL) "value":=.of (by kernel_rfl)
theorem wI:ώ (aG iL) "enumerate":=.of (by kernel_rfl)
theorem Kb(T:Txt K L)(S:bZ (ψ P w)):Ok P w K L base "value_at" iL ["found","at"] 1 (lG T):=λ_ _ D=>by
 refine D.F.ϖ AZ (by walk_at "v") λO A p s H M Q E R h=>?_;obtain⟨a,e,n,rfl,r,J,y,I,cb,v,k⟩:=h;refine⟨_,(aB (Η 2 aQ) (aB (Η 3 aQ) (aB (fq PassesOwn.never rfl (wP true wI.g T.enumerate (γ 0)) (j1 (n:=2) rfl (cH (ϐ 4) (cH (ϐ 5) gX))) (aB (uI (i:=2) AZ.nd rfl (Or.inl An.l) (bh qF (γ 5) (γ 3)) tK) (aL (Η 3 (bh i9 (bh qF (γ 3) (bh f8 (γ 1) (γ 4))) (bh gc (γ 4) aQ)))))) (aL (bJ (γ 2)))))),?_⟩;walk_at "s";walk_at "";refine⟨⟨_,r⟩,?_⟩;refine BQ (K:=K) (c:=true) (xs:=e.map V.int) (λi f d=>δ H d/\∃j o,f=[some (V.ref a),some (V.int n),some (V.int (iD (e.take i) n 0)),some (V.int (chZ n i)),j,o]) ⟨δ.refl _,_,_,by rw[uJ,dY,pT]⟩ (λi f d z=>z.1.seq r) ?_ ?_
 .rintro i x f d q N hN hx ⟨s2,j,o,rfl⟩ nq;obtain⟨c,m,rfl⟩:=List.ι hx;have C:=(aD.mp m).1;have t:e.take (i+1)=e.take i++[c]:=by rw[bI,m];rfl
  have B:=δ.new (HO.tup [V.int (i:Int),V.int c]) nq;have G:=cb c (aO m);have b:=v i C;have u:(n-(i:Int)).natAbs<ϫ:=by
   have:(200:Nat)<ϫ:=iK (k:=8) (by decide) (by decide)
   lia
  walk_at "";refine⟨_,Ξ.of aE,rfl,_,_,rfl,_,_,rfl,rfl,c,rfl,r9 G b,(i:Int),rfl,r9 b u,(i:Int),rfl,⟨by lia,by lia⟩,hN _ _ ⟨s2.trans B,some (V.int (i:Int)),some (V.int c),?_⟩⟩;rw[<-SR,Int.mul_ediv_cancel _ (show(i:Int)+1≠0 by lia),t,SF,bE,Nat.min_eq_left (by lia),mm]
 .rintro f d ⟨s2,j,o,rfl⟩;rw[ah,bL];walk_at "";exact k d s2
def vC(T:Txt K L):Sp:=λe H Q _=>E3 λ(a:Addr)(b:fc)(n:Nat)=>e=[.ref a,.int n]/\ν K H a (b.map V.int)/\b.length<=100/\n<=100/\(∀c∈b,c.natAbs<ϫ)/\∀l d,H l=none->δ H d->d l=some (.lst (((List.range n).map λi=>Ω b i 0).map V.int))->Q (.ref l) d
abbrev m8:Stmt:=top 66
theorem DH:ζ ["found","many"] ["found","many"] (aG m8):=.of
theorem wE:ώ (aG m8) "range":=.of (by kernel_rfl)
abbrev jy(P w base)(T:Txt K L):=Cb P w K L base "value_at" iL ["found","at"] 1 (lG T)
theorem Cu(T:Txt K L)(z:bZ (ψ P w))(d:jy P w base T):Ok P w K L base "first_values" m8 ["found","many"] 2 (vC T):=λ_ _ D=>by
 refine D.F.ϖ DH (by walk_at "v") λI A l s H C Q E y h=>?_;obtain⟨a,r,n,rfl,x,u,B,cb,k⟩:=h;refine⟨_,(aL (bJ (kE rfl (clo ["at","found"] 1 [0]) (lD wE.g T.range (aa (γ 1) ax)) (λ_ _ _ _=>(f9 (i:=0) (show(["at","found"]:gy).Nodup from by decide +kernel) rfl (Or.inl rfl))) (λ_ _ _ _=>kj) (λ_ _ _ _=>(ju d.G (y.mono (by decide)) (by rfl) d.D.m d.D.F.kp d.D.b .nil (md z) (aa (pv 1) (aa (pv 0) ax))))))),?_⟩;walk_at "s";walk_at "";refine⟨by lia,by lia,λp q=>?_⟩;rw[bR];refine nK (lo:=0) (n:=n) (λi f j c=>δ H c/\c p=some (.lst f)/\f=((List.range i).map λi=>Ω r i 0).map V.int/\∃v,j=[v,some (V.ref a)]) ⟨δ.new _ q,aE,rfl,_,rfl⟩ ?_ ?_
 .rintro i f j c N hN hi ⟨s2,e2,rfl,v,rfl⟩;walk_at "";refine⟨a,r,(i:Nat),by rw[cM],s2.seq x,u,by lia,?_,cb,λk _=>(show ch i k<ϫ from YW (by lia)),λJ t=>⟨t _ _ e2,fV (by rw[ah,ah,bG];lia),hN _ _ _ ⟨?_,aE,?_,_,rfl⟩⟩⟩
  .exact(show i<ϫ from iK (k:=7) (by lia) (by decide))
  .exact λb o e=>by rw[aN (cG e q)];exact t _ _ (s2 _ _ e)
  .rw[df,aI,aI]
   rfl
 .rintro f j c ⟨s2,e2,rfl,v,rfl⟩;exact k p c q s2 e2
def uq(T:Txt K L):Sp:=λj H Q _=>E16 λ(t i w l g f:Addr)(b:List (Str×V))(m:Int)(n:gf)(d:hD)(a:fc)(h:List V)(p k c:Int)(e:Option Int)=>j=[.ref t,.int p,.int k]/\H t=some (.ins T.Tally i b)/\b.lookup ("web":Str)=some (.ref w)/\b.lookup ("weights":Str)=some (.ref g)/\b.lookup ("bearers":Str)=some (.ref f)/\μ T.Web H w m l n d/\H g=some (.lst (a.map V.int))/\(a.length:Int)=m/\H f=some (.lst h)/\(0<=p/\p<m)/\(0<=k/\k<m)/\h[p.toNat]?=some (chV e)/\ce d k p=some c/\2<=c/\c<=1000000/\Q (.bl (decide (a.getD k.toNat 0*c=a.getD p.toNat 0)&&decide (e≠some k))) H
abbrev qJ:Stmt:=top 78
theorem NQ:ζ ["tally","place","kid"] ["tally","place","kid"] (aG qJ):=.of
theorem M7(T:Txt K L)(X:bZ (ψ P w))(v:jb P w base T):Ok P w K L base "is_free" qJ ["tally","place","kid"] 6 (uq T):=λ_ _ D=>by
 refine D.F.ϖ NQ (by walk_at "v") λZ A l s H Y Q E I h=>?_;obtain⟨t,f,w,R,J,lb,g,m,S,x,a,cv,p,k,c,d,rfl,i,u,O,N,W,U,y,M,n,r,B,C,G,o,q⟩:=h;refine⟨_,(aL (bJ (Jb (Μ v I X (aa (cD (γ 0) rfl) (aa (cD (γ 0) rfl) (aa (γ 2) (aa (γ 1) ax))))) (G4 (nW pW (γ 2) (Ο bX (cD (γ 0) rfl) (γ 1)) (lY _)))))),?_⟩;walk_at "s";walk_at "";refine⟨T.Tally,f,g,i,T.di,T.Δ,_,u,T.Tally,f,g,i,T.di,T.abh,_,O,w,J,R,m,S,x,a,k,p,c,rfl,W,ν.of U,y,r,n,C,o,G,⟨_,rfl,?_⟩⟩;by_cases b:a.getD k.toNat 0*c=a.getD p.toNat 0
 .rw[aj (bq b)];refine⟨T.Tally,f,g,i,T.di,T.vF,_,N,Φ M (dj n.1 B) ⟨?_,?_⟩⟩
  .cases d<;>rfl
  .have e:(!decide (V.int k=chV d))=(decide (a.getD k.toNat 0*c=a.getD p.toNat 0)&&decide (d≠some k)):=by
    rw[bq b,iH];cases d with
    | none=>simp[chV]
    | some j=>
      by_cases z:j=k
      .subst z;simp[chV]
      .simp[chV,z,Ne.symm z]
   rw[e];exact q
 .rw[ag (by rw[bT];exact b)];rw[b8 b,jF]at q;exact q
def y8(T:Txt K L):Sp:=λg H Q _=>E5 λ(a b:Addr)(d e:fc)(n:Nat)=>g=[.ref a,.ref b,.int n]/\ν K H a (d.map V.int)/\ν K H b (e.map V.int)/\n<d.length/\n<e.length/\n<=100/\(∀c∈d,c.natAbs<ϫ)/\(∀c∈e,c.natAbs<ϫ)/\∀f,δ H f->Q (.int (cnv (λi=>d.getD i 0) (λi=>e.getD i 0) n)) f
abbrev qa:Stmt:=top 68
theorem Hh:ζ ["one","other","at"] ["one","other","at"] (aG qa):=.of
theorem ze:ώ (aG qa) "range":=.of (by kernel_rfl)
theorem G6(T:Txt K L)(R:bZ (ψ P w)):Ok P w K L base "parted_at" qa ["one","other","at"] 1 (y8 T):=λ_ _ D=>by
 refine D.F.ϖ Hh (by walk_at "v") λJ A r s H G Q E O h=>?_;obtain⟨a,b,c,d,n,rfl,y,B,S,I,M,C,z,k⟩:=h;refine⟨_,(aL (bJ (pcb (xw rfl) T.sum (aa (kE rfl (clo ["k","one","other","at"] 1 [0,1,2]) (lD ze.g T.range (aa (bh gc (Ϩ 2) aQ) ax)) (λ_ _ _ _=>(f9 (i:=0) (show(["k","one","other","at"]:gy).Nodup from by decide +kernel) rfl (Or.inl rfl))) (λ_ _ _ _=>kj) (λ_ _ _ _=>(bh qF (Ο (pF K rfl) (pv 1) (pv 0)) (Ο (pF K rfl) (pv 2) (bh f8 (pv 3) (pv 0)))))) ax)))),?_⟩;walk_at "s";walk_at "";refine⟨by lia,by lia,λp x=>?_⟩;rw[show((n:Int)+1).toNat=n+1 by lia];refine nK (lo:=0) (n:=n+1) (λi j q f=>δ H f/\f p=some (.lst j)/\j=((List.range i).map λk=>c.getD k 0*d.getD (n-k) 0).map V.int/\∃v,q=[v,some (V.ref a),some (V.ref b),some (V.int n)]) ⟨δ.new _ x,aE,rfl,_,rfl⟩ ?_ ?_
 .rintro i j q f N hN hi ⟨s2,e2,rfl,v,rfl⟩;walk_at "";have l:i<c.length:=by lia
  have m:n-i<d.length:=by lia
  have t:c.getD i 0=c[i]:=by rw[bo,ay l];rfl
  have u:d.getD (n-i) 0=d[n-i]:=by rw[bo,ay m];rfl
  refine⟨a,_,_,_,rfl,rfl,s2.seq y,dj (v:=V.int (c.getD i 0)) (by lia) (by rw[show((0:Int)+(i:Int)).toNat=i by lia,aJ,ay l,t];rfl),b,_,_,_,rfl,rfl,s2.seq B,dj (v:=V.int (d.getD (n-i) 0)) (by lia) (by rw[show((n:Int)-(0+(i:Int))).toNat=n-i by lia,aJ,ay m,u];rfl),c.getD i 0,rfl,d.getD (n-i) 0,rfl,r9 (by rw[t];exact C _ (eT l)) (by rw[u];exact z _ (eT m)),e2,fV (by rw[ah,ah,bG];lia),hN _ _ _ ⟨?_,aE,?_,_,rfl⟩⟩
  .exact λb o e=>by rw[aN (cG e x)];exact s2 _ _ e
  .rw[df,aI,aI]
   rfl
 .rintro j q f ⟨s2,e2,rfl,v,rfl⟩;refine⟨p,rfl,_,.inl (ν.of e2),?_⟩;rw[L3];exact k f s2
def Fd(T:Txt K L):Sp:=λg H Q _=>E4 λ(a b:Addr)(d e:fc)=>g=[.ref a,.ref b]/\ν K H a (d.map V.int)/\ν K H b (e.map V.int)/\d.length<=e.length/\d.length<=100/\(∀c∈d,c.natAbs<ϫ)/\(∀c∈e,c.natAbs<ϫ)/\∀l f,H l=none->δ H f->f l=some (.lst (((List.range d.length).map λn=>cnv (λi=>d.getD i 0) (λi=>e.getD i 0) n).map V.int))->Q (.ref l) f
abbrev uF:Stmt:=top 67
theorem O7:ζ ["one","other"] ["one","other"] (aG uF):=.of
theorem CH:ώ (aG uF) "range":=.of (by kernel_rfl)
theorem Qz(T:Txt K L)(C:bZ (ψ P w))(d:Cb P w K L base "parted_at" qa ["one","other","at"] 1 (y8 T)):Ok P w K L base "parted" uF ["one","other"] 2 (Fd T):=λ_ _ D=>by
 refine D.F.ϖ O7 (by walk_at "v") λR A q s H M Q E y h=>?_;obtain⟨a,b,j,u,rfl,t,B,J,O,I,z,k⟩:=h;refine⟨_,(aL (bJ (kE rfl (clo ["at","one","other"] 1 [0,1]) (lD CH.g T.range (aa (pcb m3 T.len (aa (Ϩ 0) ax)) ax)) (λ_ _ _ _=>(f9 (i:=0) (show(["at","one","other"]:gy).Nodup from by decide +kernel) rfl (Or.inl rfl))) (λ_ _ _ _=>kj) (λ_ _ _ _=>(ju d.G (y.mono (by decide)) (by rfl) d.D.m d.D.F.kp d.D.b .nil (md C) (aa (pv 1) (aa (pv 2) (aa (pv 0) ax)))))))),?_⟩;walk_at "s";walk_at "";refine⟨_,.inl t,?_⟩;rw[ah];refine⟨by lia,by lia,λp r=>?_⟩;rw[bR];refine nK (lo:=0) (n:=j.length) (λi f l c=>δ H c/\c p=some (.lst f)/\f=((List.range i).map λn=>cnv (λi=>j.getD i 0) (λi=>u.getD i 0) n).map V.int/\∃v,l=[v,some (V.ref a),some (V.ref b)]) ⟨δ.new _ r,aE,rfl,_,rfl⟩ ?_ ?_
 .rintro i f l c N hN hi ⟨s2,e2,rfl,v,rfl⟩;walk_at "";refine⟨a,b,j,u,i,by rw[cM],s2.seq t,s2.seq B,hi,by lia,by lia,I,z,λS x=>⟨x _ _ e2,fV (by rw[ah,ah,bG];lia),hN _ _ _ ⟨?_,aE,?_,_,rfl⟩⟩⟩
  .exact λb o e=>by rw[aN (cG e r)];exact x _ _ (s2 _ _ e)
  .rw[df,aI,aI]
   rfl
 .rintro f l c ⟨s2,e2,rfl,v,rfl⟩;exact k p c r s2 e2
def sQ(T:Txt K L):Sp:=λg H Q _=>E12 λ(t f w d:Addr)(b:List (Str×V))(m:Int)(e:gf)(a:hD)(p k c:Int)(n:Nat)=>g=[.ref t,.int p,.int k,.int n]/\H t=some (.ins T.Tally f b)/\b.lookup ("web":Str)=some (.ref w)/\μ T.Web H w m d e a/\(0<=p/\p<m)/\(0<=k/\k<m)/\ce a k p=some c/\2<=c/\c<=1000000/\Q (.int (((n:Int)+1)*c-1)) H
abbrev qV:Stmt:=top 81
theorem Kj:ζ ["tally","place","kid","given"] ["tally","place","kid","given"] (aG qV):=.of
theorem J5(T:Txt K L)(C:bZ (ψ P w))(o:i5 P w base T):Ok P w K L base "held_for" qV ["tally","place","kid","given"] 4 (sQ T):=λ_ _ D=>by
 refine D.F.ϖ Kj (by walk_at "v") λM A b s H I Q E u h=>?_;obtain⟨t,i,w,y,r,m,B,j,p,k,c,n,rfl,v,g,W,x,f,d,J,G,q⟩:=h;refine⟨_,(aL (bJ (bh f8 (bh mD (bh gc (γ 3) aQ) (Μ o u C (aa (cD (γ 0) rfl) (aa (γ 2) (aa (γ 1) ax))))) aQ))),?_⟩;walk_at "s";walk_at "";refine⟨T.Tally,i,r,v,T.di,T.Δ,_,g,w,y,m,B,j,k,p,rfl,W,λe _ _ _ _ a=>?_,λl=>absurd ⟨f,x⟩ l,λ_ _ _ _ a=>absurd (d.symm.trans a) (by intro z;cases z)⟩;have:e=c:=bu (a.symm.trans d);subst this;exact⟨e,rfl,.inr ⟨by lia,by lia⟩,q⟩
def uo(T:Txt K L):Sp:=λi H Q _=>E11 λ(t h g e ld:Addr)(f:List (Str×V))(b pv:List V)(p:Int)(a:fc)(n:Nat)=>i=[.ref t,.int p,.int n]/\H t=some (.ins T.Tally h f)/\f.lookup ("rests":Str)=some (.ref g)/\H g=some (.lst b)/\0<=p/\b[p.toNat]?=some (.ref e)/\H e=some (.lst (.ref ld::pv))/\H ld=some (.lst (a.map V.int))/\a.length<=100/\n<ϫ/\(∀c∈a,c.natAbs<ϫ)/\(∀k,k<a.length->ch n k<ϫ)/\∀d,δ H d->Q (.int (Ω a n 0)) d
abbrev qE:Stmt:=top 79
theorem NT:ζ ["tally","place","held"] ["tally","place","held"] (aG qE):=.of
theorem MI(T:Txt K L)(x:bZ (ψ P w))(e:jy P w base T):Ok P w K L base "ways_of" qE ["tally","place","held"] 2 (uo T):=λ_ _ D=>by
 refine D.F.ϖ NT (by walk_at "v") λz A a s H y Q E m h=>?_;obtain⟨t,f,B,G,ld,l,C,pv,p,i,n,rfl,u,d,b,j,v,r,o,g,c,cb,q,k⟩:=h;refine⟨_,(aL (bJ (Μ e m x (aa (Ο bX (oH bX (cD (γ 0) rfl) (γ 1) (λ_ _=>rfl)) aQ) (aa (γ 2) ax))))),?_⟩;walk_at "s";walk_at "";refine⟨T.Tally,f,l,u,T.di,T.ϴ,_,d,Φ b (dj j v) (Φ r (dj (bw 0) rfl) ?_)⟩;exact⟨ld,i,n,rfl,ν.of o,g,by lia,c,cb,q,k⟩
def tZ(T:Txt K L):Sp:=λj H Q _=>E18 λ(t i w l f h ld:Addr)(b:List (Str×V))(m:Int)(o:gf)(e:hD)(g pv:List V)(p k:Int)(c n:Nat)(a:fc)=>j=[.ref t,.int p,.int k,.int n]/\H t=some (.ins T.Tally i b)/\b.lookup ("web":Str)=some (.ref w)/\b.lookup ("rests":Str)=some (.ref f)/\μ T.Web H w m l o e/\(0<=p/\p<m)/\(0<=k/\k<m)/\ce e k p=some (c:Int)/\2<=c/\c<=1000000/\H f=some (.lst g)/\g[k.toNat]?=some (.ref h)/\H h=some (.lst (.ref ld::pv))/\H ld=some (.lst (a.map V.int))/\a.length<=24/\n<=24/\(∀c∈a,c.natAbs<ϫ)/\∀d,δ H d->Q (.int (Ω a (ω c n) 0)) d
abbrev oP:Stmt:=top 80
theorem Gw:ζ ["tally","place","kid","given"] ["tally","place","kid","given"] (aG oP):=.of
abbrev jM(P w base)(T:Txt K L):=Cb P w K L base "held_for" qV ["tally","place","kid","given"] 4 (sQ T)
abbrev kf(P w base)(T:Txt K L):=Cb P w K L base "ways_of" qE ["tally","place","held"] 2 (uo T)
theorem GB(T:Txt K L)(o:bZ (ψ P w))(J:jM P w base T)(N:kf P w base T):Ok P w K L base "ways_given" oP ["tally","place","kid","given"] 5 (tZ T):=λ_ _ D=>by
 refine D.F.ϖ Gw (by walk_at "v") λρ A b s H Z Q E i h=>?_;obtain⟨t,f,w,U,G,V,ld,g,m,X,y,I,pv,p,k,c,n,B,rfl,l,v,x,W,S,d,z,c2,r,u,a,R,M,Y,C,cb,q⟩:=h;refine⟨_,(aL (bJ (Μ N i o (aa (γ 0) (aa (γ 2) (aa (Μ J i o (aa (γ 0) (aa (γ 1) (aa (γ 2) (aa (γ 3) ax))))) ax)))))),?_⟩;walk_at "s";walk_at "";have e:((n:Int)+1)*(c:Int)-1=((ω c n:Nat):Int):=by
  unfold ω;have:1<=(n+1)*c:=cg (show 1<=n+1 by lia) (show 1<=c by lia);rw[kF this,jc]
  rfl
 have O:ω c n+1<=2^25:=by
  unfold ω;have h1:(n+1)*c<=25*1000000:=cg (by lia) r;have h2:(2:Nat)^25=33554432:=rfl
  lia
 refine⟨t,f,w,U,g,m,X,y,p,k,c,n,rfl,l,v,W,S,d,z,by lia,by lia,?_⟩;rw[e];exact⟨t,f,G,V,ld,g,I,pv,k,B,ω c n,rfl,l,x,u,d.1,a,R,M,by lia,iK (k:=25) (by lia) (by decide),cb,λj hj=>EA O (by lia),q⟩
def vM(H:Hp)(b:List Int->Nat)(f:List Int->Nat->Int)(e:gf)(a:List (List Int)):Prop:=Paired (λld d=>∃c:List Int,H ld=some (.lst (c.map V.int))/\ϒ (b d) c (f d)) e a
structure agn(H:Hp)(rs:hD)(m p:Int)(rv:List V)(W:Int->Nat->Int)(c d:fv)(k:Int):Prop where
 k0:0<=k
 k1:k<m
 tl:ce rs k p=some (c k:Int)
 c2:2<=c k
 c1:c k<=1000000
 wk:vY (d k) (W k)
 at_:E4 λ(lp ld:Addr)(pv:List V)(cs:fc)=>rv[k.toNat]?=some (.ref lp)/\H lp=some (.lst (.ref ld::pv))/\H ld=some (.lst (cs.map V.int))/\ϒ 15000 cs (W k)
def frK(a:fc)(b:Option Int)(c:fv)(p k:Int):Bool:=decide (a.getD k.toNat 0*(c k:Int)=a.getD p.toNat 0)&&decide (b≠some k)
def beK(a:Option Int)(k:Int):Bool:=decide (a=some k)
def AI(T:Txt K L):Sp:=λz H Q _=>E23 λ(t y w A r n u j o:Addr)(a:List (Str×V))(m:Int)(B:gf)(i:hD)(h:fc)(s x q:List V)(p:Int)(e:fc)(f:Option Int)(W:Int->Nat->Int)(c d:fv)=>z=[.ref t,.int p]/\H t=some (.ins T.Tally y a)/\a.lookup ("web":Str)=some (.ref w)/\a.lookup ("weights":Str)=some (.ref r)/\a.lookup ("bearers":Str)=some (.ref n)/\a.lookup ("kids":Str)=some (.ref u)/\a.lookup ("rests":Str)=some (.ref j)/\μ T.Web H w m A B i/\H r=some (.lst (h.map V.int))/\(h.length:Int)=m/\H n=some (.lst s)/\H u=some (.lst x)/\H j=some (.lst q)/\(0<=p/\p<m)/\s[p.toNat]?=some (chV f)/\x[p.toNat]?=some (.ref o)/\H o=some (.lst (e.map V.int))/\(∀k∈e,agn H i m p q W c d k)/\((e.map λk=>d k+1).sum:Int)<m/\∀l v b,H l=none->δ H b->b l=some (.lst (v.map V.ref))->vM b (bts d) (ς (frK h f c p) (beK f) (λk g=>W k (ω (c k) g))) v (sfx e)->Q (.ref l) b
abbrev jV:Stmt:=top 77
theorem sM:ζ ["tally","place","many","rests","kid","ways"] ["tally","place"] (aG jV):=.of
theorem Ak:NmC (aG jV) "rests":=.of (by kernel_rfl)
theorem Ct:NmC (aG jV) "kid":=.of (by kernel_rfl)
theorem Bp:NmC (aG jV) "ways":=.of (by kernel_rfl)
theorem qY:ώ (aG jV) "reversed":=.of (by kernel_rfl)
theorem AE:ώ (aG jV) "range":=.of (by kernel_rfl)
theorem Ck:ώ (aG jV) "list":=.of (by kernel_rfl)
abbrev lj(P w base)(T:Txt K L):=Cb P w K L base "is_free" qJ ["tally","place","kid"] 6 (uq T)
abbrev lN(P w base)(T:Txt K L):=Cb P w K L base "ways_given" oP ["tally","place","kid","given"] 5 (tZ T)
theorem JO(T:Txt K L)(hq:bZ (ψ P w))(kP:Cb P w K L base "differences" kH ["values"] 1 (sA T))(sF:Cb P w K L base "first_values" m8 ["found","many"] 2 (vC T))(mE:lj P w base T)(BJ:Cb P w K L base "parted" uF ["one","other"] 2 (Fd T))(jh:lN P w base T):Ok P w K L base "rests_of" jV ["tally","place"] 7 (AI T):=λ_ _ D=>by
 refine D.F.ϖ sM (by walk_at "v") λρ A cu s H vs Q E hr h=>?_;obtain⟨t,dx,w,tw,lw,lb,lk,lr,aC,fs,m,ps,rs,xs,cv,kv,rv,p,ks,ob,W,c,d,rfl,ht,fw,fg,fb,fk,fr,WA,eg,xl,eb,ek,dp,hp,bV,c3,bn,ak,dm,q⟩:=h;refine⟨_,(aB (Η 2 (cD (cD (Ϩ 0) rfl) rfl)) (aB (tG (i:=3) sM.nd rfl (Or.inr Ak.l) (gF (aa (gF (aa aQ ax)) ax))) (aB (fq PassesOwn.never rfl (sY qY.g T.reversed (Ο bX (cD (Ϩ 0) rfl) (Ϩ 1))) (f9 (i:=4) sM.nd rfl (Or.inr Ct.l)) (aB (tG (i:=5) sM.nd rfl (Or.inr Bp.l) (kE rfl (clo ["given","tally","place","kid"] 1 [0,1,4]) (lD AE.g T.range (aa (γ 2) ax)) (λ_ _ _ _=>(f9 (i:=0) (show(["given","tally","place","kid"]:gy).Nodup from by decide +kernel) rfl (Or.inl rfl))) (λ_ _ _ _=>kj) (λ_ _ _ _=>(ju jh.G (hr.mono (by decide)) (by rfl) jh.D.m jh.D.F.kp jh.D.b .nil (md hq) (aa (pv 1) (aa (pv 2) (aa (pv 3) (aa (pv 0) ax)))))))) (aL (dQ (kR (Μ mE hr hq (aa (Ϩ 0) (aa (Ϩ 1) (aa (Ϩ 4) ax))))) (aL (eM (nN PySem.F.plainAttrs_list PySem.F.slot_list_append PySem.F.type_list_append ic (Ϩ 3) (aa (Μ kP hr hq (aa (Μ BJ hr hq (aa (Ϩ 5) (aa (Μ sF hr hq (aa (Ο bX (Ϩ 3) (Du zF aQ)) (aa (γ 2) ax))) ax))) ax)) ax)))) (aL (dQ (Ϭ kG (Ϩ 4) (Ο bX (cD (Ϩ 0) rfl) (Ϩ 1))) (aL (eM (nN PySem.F.plainAttrs_list PySem.F.slot_list_append PySem.F.type_list_append ic (Ϩ 3) (aa (Μ kP hr hq (aa (kE rfl (clo ["count","rests"] 1 [3]) (iB (Ϩ 5)) (λ_ _ _ _=>(f9 (i:=0) (show(["count","rests"]:gy).Nodup from by decide +kernel) rfl (Or.inl rfl))) (λ_ _ _ _=>kj) (λ_ _ _ _=>(bh qF (pv 0) (Ο (pF K rfl) (oH (pF K rfl) (pv 1) (Du zF aQ) (λ_ _=>rfl)) aQ)))) ax)) ax)))) (aL (eM (nN PySem.F.plainAttrs_list PySem.F.slot_list_append PySem.F.type_list_append ic (Ϩ 3) (aa (kE rfl (clo ["difference","ways"] 1 [5]) (iB (Ο bX (Ϩ 3) (Du zF aQ))) (λ_ _ _ _=>(f9 (i:=0) (show(["difference","ways"]:gy).Nodup from by decide +kernel) rfl (Or.inl rfl))) (λ_ _ _ _=>kj) (λ_ _ _ _=>(bh qF (Ο (pF K rfl) (pv 1) aQ) (pv 0)))) ax)))))))))) (aL (bJ (Vw rfl qY.g T.reversed Ck.g T.list (Ϩ 3))))))),?_⟩;walk_at "s";obtain⟨dw,wb⟩:=WA.ob;refine eZ λN0 h0=>?_;walk_at "";refine⟨T.Tally,dx,fs,ht,T.di,T.Δ,_,fw,w,rfl,T.Web,dw,_,wb,T.iw,T.Κ,_,fU _ _,h0 _ _ (eZ λN1 h1=>?_)⟩;walk_at "";refine⟨dz (by simp),λq1 cc=>⟨dz (by simp),λl nl=>h1 _ _ (eZ λN2 h2=>?_)⟩⟩;have s1:=δ.new (HO.lst [V.int 1]) cc;have s2:=δ.new (HO.lst [V.ref q1]) nl;have db:H l=none:=s1.free nl;have e1:=s2 _ _ (aE (H:=H) (a:=q1) (o:=HO.lst [V.int 1]));have el:upd (upd H q1 (HO.lst [V.int 1])) l (HO.lst [V.ref q1]) l=some (.lst ([q1].map V.ref)):=aE;have ac:=s1.trans s2;generalize upd (upd H q1 (HO.lst [V.int 1])) l (HO.lst [V.ref q1])=H2 at e1 el ac ⊢;clear s1 s2 nl cc h0 h1;walk_at "";have g:=WA.go;have m1:=g.m1;have Ζ:=g.Ζ;refine⟨T.Tally,dx,fs,ac _ _ ht,T.di,T.χ,_,fk,Φ (ac _ _ ek) (dj hp.1 c3) ⟨aC,rfl,_,ν.of (ac _ _ bn),?_⟩⟩;generalize hF:ς (frK xs ob c p) (beK ob) (λk g=>W k (ω (c k) g))=F at q;have dg:∀k∈ks,vY (d k) (W k):=λk hk=>(ak k hk).wk;have cr:∀k∈ks,1<=c k/\c k<=1000000:=λk hk=>⟨aP (by decide) (ak k hk).c2,(ak k hk).c1⟩;refine qy (K:=K) (xs:=ks.map V.int) (λi I H3=>δ H H3/\(∃(Y:gf)(ld:Addr),H3 l=some (.lst ((Y++[ld]).map V.ref))/\vM H3 (bts d) F (Y++[ld]) ((List.range (i+1)).map λj=>ks.drop (ks.length-j)))/\∃v4 v5,I=[some (V.ref t),some (V.int p),some (V.int m),some (V.ref l),v4,v5]) ?_ (λi I H3 _ z=>ν.of (z.1 _ _ bn)) ?_ ?_
 .refine⟨ac,⟨[],q1,el,.cons ⟨[1],e1,?_⟩ .nil⟩,_,_,rfl⟩;have e:ks.drop (ks.length-0)=[]:=by rw[eu,dh]
  show ϒ (bts d (ks.drop (ks.length-0))) [1] (F (ks.drop (ks.length-0)));rw[e,<-hF];exact ϒ.one
 .rintro i x I H3 N hN u ⟨s3,⟨Y,ld,e3,ra⟩,v4,v5,rfl⟩;rw[<-fQ]at u;obtain⟨k,hk,rfl⟩:=List.ι u;have il:i<ks.length:=by
   have:=(aD.mp hk).1;rw[aV]at this;exact this
  have bp:ks[ks.length-1-i]?=some k:=by
   rw[cw il]at hk;exact hk
  have eS:ks.drop (ks.length-(i+1))=k::ks.drop (ks.length-i):=by
   rw[show ks.length-(i+1)=ks.length-1-i by lia,dy (by lia),(aD.mp bp).2,show ks.length-1-i+1=ks.length-i by lia]
  have km:=aO bp;have M:=ak k km;obtain⟨kp,kd,pv,cs,dd,k2,k3,kc⟩:=M.at_;have a6:∀x∈k::ks.drop (ks.length-i),x∈ks:=λx u=>by
   rw[<-eS]at u;exact cL u
  have dS:((k::ks.drop (ks.length-i)).map λk=>d k+1).sum<m.toNat:=by
   rw[<-eS];have:=uV (λk=>d k+1) ks (ks.length-(i+1))
   lia
  have er:(List.range (i+1+1)).map (λj=>ks.drop (ks.length-j))=((List.range (i+1)).map λj=>ks.drop (ks.length-j))++[k::ks.drop (ks.length-i)]:=by rw[df,aI,<-eS];rfl
  obtain⟨cS,c0,B⟩:∃cS:List Int,H3 ld=some (.lst (cS.map V.int))/\ϒ (bts d (ks.drop (ks.length-i))) cS (F (ks.drop (ks.length-i))):=by
   have:=ra;unfold vM at this;rw[df,aI]at this;obtain⟨l0,a0,h2,_,h4⟩:=CP this;have h5:=(f7 (List.append_inj' h2 rfl).2).1;rw[h5];exact h4
  generalize ks.drop (ks.length-i)=S at a6 dS er B eS;have c6:∀{y:Addr}{zs:fc},zs≠[]->H3 y=some (.lst (zs.map V.int))->y≠l:=λ{y zs} zn hy z=>by
   rw[z,e3]at hy;injection hy with hy
   injection hy with hy
   cases zs with
   | nil=>exact zn rfl
   | cons z0 zs=>
     cases Y with
     | nil=>cases(f7 hy).1
     | cons _ _=>cases(f7 hy).1
  have ab:∀(y:Addr)(ae:fc)(r:Hp),δ H3 r->r y=some (.lst (ae.map V.int))->ϒ (bts d (k::S)) ae (F (k::S))->(Y++[ld]).length<sizeLine->∀v5,tyV K "list" (V.ref l) r/\iS (V.ref l) [V.ref y] r λ_ H6=>N [some (V.ref t),some (V.int p),some (V.int m),some (V.ref l),some (V.int k),v5] H6:=by
   intro y ae r C ey cd sz v5;have R:=C _ _ e3;refine⟨tyL R,tX R (by rw[ah];exact sz) (hN _ _ ⟨λb o e=>?_,⟨Y++[ld],y,by rw[aE,aI (l₂:=[y])];rfl,?_⟩,_,_,rfl⟩)⟩
   .rw[aN (cG e db)];exact C _ _ (s3 _ _ e)
   .rw[er];have yl:y≠l:=λz=>by
     rw[z,R]at ey;injection ey with ey
     injection ey with ey
     cases ae with
     | nil=>exact cd.ne rfl
     | cons z0 zs=>
       cases Y with
       | nil=>cases(f7 ey).1
       | cons _ _=>cases(f7 ey).1
    refine uT ⟨ae,by rw[aN yl];exact ey,cd⟩ (Paired.imp' (λb kk ⟨cb,h1,h2⟩=>⟨cb,?_,h2⟩) ra);rw[aN (c6 h2.ne h1)];exact C _ _ h1
  have a5:(Y++[ld]).length<sizeLine:=by
   have:=Paired.length ra;rw[ah,bG]at this;exact fV (by have:=uV (λk=>d k+1) ks 0;have:ks.length<=(ks.map λk=>d k+1).sum:=Pu ks;lia)
  refine eZ λM1 k1=>?_;walk_at "";refine⟨by lia,by lia,λpw bv=>?_⟩;have U:∀{b:Nat}{z:Int},b<=15000->z.natAbs<=2^b->z.natAbs<ϫ:=λ{b z} hb hz=>iK hz (by lia);refine nK (lo:=0) (n:=m.toNat) (λj O I H4=>δ H3 H4/\H4 pw=some (.lst O)/\O=((List.range j).map λg=>W k (ω (c k) g)).map V.int/\∃v,I=[v,some (V.ref t),some (V.int p),some (V.int k)]) ⟨δ.new _ bv,aE,rfl,_,rfl⟩ ?_ ?_
  .rintro j O I H4 N4 hN4 hj ⟨Z,e4,rfl,v,rfl⟩;walk_at "";have f:=s3.trans Z;refine⟨t,dx,w,tw,lr,kp,kd,fs,m,ps,rs,rv,pv,p,k,c k,j,cs,by rw[cM],f _ _ ht,fw,fr,WA.same f,hp,⟨M.k0,M.k1⟩,M.tl,M.c2,M.c1,f _ _ dp,dd,f _ _ k2,f _ _ k3,kc.len,by lia,λx u=>U (az _) (kc.bt x u),λr C=>⟨C _ _ e4,fV (by rw[ah,ah,bG];lia),hN4 _ _ _ ⟨?_,aE,?_,_,rfl⟩⟩⟩
   .exact λb o e=>by rw[aN (cG e bv)];exact C _ _ (Z _ _ e)
   .rw[df,aI,aI,kc.val]
    rfl
  .rintro O I H4 ⟨Z,e4,rfl,v,rfl⟩;refine k1 _ _ ?_;have f:=s3.trans Z;have b1:∀j,j<m.toNat->(W k (ω (c k) j)).natAbs<=2^(d k*(25+20*d k)):=λj hj=>tq (Ha M.wk (aP (by decide) M.c2) M.c1 (by lia));have b2:d k*(25+20*d k)<=15000:=by
    have:=uE (d:=d) (ks:=k::S) (by lia);rw[xL]at this
    lia
   have bs:∀x∈(List.range m.toNat).map λg=>W k (ω (c k) g),x.natAbs<ϫ:=λx u=>by
    obtain⟨j,hj,rfl⟩:=aU.mp u;exact U b2 (b1 j (cQ.mp hj))
   have bS:bts d S<=15000:=uE (by rw[aq,aH]at dS;lia);have a8:∀{r:Hp},δ H4 r->Ϧ ((Y++[ld]).map V.ref) (-1)=some (V.ref ld):=λ_=>by rw[aI];exact Lu _ _
   have a2:∀x∈k::S,vY (d x) (W x):=λx u=>dg x (a6 x u);have a4:∀x∈k::S,1<=c x/\c x<=1000000:=λx u=>cr x (a6 x u);walk_at "";refine⟨t,dx,w,tw,lw,lb,fs,m,ps,rs,xs,cv,p,k,c k,ob,rfl,f _ _ ht,fw,fg,fb,WA.same f,f _ _ eg,xl,f _ _ eb,hp,⟨M.k0,M.k1⟩,bV,M.tl,by have:=M.c2;lia,by have:=M.c1;lia,⟨_,rfl,?_⟩⟩;subst hF;change if frK xs ob c p k=true then _ else _;have eN:((m.toNat:Nat):Int)=m:=bA (by lia);have aT:m.toNat<=24:=(by lia);have X:=Z _ _ e3;have ai:=Z _ _ c0;have J:((List.range m.toNat).map λg=>W k (ω (c k) g)).length=m.toNat:=(by rw[ah,bG]);by_cases hf:frK xs ob c p k=true
   .rw[aj hf];refine⟨tyL X,Φ X (a8 (δ.refl _)) ⟨ld,cS,m.toNat,by rw[eN],ν.of ai,by have:=B.len;lia,by lia,λx u=>U bS (B.bt x u),λl5 r n5 C R=>?_⟩⟩;refine⟨pw,l5,_,_,rfl,ν.of (C _ _ e4),ν.of R,by rw[J,ah,bG];exact az _,by rw[J];lia,bs,λx u=>?_,λl6 H6 n6 s6 e6=>?_⟩
    .obtain⟨j,hj,rfl⟩:=aU.mp u;rw[B.val];exact U (aP (Er d S) bS) (tq (FN aT (λx u=>a2 x (.tail _ u)) (λx u=>a4 x (.tail _ u)) j (cQ.mp hj)))
    .refine⟨l6,_,rfl,ν.of e6,by rw[ah,bG,J];lia,λl7 H7 n7 s7 e7=>(ab l7 _ H7 (Z.trans (C.trans (s6.trans s7))) e7 ?_ a5 _).2⟩;refine PU aT a2 a4 dS ?_;rw[J];refine bH λn hn=>?_;have hn:=cQ.mp hn;rw[uO hf];exact PH (λi hi=>Bx (by lia)) λi hi=>by rw[Bx (by lia),B.val]
   .rw[ag hf];refine⟨T.Tally,dx,fs,f _ _ ht,T.di,T.vF,_,fb,Φ (f _ _ eb) (dj hp.1 bV) ⟨by cases ob<;>rfl,?_⟩⟩;obtain⟨rS,eh⟩:=B.head;by_cases hb:ob=some k
    .rw[aj (by rw[hb];rfl)];have a3:beK ob k=true:=bq hb;refine⟨tyL X,⟨_,ν.of e4⟩,λpc ad=>?_⟩;refine vc (K:=K) (c:=true) (a:=pw) (xs:=((List.range m.toNat).map λg=>W k (ω (c k) g)).map V.int) (λj O I r=>δ H4 r/\r pc=some (.lst O)/\O=((((List.range m.toNat).map λg=>W k (ω (c k) g)).take j).map λx=>x*ς (frK xs ob c p) (beK ob) (λk g=>W k (ω (c k) g)) S 0).map V.int/\∃v,I=[v,some (V.ref l)]) ⟨δ.new _ ad,aE,rfl,_,rfl⟩ (λj O I r _ ⟨z,_⟩=>ν.of (z _ _ e4)) ?_ ?_
     .rintro j x O I r N5 hN5 hj ⟨C,R,rfl,v,rfl⟩;obtain⟨z,hz,rfl⟩:=List.ι hj;have et:((List.range m.toNat).map λg=>W k (ω (c k) g)).take (j+1)=((List.range m.toNat).map λg=>W k (ω (c k) g)).take j++[z]:=(by rw[bI,hz];rfl);walk_at "";refine Φ (C _ _ X) (a8 (δ.refl _)) (Φ (v:=V.int (ς (frK xs ob c p) (beK ob) (λk g=>W k (ω (c k) g)) S 0)) (C _ _ ai) (dj (bw 0) (by rw[eh];rfl)) ⟨_,rfl,r9 (bs z (aO hz)) (U bS (B.bt _ (by rw[eh];exact .head _))),R,fV (by rw[ah,ah,bE,J];lia),hN5 _ _ _ ⟨?_,aE,?_,_,rfl⟩⟩)
      .exact λb o e=>by rw[aN (cG e ad)];exact C _ _ e
      .rw[et,aI,aI]
       rfl
     .rintro O I r ⟨C,R,rfl,v,rfl⟩;rw[ah,J,cW (by rw[J];exact az _)]at R;refine⟨pc,_,rfl,ν.of R,by rw[ah,J];lia,λl7 H7 n7 s7 e7=>(ab l7 _ H7 (Z.trans (C.trans s7)) e7 ?_ a5 _).2⟩;refine PU aT a2 a4 dS ?_;rw[iG];refine bH λn hn=>?_;rw[uS hf a3]
      rfl
    .rw[ag (λz=>hb (by cases ob with
      | none=>cases z
      | some j=>injection z with z;rw[z]))]
     have a3:¬beK ob k=true:=(by unfold beK;rw[bT];exact hb);have ef:m.toNat=(m.toNat-1)+1:=(by lia);have w0:∀{r:Hp},δ H4 r->r pw=some (.lst (((List.range m.toNat).map λg=>W k (ω (c k) g)).map V.int)):=λs=>s _ _ e4;have a0:Ϧ (((List.range m.toNat).map λg=>W k (ω (c k) g)).map V.int) 0=some (V.int (W k (ω (c k) 0))):=dj (bw 0) (by
      show(((List.range m.toNat).map λg=>W k (ω (c k) g)).map V.int)[0]?=_;rw[aJ,aJ,eR (by lia)]
      rfl)
     refine⟨tyL X,Φ X (a8 (δ.refl _)) ⟨ld,rfl,⟨_,ν.of ai⟩,λpc ad=>?_⟩⟩;refine vc (K:=K) (c:=true) (a:=ld) (xs:=cS.map V.int) (λj O I r=>δ H4 r/\r pc=some (.lst O)/\O=((cS.take j).map λx=>W k (ω (c k) 0)*x).map V.int/\∃v,I=[v,some (V.ref pw)]) ⟨δ.new _ ad,aE,rfl,_,rfl⟩ (λj O I r _ ⟨z,_⟩=>ν.of (z _ _ ai)) ?_ ?_
     .rintro j x O I r N5 hN5 hj ⟨C,R,rfl,v,rfl⟩;obtain⟨z,hz,rfl⟩:=List.ι hj;have et:cS.take (j+1)=cS.take j++[z]:=(by rw[bI,hz];rfl);have cl:=B.len;walk_at "";refine Φ (w0 C) a0 ⟨_,rfl,r9 (U b2 (b1 0 (by lia))) (U bS (B.bt z (aO hz))),R,fV (by rw[ah,ah,bE];lia),hN5 _ _ _ ⟨?_,aE,?_,_,rfl⟩⟩
      .exact λb o e=>by rw[aN (cG e ad)];exact C _ _ e
      .rw[et,aI,aI]
       rfl
     .rintro O I r ⟨C,R,rfl,v,rfl⟩;rw[ah,bL]at R;exact(ab pc _ r (Z.trans C) R (VQ M.wk (aP (by decide) M.c2) M.c1 hf a3 B) a5 _).2
 .rintro I H3 ⟨s3,⟨Y,ld,e3,ra⟩,v4,v5,rfl⟩;refine h2 _ _ ?_;unfold UC;walk_at "";rw[ah]at ra;refine⟨_,ν.of e3,λl2 bl=>?_⟩;have Z:=δ.new (HO.lst ((Y++[ld]).map V.ref).reverse) bl;refine q l2 (Y++[ld]).reverse _ (s3.free bl) (s3.trans Z) (by rw[aE,fQ]) ?_;have e:sfx ks=((List.range (ks.length+1)).map λj=>ks.drop (ks.length-j)).reverse:=by rw[<-LB,nF]
  rw[e];exact Mf (Paired.imp' (λb kk ⟨cb,h1,h2⟩=>⟨cb,Z _ _ h1,h2⟩) ra)
def mf(p ld a c d b:Addr):List (Str×V):=bj "rests" (.ref b) (bj "kids" (.ref d) (bj "bearers" (.ref c) (bj "weights" (.ref a) (bj "down" (.ref ld) (bj "web" (.ref p) [])))))
theorem qb(p ld b c d a:Addr):(mf p ld b c d a).lookup ("rests":Str)=some (.ref a):=by
 unfold mf;rw[b5,aj rfl]
theorem qU(p ld b d a c:Addr):(mf p ld b d a c).lookup ("kids":Str)=some (.ref a):=by
 unfold mf;rw[b5,ag (by decide +kernel),b5,aj rfl]
theorem yg(p ld b a d c:Addr):(mf p ld b a d c).lookup ("bearers":Str)=some (.ref a):=by
 unfold mf;rw[b5,ag (by decide +kernel),b5,ag (by decide +kernel),b5,aj rfl]
theorem ye(p ld a c d b:Addr):(mf p ld a c d b).lookup ("weights":Str)=some (.ref a):=by
 unfold mf;rw[b5,ag (by decide +kernel),b5,ag (by decide +kernel),b5,ag (by decide +kernel),b5,aj rfl]
theorem rH(p ld a c d b:Addr):(mf p ld a c d b).lookup ("down":Str)=some (.ref ld):=by
 unfold mf;rw[b5,ag (by decide +kernel),b5,ag (by decide +kernel),b5,ag (by decide +kernel),b5,ag (by decide +kernel),b5,aj rfl]
theorem qR(p ld a c d b:Addr):(mf p ld a c d b).lookup ("web":Str)=some (.ref p):=by
 unfold mf;rw[b5,ag (by decide +kernel),b5,ag (by decide +kernel),b5,ag (by decide +kernel),b5,ag (by decide +kernel),b5,ag (by decide +kernel),b5,aj rfl]
def ϡ(m:Int)(c:hD)(r:Int)(a:fm)(b:fv)(d:fc)(k:Int):Bool:=decide (υ m c r a b k*tup c a k=υ m c r a b (a k))&&decide (As m c r a b d (a k)≠some k)
def ϩ(m:Int)(d:hD)(r:Int)(a:fm)(b:fv)(c:fc)(k:Int):Bool:=decide (As m d r a b c (a k)=some k)
def cK(b:hD)(a:fm)(k:Int):Nat:=(tup b a k).toNat
def dO(m:Int)(c:hD)(r:Int)(a:fm)(b:fv)(d:fc)(v:Int):Nat->Int:=wy m c r a b (ϡ m c r a b d) (ϩ m c r a b d) (cK c a) v
structure ϙ(C O:Addr)(H:Hp)(o p t:Addr)(m:Int)(ps:gf)(rs:hD)(r:Int)(par:fm)(dep:fv)(tl:fc)(ld lw lb lk lr:Addr)(kl:gf)(rv:List V)(S:Int->Prop):Prop where
 ob:∃dx,H o=some (.ins O dx (mf p ld lw lb lk lr))
 web:μ C H p m t ps rs
 rt:ε m rs r par dep
 et:cI m rs r par dep r=r::tl
 or:Order m r par tl
 hd:H ld=some (.lst ((cI m rs r par dep r).map V.int))
 hw:H lw=some (.lst ((dP m rs r par dep).map V.int))
 hb:H lb=some (.lst (chL m (As m rs r par dep tl)))
 hk:H lk=some (.lst (kl.map V.ref))
 kp:Paired (λa v=>H a=some (.lst ((kd m rs r par v).map V.int))) kl (bM m.toNat)
 hr:H lr=some (.lst rv)
 rl:rv.length=m.toNat
 rn:∀x∈rv,x=.ο\/∃a,x=.ref a
 Ϝ:∀v,S v->0<=v/\∃(lp:Addr)(ϳ:gf),rv[v.toNat]?=some (.ref lp)/\lp≠lr/\H lp=some (.lst (ϳ.map V.ref))/\vM H (bts (Bv m rs r par dep)) (ς (ϡ m rs r par dep tl) (ϩ m rs r par dep tl) (λk g=>dO m rs r par dep tl k (ω (cK rs par k) g))) ϳ (sfx (kd m rs r par v))
theorem ϙ.same{C O:Addr}{H d:Hp}{o p t:Addr}{m:Int}{s:gf}{f:hD}{r:Int}{par:fm}{c:fv}{tl:fc}{ld l j n i:Addr}{g:gf}{k:List V}{S:Int->Prop}(e:δ H d)(h:ϙ C O H o p t m s f r par c tl ld l j n i g k S):ϙ C O d o p t m s f r par c tl ld l j n i g k S where
 ob:=let ⟨dx,q⟩:=h.ob;⟨dx,e _ _ q⟩
 web:=h.web.same e
 rt:=h.rt
 et:=h.et
 or:=h.or
 hd:=e _ _ h.hd
 hw:=e _ _ h.hw
 hb:=e _ _ h.hb
 hk:=e _ _ h.hk
 kp:=Paired.imp' (λ_ _ z=>e _ _ z) h.kp
 hr:=e _ _ h.hr
 rl:=h.rl
 rn:=h.rn
 Ϝ:=λv hv=>let ⟨v0,lp,ϳ,h1,h2,h3,h4⟩:=h.Ϝ v hv;⟨v0,lp,ϳ,h1,h2,e _ _ h3,Paired.imp' (λ_ _ ⟨u,a,b⟩=>⟨u,e _ _ a,b⟩) h4⟩
theorem μ.adp{C O:Addr}{H c:Hp}{o p:Addr}{m:Int}{t b:Addr}{d:gf}{f:hD}(e:Kpt o H c)(a:H o=some (.ins O b []))(h:μ C H p m t d f):μ C c p m t d f:=⟨let ⟨b,q⟩:=h.ob;⟨b,e _ _ q (fM q a (by intro z;cases z))⟩,e _ _ h.tu (fM h.tu a (by intro z;cases z)),Paired.imp' (λq x z=>e _ _ z (fM z a (by intro z;cases z))) h.ro,h.go⟩
theorem ϙ.put{C O:Addr}{H:Hp}{o p t:Addr}{m:Int}{ps:gf}{j:hD}{r:Int}{a:fm}{i:fv}{G:fc}{ld R N X d:Addr}{M:gf}{A:List V}{S:Int->Prop}(h:ϙ C O H o p t m ps j r a i G ld R N X d M A S)(ω:ld≠d)(Z:R≠d)(T:N≠d)(Q:X≠d)(U:∀q∈M,q≠d){v:Int}(v0:0<=v)(v1:v<m)(hS:∀c,S c->c≠v){l:Addr}{B:gf}(nl:l≠d)(hl:H l=some (.lst (B.map V.ref)))(ra:vM H (bts (Bv m j r a i)) (ς (ϡ m j r a i G) (ϩ m j r a i G) (λk g=>dO m j r a i G k (Pb.ω (cK j a k) g))) B (sfx (kd m j r a v))):ϙ C O (upd H d (.lst (A.set v.toNat (.ref l)))) o p t m ps j r a i G ld R N X d M (A.set v.toNat (.ref l)) (λc=>c=v\/S c):=by
 have vm:v.toNat<A.length:=by rw[h.rl];lia
 have ne:∀{y:Addr}{s:fc},s≠[]->H y=some (.lst (s.map V.int))->y≠d:=λ{y s} cn hy z=>by
  rw[z,h.hr]at hy;injection hy with hy
  injection hy with hy
  cases s with
  | nil=>exact cn rfl
  | cons c0 s=>
    rcases h.rn (.int c0) (by rw[hy];exact .head _)with e|⟨_,e⟩<;>cases e
 have up:∀{b:Addr}{x:HO},H b=some x->b≠d->upd H d (.lst (A.set v.toNat (.ref l))) b=some x:=λe n=>by rw[aN n];exact e
 have D:∀{B:gf}{E:List (List Int)}{b:List Int->Nat}{f:List Int->Nat->Int},vM H b f B E->vM (upd H d (.lst (A.set v.toNat (.ref l)))) b f B E:=λJ=>Paired.imp' (λy kk ⟨s,I,F⟩=>⟨s,up I (ne F.ne I),F⟩) J;obtain⟨dx,ob⟩:=h.ob;have W:=h.web;obtain⟨dw,wb⟩:=W.ob;refine⟨⟨dx,up ob (fM ob h.hr (by intro z;cases z))⟩,⟨⟨dw,up wb (fM wb h.hr (by intro z;cases z))⟩,up W.tu (fM W.tu h.hr (by intro z;cases z)),Paired.imp' (λq x e=>up e (fM e h.hr (by intro z;cases z))) W.ro,W.go⟩,h.rt,h.et,h.or,up h.hd ω,up h.hw Z,up h.hb T,up h.hk Q,wH (λq x hq e=>up e (U q hq)) h.kp,aE,by rw[b4];exact h.rl,λx Y=>?_,λu hu=>?_⟩
 .rcases iQ Y with Y|rfl
  .exact h.rn x Y
  .exact .inr ⟨l,rfl⟩
 .rcases hu with rfl|hu
  .exact⟨v0,l,B,da vm,nl,up hl nl,D ra⟩
  .obtain⟨u0,lp,anh,I,F,h3,h4⟩:=h.Ϝ u hu;refine⟨u0,lp,anh,?_,F,up h3 F,D h4⟩;rw[cT (by have:=hS u hu;lia)];exact I
def mV(T:Txt K L):Sp:=λh H Q _=>E8 λ(o g p t:Addr)(m:Int)(f:gf)(e:hD)(r:Int)=>h=[.ref o,.ref p,.int r]/\H o=some (.ins T.Tally g [])/\μ T.Web H p m t f e/\(0<=r/\r<m)/\∃c a,ε m e r c a/\∀s ld n k q j i l d,ϙ T.Web T.Tally d o p t m f e r c a s ld n k q j i l (λv=>0<=v/\v<m)->(∀b x,H b=some x->b≠o->d b=some x)->Q .ο d
abbrev fF:Stmt:=EM (top 76) 0
theorem Av:ζ ["self","web","r","place"] ["self","web","r"] (aG fF):=.of
theorem tD:ώ (aG fF) "enumerate":=.of (by kernel_rfl)
theorem tT:ώ (aG fF) "reversed":=.of (by kernel_rfl)
theorem Aq(T:Txt K L)(hq:bZ (ψ P w)){f:Addr}{fd:FuncData}(F:Fun K "__init__" "Tally.__init__" fF f fd)(mw:ix P w base T)(qQ:Cb P w K L base "bearers" qH ["web","r"] 9 (xX T))(wJ:Cb P w K L base "down" wu ["web","r"] 6 (Ei T))(jH:iv P w base T)(fD:jm P w base T)(xO:Cb P w K L base "rests_of" jV ["tally","place"] 7 (AI T)):Ψ P w K L base (ψ P w) 10 f fd ["self","web","r"] (mV T):=by
 refine F.ϖ Av (by walk_at "v") λρ A cS s H vs Q E hr h=>?_;obtain⟨o,C,p,t,m,ps,B,r,rfl,ho,W,rr,par,d,R,k⟩:=h;have g:=W.go;have Ζ:=g.Ζ;refine⟨_,(aB (nQ (γ 0) (Ϩ 1) rfl) (aB (nQ (γ 0) (Μ wJ hr hq (aa (Ϩ 1) (aa (γ 2) ax))) rfl) (aB (nQ (γ 0) (Μ fD hr hq (aa (Ϩ 1) (aa (γ 2) ax))) rfl) (aB (nQ (γ 0) (Μ qQ hr hq (aa (Ϩ 1) (aa (γ 2) ax))) rfl) (aB (nQ (γ 0) (kE rfl (clo ["place","front","web"] 2 [1]) (wP true tD.g T.enumerate (Μ mw hr hq (aa (Ϩ 1) (aa (γ 2) ax)))) (λ_ _ _ _=>(zV K rfl (n:=2) rfl (cH (f9 (i:=0) (show(["place","front","web"]:gy).Nodup from by decide +kernel) rfl (Or.inl rfl)) (cH (f9 (i:=1) (show(["place","front","web"]:gy).Nodup from by decide +kernel) rfl (Or.inl rfl)) gX)))) (λ_ _ _ _=>kj) (λ_ _ _ _=>(ju jH.G (hr.mono (by decide)) (by rfl) jH.D.m jH.D.F.kp jH.D.b .nil (md hq) (aa (pv 2) (aa (pv 0) (aa (pv 1) ax)))))) rfl) (aB (nQ (γ 0) (bh qf (gF (aa uP ax)) (cD (Ϩ 1) rfl)) rfl) (aL (fq PassesOwn.never rfl (sY tT.g T.reversed (cD (γ 0) rfl)) (ϐ 3) (aL (nz (Μ xO hr hq (aa (γ 0) (aa (γ 3) ax))) (oW (cD (γ 0) rfl) (γ 3) iR))))))))))),?_⟩;walk_at "s";walk_at "";refine⟨T.Tally,C,[],ho,T.di,T.Δ,by decide,?_⟩;have k1:Kpt o H (upd H o (.ins T.Tally C (bj "web" (.ref p) []))):=Kpt.refl.put _;have o1:upd H o (.ins T.Tally C (bj "web" (.ref p) [])) o=some (.ins T.Tally C (bj "web" (.ref p) [])):=aE;generalize upd H o (.ins T.Tally C (bj "web" (.ref p) []))=H1 at k1 o1 ⊢;refine⟨p,t,m,ps,B,r,rfl,W.adp k1 ho,λ_ _=>⟨par,d,R,λld H2 n2 s2 e2 c5 cd=>?_⟩,λz=>absurd rr z⟩;dsimp only;have a9:∀{a:Addr}{G:Hp}{x:HO},G o=some x->G a=none->a≠o:=λh1 h2 z=>by rw[z,h1]at h2;cases h2
 refine⟨T.Tally,C,_,s2 _ _ o1,T.di,T.wq,by show 1<1000;decide,?_⟩;have ai:ld≠o:=a9 o1 n2;have k3:=(k1.then s2).put (.ins T.Tally C (bj "down" (.ref ld) (bj "web" (.ref p) [])));have o3:upd H2 o (.ins T.Tally C (bj "down" (.ref ld) (bj "web" (.ref p) []))) o=some (.ins T.Tally C (bj "down" (.ref ld) (bj "web" (.ref p) []))):=aE;have e3:upd H2 o (.ins T.Tally C (bj "down" (.ref ld) (bj "web" (.ref p) []))) ld=_:=(aN ai).trans e2;generalize upd H2 o (.ins T.Tally C (bj "down" (.ref ld) (bj "web" (.ref p) [])))=H3 at k3 o3 e3 ⊢;refine⟨p,t,m,ps,B,r,rfl,W.adp k3 ho,λ_ _=>⟨par,d,R,λI H4 n4 s4 e4=>?_⟩,λz=>absurd rr z⟩;refine⟨T.Tally,C,_,s4 _ _ o3,T.di,T.abh,by show 2<1000;decide,?_⟩;have au:I≠o:=a9 o3 n4;have k5:=(k3.then s4).put (.ins T.Tally C (bj "weights" (.ref I) (bj "down" (.ref ld) (bj "web" (.ref p) []))));have o5:upd H4 o (.ins T.Tally C (bj "weights" (.ref I) (bj "down" (.ref ld) (bj "web" (.ref p) [])))) o=some (.ins T.Tally C (bj "weights" (.ref I) (bj "down" (.ref ld) (bj "web" (.ref p) [])))):=aE;have bm:upd H4 o (.ins T.Tally C (bj "weights" (.ref I) (bj "down" (.ref ld) (bj "web" (.ref p) [])))) ld=_:=(aN ai).trans (s4 _ _ e3);have a8:upd H4 o (.ins T.Tally C (bj "weights" (.ref I) (bj "down" (.ref ld) (bj "web" (.ref p) [])))) I=_:=(aN au).trans e4;generalize upd H4 o (.ins T.Tally C (bj "weights" (.ref I) (bj "down" (.ref ld) (bj "web" (.ref p) []))))=H5 at k5 o5 bm a8 ⊢;refine⟨p,t,m,ps,B,r,rfl,W.adp k5 ho,λ_ _=>⟨par,d,R,λX J H6 et Or n6 s6 e6=>?_⟩,λz=>absurd rr z⟩;refine⟨T.Tally,C,_,s6 _ _ o5,T.di,T.vF,by show 3<1000;decide,?_⟩;have bk:J≠o:=a9 o5 n6;have k7:=(k5.then s6).put (.ins T.Tally C (bj "bearers" (.ref J) (bj "weights" (.ref I) (bj "down" (.ref ld) (bj "web" (.ref p) [])))));have o7:upd H6 o (.ins T.Tally C (bj "bearers" (.ref J) (bj "weights" (.ref I) (bj "down" (.ref ld) (bj "web" (.ref p) []))))) o=some (.ins T.Tally C (bj "bearers" (.ref J) (bj "weights" (.ref I) (bj "down" (.ref ld) (bj "web" (.ref p) []))))):=aE;have cn:upd H6 o (.ins T.Tally C (bj "bearers" (.ref J) (bj "weights" (.ref I) (bj "down" (.ref ld) (bj "web" (.ref p) []))))) ld=_:=(aN ai).trans (s6 _ _ bm);have b3:upd H6 o (.ins T.Tally C (bj "bearers" (.ref J) (bj "weights" (.ref I) (bj "down" (.ref ld) (bj "web" (.ref p) []))))) I=_:=(aN au).trans (s6 _ _ a8);have cm:upd H6 o (.ins T.Tally C (bj "bearers" (.ref J) (bj "weights" (.ref I) (bj "down" (.ref ld) (bj "web" (.ref p) []))))) J=_:=(aN bk).trans e6;generalize upd H6 o (.ins T.Tally C (bj "bearers" (.ref J) (bj "weights" (.ref I) (bj "down" (.ref ld) (bj "web" (.ref p) [])))))=H7 at k7 o7 cn b3 cm ⊢;have W3:=W.adp k7 ho;clear k1 k3 k5 o1 o3 o5 e2 e3 e4 bm a8 e6 s2 s4 s6 n2 n4 n6;refine⟨p,t,m,ps,B,r,rfl,W3,λ_ _=>⟨par,d,R,λla H4 n4 s4 e4=>⟨la,rfl,⟨_,ν.of e4⟩,λS a7=>?_⟩⟩,λz=>absurd rr z⟩;have fk:=s4.free a7;refine FU (K:=K) (c:=true) (xs:=oz m r par) (λi ys σ H5=>δ H4 H5/\H5 S=some (.lst ys)/\(∃kl:List Addr,ys=kl.map V.ref/\Paired (λa v=>H5 a=some (.lst ((kd m B r par v).map V.int))) kl ((bM m.toNat).take i)/\∀q∈kl,q≠S)/\∃v w,σ=[v,w,some (V.ref p)]) ⟨δ.new _ a7,aE,⟨[],rfl,.nil,by simp⟩,_,_,rfl⟩ (λi ys σ H5 z=>ν.of (z.1 _ _ e4)) ?_ ?_
 .rintro i x ys σ H5 q N hN hx ⟨s5,e5,⟨kl,rfl,pk,hkq⟩,v,w,rfl⟩ nq;have il:i<m.toNat:=by
   have:=(aD.mp hx).1;unfold oz at this
   rwa [ah,cq]at this
  have ex:x=Pb.front r par (i:Int):=by
   have:=xA (m:=m) (r:=r) (par:=par) (v:=(i:Int)) (by lia) (by lia);rw[show((i:Int)).toNat=i from rfl,hx]at this;exact bu this
  have qe:=s5 _ _ e4;have s6:=δ.new (.tup [V.int i,x]) nq;have dV:=s5.trans s6;have et:(bM m.toNat).take (i+1)=(bM m.toNat).take i++[(i:Int)]:=by rw[bI,fy il];rfl
  have fj:kl.length<=24:=by
   have:=Paired.length pk;rw[bE]at this
   lia
  walk_at "";refine⟨_,Ξ.of aE,rfl,_,_,rfl,_,_,rfl,rfl,?_⟩;refine⟨p,t,m,ps,B,i,x,rfl,W3.same (s4.trans dV),by lia,by lia,?_,λl6 H6 n6 s7 e7=>?_⟩
  .rw[ex];unfold Pb.front;split
   .exact .inl rfl
   .exact .inr ⟨_,rfl⟩
  have bp:=s6.trans s7;refine⟨bp _ _ e5,fV (by rw[ah];lia),hN _ _ _ ⟨(s5.trans bp).put a7 _,aE,⟨kl++[l6],by rw[aI];rfl,?_,λq hq=>?_⟩,_,_,rfl⟩⟩;have nk:l6≠S:=λz=>by rw[z,s6 _ _ e5]at n6;cases n6
  rotate_left
  .rcases ba.mp hq with h|h
   .exact hkq q h
   .rw[aK.mp h];exact λz=>by rw[z,s6 _ _ e5]at n6;cases n6
  rw[et];refine uT (by rw[aN nk,e7,ex]) (wH (λq v hq h=>?_) pk);have e:q≠S:=λz=>hkq q hq z;rw[aN e];exact bp _ _ h
 .rintro ys σ H5 ⟨s5,e5,⟨kl,rfl,pk,hkq⟩,v,w,rfl⟩;rw[show(oz m r par).length=m.toNat by unfold oz;rw[ah,cq],cW (by rw[cq];exact az _)]at pk;have o5:=s5 _ _ (s4 _ _ o7);have k5:=(k7.then s4).then s5;have bn:=s4.trans s5;refine⟨T.Tally,C,_,o5,T.di,T.χ,by show 4<1000;decide,by decide,λl1 n1=>?_⟩;have ca:S≠o:=λz=>by rw[z,o5]at e5;cases e5
  have k6:=k5.put (.ins T.Tally C (bj "kids" (.ref S) (bj "bearers" (.ref J) (bj "weights" (.ref I) (bj "down" (.ref ld) (bj "web" (.ref p) []))))));have o6:upd H5 o (.ins T.Tally C (bj "kids" (.ref S) (bj "bearers" (.ref J) (bj "weights" (.ref I) (bj "down" (.ref ld) (bj "web" (.ref p) [])))))) o=some (.ins T.Tally C (bj "kids" (.ref S) (bj "bearers" (.ref J) (bj "weights" (.ref I) (bj "down" (.ref ld) (bj "web" (.ref p) [])))))):=aE;have e6:upd H5 o (.ins T.Tally C (bj "kids" (.ref S) (bj "bearers" (.ref J) (bj "weights" (.ref I) (bj "down" (.ref ld) (bj "web" (.ref p) [])))))) S=_:=(aN ca).trans e5;have a1:upd H5 o (.ins T.Tally C (bj "kids" (.ref S) (bj "bearers" (.ref J) (bj "weights" (.ref I) (bj "down" (.ref ld) (bj "web" (.ref p) [])))))) ld=_:=(aN ai).trans (bn _ _ cn);have a2:upd H5 o (.ins T.Tally C (bj "kids" (.ref S) (bj "bearers" (.ref J) (bj "weights" (.ref I) (bj "down" (.ref ld) (bj "web" (.ref p) [])))))) I=_:=(aN au).trans (bn _ _ b3);have am:upd H5 o (.ins T.Tally C (bj "kids" (.ref S) (bj "bearers" (.ref J) (bj "weights" (.ref I) (bj "down" (.ref ld) (bj "web" (.ref p) [])))))) J=_:=(aN bk).trans (bn _ _ cm);have a0:Paired (λa v=>upd H5 o (.ins T.Tally C (bj "kids" (.ref S) (bj "bearers" (.ref J) (bj "weights" (.ref I) (bj "down" (.ref ld) (bj "web" (.ref p) [])))))) a=some (.lst ((kd m B r par v).map V.int))) kl (bM m.toNat):=Paired.imp' (λq v h=>by rw[aN (fM h o5 (by intro z;cases z))];exact h) pk;generalize upd H5 o (.ins T.Tally C (bj "kids" (.ref S) (bj "bearers" (.ref J) (bj "weights" (.ref I) (bj "down" (.ref ld) (bj "web" (.ref p) []))))))=H6 at k6 o6 e6 a1 a2 am a0 n1 ⊢;have s7:=δ.new (.lst [V.ο]) n1;obtain⟨d1,ci⟩:=(W.adp k6 ho).ob;refine⟨T.Web,d1,_,s7 _ _ ci,T.iw,T.Κ,_,fU _ _,?_⟩;refine⟨l1,m,[V.ο],rfl,rfl,aE,by lia,by lia,dz (by simp;lia),λU cf=>?_⟩;rw[uN];have s8:=s7.trans (δ.new (.lst (List.replicate m.toNat V.ο)) cf);have i8:upd (upd H6 l1 (.lst [V.ο])) U (.lst (List.replicate m.toNat V.ο)) U=some (.lst (List.replicate m.toNat V.ο)):=aE;have O:=s7.free cf;generalize upd (upd H6 l1 (.lst [V.ο])) U (.lst (List.replicate m.toNat V.ο))=H8 at s8 i8 ⊢;have o8:=s8 _ _ o6;refine⟨T.Tally,C,_,o8,T.di,T.ϴ,by show 5<1000;decide,?_⟩;have k8:=(k6.then s8).put (.ins T.Tally C (mf p ld I J S U));have b2:U≠o:=λz=>by rw[z,o6]at O;cases O
  have Z:ϙ T.Web T.Tally (upd H8 o (.ins T.Tally C (mf p ld I J S U))) o p t m ps B r par d X ld I J S U kl (List.replicate m.toNat V.ο) (λ_=>False):=⟨⟨C,aE⟩,W.adp k8 ho,R,et,Or,(aN ai).trans (s8 _ _ a1),(aN au).trans (s8 _ _ a2),(aN bk).trans (s8 _ _ am),(aN ca).trans (s8 _ _ e6),Paired.imp' (λq v h=>by rw[aN (fM h o6 (by intro z;cases z))];exact s8 _ _ h) a0,(aN b2).trans i8,by rw[cC],λx hx=>.inl (List.eq_of_mem_replicate hx),λv z=>z.elim⟩
  have ω:ld≠U:=λz=>by rw[<-z,a1]at O;cases O
  have d7:I≠U:=λz=>by rw[<-z,a2]at O;cases O
  have dc:J≠U:=λz=>by rw[<-z,am]at O;cases O
  have dr:S≠U:=λz=>by rw[<-z,e6]at O;cases O
  have dd:∀q∈kl,q≠U:=λq hq z=>by
   obtain⟨v,hv⟩:=EX a0 hq;rw[z,O]at hv;cases hv
  have c6:H U=none:=by
   cases e:H U with
   | none=>rfl
   | some x=>rw[k6 _ _ e b2]at O;cases O
  have k9:=k8;change ∃x c3 d0,upd H8 o (.ins T.Tally C (mf p ld I J S U)) o=some (HO.ins x c3 d0)/\_;obtain⟨H9,bl⟩:∃H9,H9=upd H8 o (.ins T.Tally C (mf p ld I J S U)):=⟨_,rfl⟩;refine⟨T.Tally,C,_,aE,T.di,T.wq,_,rH p ld I J S U,ld,rfl,_,ν.of Z.hd,?_⟩;rw[<-bl]at Z k9;change uf _ _ _ _ _ (upd H8 o (.ins T.Tally C (mf p ld I J S U)));rw[<-bl];clear bl k8 i8 s8 s7 n1 a0 e6 a1 a2 am o6 k6 k5 o5 o8 ci;refine qy (K:=K) (xs:=(cI m B r par d r).map V.int) (λi σ ac=>Kpt o H ac/\∃(rv:List V)(v3:Option V),ϙ T.Web T.Tally ac o p t m ps B r par d X ld I J S U kl rv (λv=>v∈(cI m B r par d r).reverse.take i)/\σ=[some (V.ref o),some (V.ref p),some (V.int r),v3]) ⟨k9,List.replicate m.toNat V.ο,none,?_,rfl⟩ (λi σ ac _ ⟨_,rv,v3,z,_⟩=>ν.of z.hd) ?_ ?_
  .exact⟨Z.ob,Z.web,Z.rt,Z.et,Z.or,Z.hd,Z.hw,Z.hb,Z.hk,Z.kp,Z.hr,Z.rl,Z.rn,λv hv=>by cases hv⟩
  .rintro i x σ ac N hN hx ⟨k10,rv,v3,T10,rfl⟩;rw[<-fQ]at hx;obtain⟨v,hv,rfl⟩:=List.ι hx;have Y:=(cd v).mp (dZ.mp (aO hv));have db:∀k∈kd m B r par v,k∈(cI m B r par d r).reverse.take i:=by
    rw[et]at hv ⊢;exact PV g R Or hv Y.1 Y.2
   have dn:(bM m.toNat)[v.toNat]?=some v:=by
    rw[fy (by lia),bA Y.1]
   obtain⟨aC,cB,d6⟩:=tm T10.kp dn;obtain⟨cz,dt⟩:=T10.ob;have b1:∀k∈kd m B r par v,frK (dP m B r par d) (As m B r par d X v) (cK B par) v k=ϡ m B r par d X k/\beK (As m B r par d X v) k=ϩ m B r par d X k:=λk hk=>by
    have w:=(bz g R Y.1 Y.2).mp hk;have ec:((cK B par k:Nat):Int)=tup B par k:=bA (by have:=(iW g R w.1.1 w.1.2 w.2.1).1;lia);unfold frK ϡ beK ϩ;rw[ec,w.2.2,show(dP m B r par d).getD k.toNat 0=υ m B r par d k from gZ w.1.1 w.1.2,show(dP m B r par d).getD v.toNat 0=υ m B r par d v from gZ Y.1 Y.2];exact⟨rfl,rfl⟩
   walk_at "";refine⟨o,cz,p,t,I,J,S,U,aC,_,m,ps,B,dP m B r par d,_,_,rv,v,kd m B r par v,As m B r par d X v,dO m B r par d X,cK B par,Bv m B r par d,rfl,dt,qR _ _ _ _ _ _,ye _ _ _ _ _ _,yg _ _ _ _ _ _,qU _ _ _ _ _ _,qb _ _ _ _ _ _,T10.web,T10.hw,?_,T10.hb,T10.hk,T10.hr,Y,?_,?_,d6,?_,?_,?_⟩
   .have:(dP m B r par d).length=m.toNat:=qK
    lia
   .exact(wN Y.1).symm.trans (zZ Y.1 Y.2)
   .rw[aJ,cB]
    rfl
   .intro k hk;have w:=(bz g R Y.1 Y.2).mp hk;obtain⟨k',tk,t2,t6⟩:=kC g R w.1.1 w.1.2 w.2.1;have dw:tup B par k=k':=by
     unfold tup;rw[tk]
     rfl
    have ek:((cK B par k:Nat):Int)=k':=by
     unfold cK;rw[dw];exact bA (by lia)
    obtain⟨_,lp,ϳ,h1,h2,h3,h4⟩:=T10.Ϝ k (db k hk);have ds:=nZ (fr:=ϡ m B r par d X) (be:=ϩ m B r par d X) (c:=cK B par) g R w.1.1 w.1.2;refine⟨w.1.1,w.1.2,by rw[ek,<-w.2.2];exact tk,by lia,by lia,Dz g R (λu u0 u1 ur=>?_) (m.toNat-d k) w.1.1 w.1.2 (az _),?_⟩
    .have:=iW g R u0 u1 ur;unfold cK
     lia
    .obtain⟨sr,es⟩:=xD (kd m B r par k);rw[es]at h4;cases h4 with
     | cons e he=>
       obtain⟨cs,c1,c2⟩:=e;refine⟨lp,_,_,cs,h1,h3,c1,?_⟩;have:=c2.le (b':=15000) (uE (by have:=jP g R w.1.1 w.1.2;have:=qi g R w.1.1 w.1.2;lia));refine⟨this.ne,this.len,this.bt,λn=>(this.val n).trans ?_⟩;show _=wy m B r par d (ϡ m B r par d X) (ϩ m B r par d X) (cK B par) k n;rw[ds]
       rfl
   .rw[jP g R Y.1 Y.2];exact qi g R Y.1 Y.2
   .intro l ϳ H11 nl s11 e11 ra;have aT:=T10.same s11;obtain⟨c4,bV⟩:=aT.ob;have d4:l≠U:=λz=>by rw[z,T10.hr]at nl;cases nl
    have dT:vM H11 (bts (Bv m B r par d)) (ς (ϡ m B r par d X) (ϩ m B r par d X) (λk g=>dO m B r par d X k (Pb.ω (cK B par k) g))) ϳ (sfx (kd m B r par v)):=GR (λa d5 cc ⟨cs,c1,c2⟩=>⟨cs,c1,by
     have e:=zc (fr:=frK (dP m B r par d) (As m B r par d X v) (cK B par) v) (be:=beK (As m B r par d X v)) (ws:=λk g=>dO m B r par d X k (Pb.ω (cK B par k) g)) (fr':=ϡ m B r par d X) (be':=ϩ m B r par d X) (ws':=λk g=>dO m B r par d X k (Pb.ω (cK B par k) g)) (ks:=d5) λk hk=>⟨(b1 k (EU cc k hk)).1,(b1 k (EU cc k hk)).2,rfl⟩;rw[<-e];exact c2⟩) ra
    refine⟨T.Tally,c4,_,bV,T.di,T.ϴ,_,qb _ _ _ _ _ _,rE aT.hr Y.1 (by rw[aT.rl];lia) (hN _ _ ⟨?_,rv.set v.toNat (.ref l),some (V.int v),?_,rfl⟩)⟩
    .exact λb y hb nb=>by rw[aN (cG hb c6)];exact s11 _ _ (k10 b y hb nb)
    .have nv:∀u,u∈(cI m B r par d r).reverse.take i->u≠v:=λu hu z=>by
      have nd:(cI m B r par d r).reverse.Nodup:=((List.reverse_perm _).nodup_iff).mpr c5;have il:=(aD.mp hv).1;rw[z]at hu;obtain⟨j,hj⟩:=cJ hu;have jl:=(aD.mp hj).1;rw[bE]at jl;rw[jf (by lia)]at hj;have:=(lS (by lia) nd).mp (hj.trans hv.symm)
      lia
     have M:=aT.put ω d7 dc dr dd Y.1 Y.2 nv d4 e11 dT;refine⟨M.ob,M.web,M.rt,M.et,M.or,M.hd,M.hw,M.hb,M.hk,M.kp,M.hr,M.rl,M.rn,λu hu=>M.Ϝ u ?_⟩;rw[bI,hv]at hu;rcases ba.mp hu with hu|hu
     .exact .inr hu
     .exact .inl (by simpa using hu)
  .rintro σ ac ⟨k10,rv,v3,T10,rfl⟩;refine k X ld I J S U kl rv ac ⟨T10.ob,T10.web,T10.rt,T10.et,T10.or,T10.hd,T10.hw,T10.hb,T10.hk,T10.kp,T10.hr,T10.rl,T10.rn,λv hv=>T10.Ϝ v ?_⟩ k10;rw[ah,<-aV,bL,dZ];exact(cd v).mpr hv
theorem QG(c i:Int)(g:0<=i)(h:i<=1000):abG 7919 i/\abG (c%998244353+7919*i+11) 48271/\abG ((c%998244353+7919*i+11)*48271%2147483647) ((c%998244353+7919*i+11)*48271%2147483647)/\abG (((c%998244353+7919*i+11)*48271%2147483647)*((c%998244353+7919*i+11)*48271%2147483647)%2147483629) (((c%998244353+7919*i+11)*48271%2147483647)*((c%998244353+7919*i+11)*48271%2147483647)%2147483629)/\abG ((((c%998244353+7919*i+11)*48271%2147483647)*((c%998244353+7919*i+11)*48271%2147483647)%2147483629)*(((c%998244353+7919*i+11)*48271%2147483647)*((c%998244353+7919*i+11)*48271%2147483647)%2147483629)) (((c%998244353+7919*i+11)*48271%2147483647)+12345678901)/\QR ((((c%998244353+7919*i+11)*48271%2147483647)*((c%998244353+7919*i+11)*48271%2147483647)%2147483629)*(((c%998244353+7919*i+11)*48271%2147483647)*((c%998244353+7919*i+11)*48271%2147483647)%2147483629)*(((c%998244353+7919*i+11)*48271%2147483647)+12345678901)) 7/\0<=(((c%998244353+7919*i+11)*48271%2147483647)*((c%998244353+7919*i+11)*48271%2147483647)%2147483629)*(((c%998244353+7919*i+11)*48271%2147483647)*((c%998244353+7919*i+11)*48271%2147483647)%2147483629)*(((c%998244353+7919*i+11)*48271%2147483647)+12345678901)/7:=by
 have e:=dA ((c%998244353+7919*i+11)*48271) (show(2147483647:Int)≠0 by decide);have d:=de ((c%998244353+7919*i+11)*48271) (show(0:Int)<2147483647 by decide);generalize (c%998244353+7919*i+11)*48271%2147483647=n at e d ⊢;have a:=dA (n*n) (show(2147483629:Int)≠0 by decide);have b:=de (n*n) (show(0:Int)<2147483629 by decide);generalize n*n%2147483629=f at a b ⊢;refine⟨.inl ⟨by decide,by decide⟩,.inr ⟨by decide,by decide⟩,.inl ⟨by lia,by lia⟩,.inl ⟨by lia,by lia⟩,.inr ⟨by lia,by lia⟩,⟨by decide,by decide⟩,?_⟩;exact ja (dF (dF a a) (by lia)) (by decide)
def rp(T:Txt K L):Sp:=λc H Q _=>E3 λ(a:Addr)(b:fc)(k:Int)=>c=[.ref a,.int k]/\ν K H a (b.map V.int)/\0<=k/\k<=1000/\∀v,0<=v->Q (.int v) H
abbrev nY:Stmt:=top 91
theorem Ik:ζ ["script","k","cell","near","far"] ["script","k"] (aG nY):=.of
theorem Hw(T:Txt K L)(U:bZ (ψ P w)):Ok P w K L base "_law_drawn" nY ["script","k"] 1 (rp T):=λ_ _ D=>by
 refine D.F.ϖ Ik (by walk_at "v") λR A g s H O Q E S h=>?_;obtain⟨a,f,i,rfl,e,j,v,k⟩:=h;refine⟨_,(aB (Η 2 aQ) (aB (dQ (Ϭ vo (γ 1) (pcb m3 T.len (aa (γ 0) ax))) (aL (Η 2 (bh iz (Ο bX (γ 0) (γ 1)) (bh rG aQ aQ)))) cY) (aB (dQ (PW.pt (CS (Ϭ zK (pcb m3 T.len (aa (γ 0) ax)) aQ) (Ab (Ϭ kG (bh iz (Ο bX (γ 0) aQ) aQ) aQ)))) (aB (Η 3 (bh iz (bh mD (bh gc (bh gc (bh iz (γ 2) aQ) (bh mD aQ (γ 1))) aQ) aQ) aQ)) (aB (Η 4 (bh iz (bh mD (γ 3) (γ 3)) aQ)) (aL (Η 2 (bh i9 (bh mD (bh mD (γ 4) (γ 4)) (bh gc (γ 3) aQ)) aQ))))) cY) (aL (bJ (γ 2)))))),?_⟩;walk_at "s";refine eZ λN C=>?_;walk_at "";refine C _ _ (eZ λq G=>?_);have n:∀c,0<=c->q [some (V.ref a),some (V.int i),some (V.int c),none,none] H:=λc d=>G _ _ (eZ λr I=>by
  have b:∀c l m,0<=c->r [some (V.ref a),some (V.int i),some (V.int c),l,m] H:=λc l m d=>I _ _ (by
   walk_at "";exact k c d)
  obtain⟨t,u,B,M,J,o,p⟩:=QG c i j v;walk_at "";refine⟨_,.inl e,?_⟩;rw[ah];by_cases x:0<(f.length:Int)
  .rw[aj x];refine ixS e (Ac (by decide) x) ⟨_,rfl,by decide,?_⟩;by_cases y:f.getD (0:Int).toNat 0%2=1
   .rw[aj y];exact⟨by decide,t,u,by decide,B,by decide,M,J,o,b _ _ _ p⟩
   .rw[ag y];exact b _ _ _ d
  .rw[ag x];exact b _ _ _ d)
 walk_at "";refine⟨_,.inl e,?_⟩;rw[ah];by_cases z:i<(f.length:Int)
 .rw[aj z];exact ixS e (Ac j z) ⟨⟨by decide,by decide,by decide⟩,_,rfl,p60,n _ (dA _ (mH p60))⟩
 .rw[ag z];exact n 0 (by decide)
def AW(T:Txt K L):Sp:=λg H Q _=>E4 λ(d:Addr)(e:hD)(m r:Int)=>g=[.ref d,.int m,.int r]/\ϥ H d e/\Good m e/\(0<=r/\r<m)/\∃a c,ε m e r a c/\∀lo f t b,H lo=none->δ H b->b lo=some (.lst (f.map V.ref))->Ϙ b r a f (r::t)->Order m r a t->Q (.ref lo) b
abbrev rM:Stmt:=top 96
theorem KA:ζ ["tolls","many","r","order","at","place","above","kid"] ["tolls","many","r"] (aG rM):=.of
theorem AB:ώ (aG rM) "range":=.of (by kernel_rfl)
theorem JQ(T:Txt K L)(hq:bZ (ψ P w)):Ok P w K L base "_law_down" rM ["tolls","many","r"] 1 (AW T):=λ_ _ D=>by
 refine D.F.ϖ KA (by walk_at "v") λρ A aS s H vs Q E hr h=>?_;obtain⟨d,y,m,r,rfl,ta,g,rr,f,bV,R,k⟩:=h;have hu:=sJ hr;have Ζ:=g.Ζ;refine⟨_,(aB (Η 3 (gF (aa (m7 (aa (γ 2) (aa uP ax))) ax))) (aB (Η 4 aQ) (aB (rX PassesOwn.never (Ϭ vo (γ 4) (pcb m3 T.len (aa (γ 3) ax))) (aB (nz (Ο bX (γ 3) (γ 4)) (j1 (n:=2) rfl (cH (ϐ 5) (cH (ϐ 6) gX)))) (aB (fq PassesOwn.never rfl (lD AB.g T.range (aa (γ 1) ax)) (ϐ 7) (aL (dQ (PW.pt (CS (Ϭ pW (γ 7) (γ 6)) (Ab (De (V6 hu (m7 (aa (γ 5) (aa (γ 7) ax))) (γ 0)))))) (aL (eM (nN PySem.F.plainAttrs_list PySem.F.slot_list_append PySem.F.type_list_append ic (γ 3) (aa (m7 (aa (γ 7) (aa (γ 5) ax))) ax)))) cY))) (aL (Η 4 (bh gc (γ 4) aQ)))))) (aL (bJ (γ 3)))))),?_⟩;walk_at "s";walk_at "";refine⟨dz (by simp),λo n0=>⟨dz (by simp),λlo B=>?_⟩⟩;have s1:=δ.new (.tup [V.int r,V.ο]) n0;have ae:=s1.free B;have s2:=s1.trans (δ.new (.lst [V.ref o]) B);have au:o≠lo:=λz=>by rw[<-z,aE]at B;cases B
 have O:upd (upd H o (.tup [V.int r,V.ο])) lo (.lst [V.ref o]) lo=some (.lst [V.ref o]):=aE;have f2:upd (upd H o (.tup [V.int r,V.ο])) lo (.lst [V.ref o]) o=some (.tup (vPr r f r)):=by
  rw[aN au,aE];unfold vPr Pb.front;rw[aj rfl]
 generalize upd (upd H o (.tup [V.int r,V.ο])) lo (.lst [V.ref o])=H2 at s2 O f2 ⊢;have Y:∀{t:fc}{ws:fc},ϗ m y r f t ws->(r::t).length<=m.toNat:=λ{t ws} J=>by
  have:=g9 (m:=m) (by lia) (bg.mpr ⟨J.nr,J.nd⟩) λv hv=>by
   rcases aw.mp hv with e|e
   .rw[e];exact rr
   .exact J.Ι v e
  lia
 refine wW (λn U X=>E6 λ(t:fc)(j:gf)(k:Nat)(v5 v6 M:Option V)=>n=m.toNat-k/\k<=(r::t).length/\U=[some (.ref d),some (.int m),some (.int r),some (.ref lo),some (.int (k:Nat)),v5,v6,M]/\δ H X/\X lo=some (.lst (j.map V.ref))/\Ϙ X r f j (r::t)/\Bfs m y r f t k) m.toNat ⟨[],[o],0,_,_,_,rfl,bB _,rfl,s2,O,.cons f2 .nil,Bfs.start⟩ ?_;rintro n U X NW hN a1 ⟨t,j,C,v5,v6,M,rfl,b1,rfl,s4,l,u,S⟩;have tl:=Y S.J;have ql:j.length=(r::t).length:=Paired.length u;walk_at "";refine⟨_,.inl (ν.of l),?_⟩;rw[ah,ql];by_cases c:C=(r::t).length
 .rw[ag (by lia)];exact k lo j t X ae s4 l u (S.done R (by lia))
 .rw[aj (by lia)];have ai:C<(r::t).length:=by lia
  obtain⟨p,hp⟩:∃p,(r::t)[C]?=some p:=⟨_,ay ai⟩;have S':=S.step g R rr.1 rr.2 hp;have bd:=Y S'.J;have pr:0<=p/\p<m:=by
   rcases aw.mp (aO hp)with e|e
   .rw[e];exact rr
   .exact S.J.Ι p e
  refine⟨NW,λck H' z=>?_,?_⟩
  .obtain⟨m',lt,t',qs',k',a5,a6,a7,W,O,e3⟩:=a1 _ _ z
   first|exact⟨m',lt,t',qs',k',a5,a6,a7,W,O,e3⟩|exact⟨m',lt,t',qs',k',W,O,a5,a6,a7,e3⟩
  obtain⟨qx,ac⟩:∃qx,j[C]?=some qx:=⟨_,ay (by lia)⟩;obtain⟨qp,pv,W,O,e3,e4⟩:=u.get (i:=C) (x:=.ref qx) (by rw[aJ,ac];rfl);injection W with W
  subst W;rw[hp]at e3;cases e3;refine Φ l (LV (by rw[aJ,ac];rfl)) ⟨qx,rfl,_,Ξ.of e4,rfl,_,_,rfl,_,_,rfl,rfl,by lia,by lia,?_⟩;have mk:∀v,v∈bQ m y (Pb.front r f p) p->(0<=v/\v<m)/\v≠r/\f v=p:=λv=>(bz g R pr.1 pr.2).mp;have be:∀i:Nat,i<m.toNat->(ce y p (i:Int)).isSome=true->V.int (i:Int)≠Pb.front r f p->(i:Int)∈bQ m y (Pb.front r f p) p:=λi hi h1 h2=>by
   rw[<-DP];unfold mF;exact bx.mpr ⟨bx.mpr ⟨fh.mpr ⟨by lia,by lia⟩,h1⟩,bq h2⟩
  have av:∀i:Nat,i<=m.toNat->(mF y (Pb.front r f p) p i).length<=24:=λi hi=>by
   unfold mF;refine aP (dq _ _) (aP (dq _ _) ?_);rw[cq]
   lia
  have aC:∀i:Int,tV (.int i) (Pb.front r f p)=true:=λi=>by
   unfold Pb.front;by_cases z:p=r
   .rw[aj z];rfl
   .rw[ag z];rfl
  rw[<-DP]at S' bd;refine ux (λi U H5=>δ H H5/\∃(j:gf)(M:Option V),H5 lo=some (.lst (j.map V.ref))/\Ϙ H5 r f j (r::(t++mF y (Pb.front r f p) p i))/\U=[some (.ref d),some (.int m),some (.int r),some (.ref lo),some (.int (C:Nat)),some (.int p),some (Pb.front r f p),M]) ⟨s4,j,_,l,by rw[show mF y (Pb.front r f p) p 0=[]from rfl,b7];exact u,rfl⟩ ?_ ?_
  .rintro i U H5 N hN hi ⟨s5,j,M,l,u,rfl⟩;rw[cM];have kl:=av i (by lia);have ql:j.length=(r::(t++mF y (Pb.front r f p) p i)).length:=Paired.length u;rw[aR,aX]at ql;rw[aR]at tl;walk_at "";refine⟨aC _,?_⟩;by_cases c1:V.int (i:Int)=Pb.front r f p
   .rw[ag (λz=>z c1)];exact hN _ _ ⟨s5,j,_,l,by rw[DA (λ_ z=>z c1)];exact u,rfl⟩
   .rw[aj c1];refine⟨dz (by simp),λq nq=>?_⟩;have G:=δ.new (.tup [V.int p,V.int (i:Int)]) nq;obtain⟨η,a2,hv⟩:=(ta.same s5).ex;have hg:=ϵ.t (k:=[.inl p,.inl (i:Int)]) (G _ _ a2) aE;rw[hv]at hg;refine⟨_,hg,?_⟩;by_cases Z:(ce y p (i:Int)).isSome=true
    .rw[aj (by rw[hZ];exact Z)];obtain⟨_,kr,kp⟩:=mk _ (be i hi Z c1);refine⟨tyL (G _ _ l),dz (by simp),λq' I=>?_⟩;have s7:=G.trans (δ.new (.tup [V.int (i:Int),V.int p]) I);have ad:=s7 _ _ l;have aT:q'≠lo:=λz=>by rw[z,G _ _ l]at I;cases I
     refine tX ad (fV (by rw[ah];lia)) (hN _ _ ⟨(s5.trans s7).put ae _,j++[q'],_,by rw[aE,aI];rfl,?_,rfl⟩);rw[NR Z c1,<-cU,<-jX];refine Ϙ.snoc ?_ (Paired.imp' (λa b h=>by rw[aN (fM (s7 _ _ h) ad (by intro z;cases z))];exact s7 _ _ h) u);rw[aN aT,aE];unfold vPr Pb.front;rw[ag kr,kp]
    .rw[ag (by rw[hZ];exact Z)];exact hN _ _ ⟨s5.trans G,j,_,G _ _ l,by rw[DA (λz=>absurd z Z)];exact Ϙ.same G u,rfl⟩
  .rintro U H5 ⟨s5,j,M,l,u,rfl⟩;walk_at "";exact hN (m.toNat-(C+1)) _ _ (by lia) ⟨_,j,C+1,_,_,_,rfl,by rw[aR,aX];rw[aR]at ai;lia,rfl,s5,l,u,S'⟩
def AK(T:Txt K L):Sp:=λi H Q _=>E7 λ(g f:Addr)(c:Bool)(d:hD)(e:fc)(m r:Int)=>i=[.ref g,.int m,.ref f,.int r]/\ϥ H g d/\Good m d/\(0<=r/\r<m)/\ϑ K c H f (e.map V.int)/\(e.length:Int)=m/\∃a b,ε m d r a b/\∀h,δ H h->Q (.int (Ε m d r a b (λv=>e.getD v.toNat 0) (ϛ d a) r)) h
abbrev rC:Stmt:=top 97
theorem Kh:ζ ["tolls","many","laying","r","held","place","above"] ["tolls","many","laying","r"] (aG rC):=.of
theorem xT:ώ (aG rC) "reversed":=.of (by kernel_rfl)
theorem KC(T:Txt K L)(hq:bZ (ψ P w))(xK:Cb P w K L base "_law_down" rM ["tolls","many","r"] 1 (AW T)):Ok P w K L base "_law_most" rC ["tolls","many","laying","r"] 2 (AK T):=λ_ _ D=>by
 refine D.F.ϖ Kh (by walk_at "v") λρ A ab s H vs Q E hr h=>?_;obtain⟨dt,U,c,S,xs,m,r,rfl,G,g,M,ha,xl,a,B,R,k⟩:=h;have m1:=g.m1;have Ζ:=g.Ζ;have hu:=sJ hr;have lx:ν K H U (xs.map V.int)\/Ξ K H U (xs.map V.int):=by
  cases c
  .exact .inr ha
  .exact .inl ha
 refine⟨_,(aB (Η 4 (pct oX T.list (aa (γ 2) ax))) (aB (fq PassesOwn.never rfl (sY xT.g T.reversed (Μ xK hr hq (aa (γ 0) (aa (γ 1) (aa (γ 3) ax))))) (j1 (n:=2) rfl (cH (ϐ 5) (cH (ϐ 6) gX))) (aL (dQ (De (Ve (γ 6))) (aL (nz (bh gc (Ο bX (γ 4) (γ 6)) (bh i9 (Ο bX (γ 4) (γ 5)) (La hu (γ 0) (m7 (aa (γ 5) (aa (γ 6) ax))) (λ_ _=>rfl)))) (oW (γ 4) (γ 6) iR))) cY))) (aL (bJ (Ο bX (γ 4) (γ 3)))))),?_⟩;walk_at "s";walk_at "";refine⟨_,lx,λl nl=>?_⟩;have s1:=δ.new (.lst (xs.map V.int)) nl;have e1:upd H l (.lst (xs.map V.int)) l=some (.lst (xs.map V.int)):=aE;generalize upd H l (.lst (xs.map V.int))=H1 at s1 e1 ⊢;refine⟨dt,S,m,r,rfl,G.same s1,g,M,a,B,R,λlo qs t H2 no s2 ho pa O=>?_⟩;have C:qs.length=(r::t).length:=Paired.length pa;rw[aR]at C;have e2:=s2 _ _ e1;have sH:∀d,Kpt l H2 d->δ H d:=λd j b y e=>j b y (s2 _ _ (s1 _ _ e)) (cG e nl);have an:lo≠l:=λz=>by rw[z,e1]at no;cases no
 refine⟨lo,rfl,_,ν.of ho,?_⟩;refine qy (K:=K) (xs:=qs.map V.ref) (λi J d=>Kpt l H2 d/\E3 λ(o:fc)(Z Y:Option V)=>d l=some (.lst (o.map V.int))/\ϋ m S r a B (λv=>xs.getD v.toNat 0) (ϛ S a) (t.drop (t.length-i)) o/\J=[some (V.ref dt),some (V.int m),some (V.ref U),some (V.int r),some (V.ref l),Z,Y]) ⟨λb y e _=>e,xs,_,_,e2,by rw[eu,dh];exact ϋ.nil xl,rfl⟩ (λi J d _ z=>ν.of (z.1 _ _ ho an)) ?_ ?_
 .rintro i x J d N hN hx ⟨j,o,Z,Y,c5,so,rfl⟩;have il:=(aD.mp hx).1;rw[aV,ah,C]at il;rw[cw (by rw[ah,C];lia),ah,C]at hx;obtain⟨q,v,rfl,hq,hv,I⟩:=pa.get hx;have f:(r::t).reverse[i]?=some v:=by rw[cw (by rw[aR];lia),aR];exact hv
  rw[eI]at f;have cl:=so.len;have s5:=sH d j;have I:=j _ _ I (fM I e2 (by intro z;cases z));walk_at "";refine⟨_,Ξ.of I,rfl,_,_,rfl,_,_,rfl,rfl,?_⟩;walk_at "";by_cases ci:i<t.length
  .rw[dH (by rw[aV];exact ci)]at f;obtain⟨⟨p,W⟩,ev,ac⟩:=O.turn g R so f;have u:=R.up v p.1 p.2 W;obtain⟨kd,hd,d0,d1⟩:=kC g R p.1 p.2 W;have X:Pb.front r a v=V.int (a v):=(by unfold Pb.front;rw[ag W]);rw[X];have nn:¬V.int (a v)=V.ο:=(by intro z;cases z);rw[aj nn];refine Φ c5 (Ac u.1.1 (by lia)) (Φ c5 (Ac p.1 (by lia)) ⟨dz (by simp),λq' al=>?_⟩);have s6:=δ.new (.tup [V.int v,V.int (a v)]) al;have get:ϵ (upd d q' (.tup [V.int v,V.int (a v)])) dt (V.ref q') (some (V.int kd)):=by
    obtain⟨η,ae,am⟩:=(G.same s5).ex;have hg:=ϵ.t (k:=[.inl v,.inl (a v)]) (s6 _ _ ae) aE;rw[am,hd]at hg;exact hg
   have c6:=s6 _ _ c5;refine⟨_,get,_,rfl,_,rfl,⟨by lia,by lia⟩,_,rfl,rE c6 u.1.1 (by rw[ah];lia) (hN _ _ ⟨λb y e nb=>by rw[aN nb];exact s6 _ _ (j b y e nb),qr a (ϛ S a) o v,_,_,?_,ac,rfl⟩)⟩;rw[aE,<-ee];unfold qr ϛ;rw[hd]
   rfl
  .have ei:i=t.reverse.length:=(by rw[aV];lia);rw[ei,dE (az _),dD]at f;cases f;have X:Pb.front r a r=V.ο:=(by unfold Pb.front;rw[aj rfl]);rw[X,ag (λz=>z rfl)];refine hN _ _ ⟨j,o,_,_,c5,?_,rfl⟩;rw[aV]at ei;rw[show t.length-(i+1)=t.length-i by lia];exact so
 .rintro J d ⟨j,o,Z,Y,c5,so,rfl⟩;rw[ah,C,show t.length-(t.length+1)=0 by lia,fT]at so;rw[O.done g R so]at c5;walk_at "";refine Φ c5 (Ac M.1 (by unfold rK;rw[ah,cq];lia)) ?_;rw[se M.1 M.2];exact k d (sH d j)
def oM(T:Txt K L):Sp:=λc H Q E=>E7 λ(p t:Addr)(m:Int)(a:gf)(b:hD)(r x:Int)=>c=[.ref p,.int r,.int x]/\μ T.Web H p m t a b/\(0<=r->r<m->1<=x->Q .ο H)/\(¬(0<=r/\r<m)->E (.ref T.NoPlace) none H)/\(0<=r->r<m->x<1->E (.ref T.BadWish) none H)
abbrev jN:Stmt:=top 54
theorem Dn:ζ ["web","r","wanted"] ["web","r","wanted"] (aG jN):=.of
theorem pY:ώ (aG jN) "BadWish":=.of (by kernel_rfl)
theorem CT(T:Txt K L)(u:bZ (ψ P w))(i:hY P w base T):Ok P w K L base "check_wanted" jN ["web","r","wanted"] 3 (oM T):=λ_ _ D=>by
 refine D.F.gT Dn (by walk_at "v") λq A a s H o Q E j h=>?_;obtain⟨p,t,m,n,f,r,x,rfl,W,k,e,l⟩:=h;refine⟨_,(aB (eM (Χ i j cR (aa (γ 0) (aa (γ 1) ax)))) (aL (dQ (Ϭ vo (γ 2) aQ) (aL (nM T.vJ rfl pK pY.g T.FV (aa rh ax) (hdb:=pY.d))) cY))),?_⟩;walk_at "s";walk_at "";refine⟨p,t,m,n,f,r,rfl,W,λc b=>?_,e⟩;show if x<1 then _ else _;by_cases z:x<1
 .rw[aj z];exact⟨by decide,l c b z⟩
 .rw[ag z];exact k c b (by lia)
def vS(T:Txt K L):Sp:=λh H Q E=>E10 λ(p b t:Addr)(c:Bool)(m:Int)(i:gf)(e:hD)(d:fc)(r w:Int)=>h=[.ref p,.int r,.int w,.ref b]/\μ T.Web H p m t i e/\ϑ K c H b (d.map V.int)/\(d.length:Int)=m/\(∀x∈d,x.natAbs<2^4000)/\(w-1).natAbs<2^4000/\(0<=r->r<m->1<=w->∃a f,ε m e r a f/\∀g,δ H g->Q (.int (lE m e r a d w)) g)/\(¬(0<=r/\r<m)->E (.ref T.NoPlace) none H)/\(0<=r->r<m->w<1->E (.ref T.BadWish) none H)
abbrev pR:Stmt:=top 53
theorem AX:ζ ["web","r","wanted","weights","bound","place","front"] ["web","r","wanted","weights"] (aG pR):=.of
theorem Al:NmL (aG pR) "bound":=.of (by kernel_rfl)
abbrev nH(P w base)(T:Txt K L):=Cb P w K L base "check_wanted" jN ["web","r","wanted"] 3 (oM T)
theorem J9(T:Txt K L)(hq:bZ (ψ P w))(ir:nH P w base T)(eY:i7 P w base T)(dG:i5 P w base T):Ok P w K L base "bound_by" pR ["web","r","wanted","weights"] 8 (vS T):=λ_ _ D=>by
 refine D.F.gT AX (by walk_at "v") λρ A S s H vs Q E G h=>?_;obtain⟨p,b,t,c,m,U,f,xs,r,w,rfl,W,hb,xl,xb,wb,k,e,e'⟩:=h;have g:=W.go;refine⟨_,(aB (eM (Χ ir G cR (aa (γ 0) (aa (γ 1) (aa (γ 2) ax))))) (aB (Η 4 (bh qF (Ο (Cq c) (γ 3) (γ 1)) (bh f8 (γ 2) aQ))) (aB (fq PassesOwn.leaving rfl (iB (Χ eY G cR (aa (γ 0) (aa (γ 1) ax)))) (j1 (n:=2) rfl (cH (ϐ 5) (cH (ϐ 6) gX))) (aL (uI (i:=4) AX.nd rfl (Or.inl Al.l) (bh mD (Ο (Cq c) (γ 3) (γ 5)) (bh f8 (Χ dG G cR (aa (γ 0) (aa (γ 5) (aa (γ 6) ax)))) aQ)) tK))) (aL (bJ (γ 4)))))),?_⟩;walk_at "s";walk_at "";refine⟨p,t,m,U,f,r,w,rfl,W,λX r1 w1=>?_,e,e'⟩;obtain⟨a,J,R,k⟩:=k X r1 w1;have gr:=Ac (xs:=xs) X (by lia);have hm:=UJ (cs:=xs) (i:=r.toNat) (by lia);refine ixX hb gr ⟨_,rfl,Yt (xb _ hm) wb,?_⟩;refine⟨p,t,m,U,f,r,?_⟩;refine an4 rfl W (λ_ _=>⟨a,J,R,λl2 Z tl H2 _ n2 B e2 pa O=>?_⟩) (λz=>absurd ⟨X,r1⟩ z);refine⟨l2,rfl,⟨_,ν.of e2⟩,?_⟩;have ql:Z.length=tl.reverse.length:=Paired.length pa;refine j7 (K:=K) (xs:=Z.map V.ref) (λi o j=>j=H2/\∃(I M:Option V),o=[some (V.ref p),some (V.int r),some (V.int w),some (V.ref b),some (V.int (xs.getD r.toNat 0*(w-1)+((tl.reverse.take i).map (slk f a xs)).sum)),I,M]) ⟨rfl,_,_,by rw[dY,eP,List.sum_nil,g6]⟩ (λi o j _ z=>by rw[z.1];exact ν.of e2) ?_ ?_
 .rintro i x o j N BB ϓ hN hx ⟨rfl,I,M,rfl⟩;refine ϓ _ _ ?_;obtain⟨q,v,rfl,hq,Y,eq⟩:=pa.get hx;have C:=dZ.mp (aO Y);have d:=O.Ι v C;have u:=R.up v d.1 d.2 (O.ne C);obtain⟨kk,y,k0,k1⟩:=kC g R d.1 d.2 (O.ne C);walk_at "";refine⟨_,Ξ.of eq,rfl,_,_,rfl,_,_,rfl,rfl,?_⟩;refine ixX (δ.gE B hb) (Ac d.1 (by lia)) ?_;refine⟨p,t,m,U,f,v,a v,rfl,W.same B,λk' _ _ _ _ h=>?_,λz=>absurd ⟨d,u.1⟩ z,λ_ _ _ _ z=>by rw[y]at z;cases z⟩;rw[y]at h;cases h;refine⟨_,rfl,_,rfl,.inr ⟨by lia,by lia⟩,hN _ _ ⟨rfl,some (V.int v),some (V.int (a v)),?_⟩⟩;rw[Jg Y];unfold slk;rw[y,Int.add_assoc]
  rfl
 .rintro BB o j ϓ ⟨rfl,I,M,rfl⟩;refine ϓ _ _ ?_;rw[ah,ql,bL,fQ,List.sum_reverse,O.sums];walk_at "";exact k _ B
def vE(T:Txt K L):Sp:=λf H Q E=>E7 λ(p t:Addr)(m:Int)(e:gf)(d:hD)(r w:Int)=>f=[.ref p,.int r,.int w]/\μ T.Web H p m t e d/\w<=10^60/\-(10^60)<=w/\(0<=r->r<m->1<=w->∃b c,ε m d r b c/\∀a,δ H a->Q (.int (lE m d r b (dP m d r b c) w+1)) a)/\(¬(0<=r/\r<m)->∀a,δ H a->E (.ref T.NoPlace) none a)/\(0<=r->r<m->w<1->∀a,δ H a->E (.ref T.BadWish) none a)
abbrev si:Stmt:=top 56
theorem OD:ζ ["web","r","wanted"] ["web","r","wanted"] (aG si):=.of
abbrev nT(P w base)(T:Txt K L):=Cb P w K L base "bound_by" pR ["web","r","wanted","weights"] 8 (vS T)
theorem OH(T:Txt K L)(O:bZ (ψ P w))(J:nT P w base T)(x:jm P w base T):Ok P w K L base "enough" si ["web","r","wanted"] 9 (vE T):=λ_ _ D=>by
 refine D.F.gT OD (by walk_at "v") λN A n s H M Q E q h=>?_;obtain⟨p,t,m,o,a,r,w,rfl,W,B,C,k,e,G⟩:=h;have g:=W.go;have m1:=g.m1;refine⟨_,(aL (bJ (bh gc (Χ J q cR (aa (γ 0) (aa (γ 1) (aa (γ 2) (aa (Χ x q cR (aa (γ 0) (aa (γ 1) ax))) ax))))) aQ))),?_⟩;walk_at "s";walk_at "";refine⟨p,t,m,o,a,r,rfl,W,λd c=>?_,e⟩;have u:(w-1).natAbs<2^4000:=Dy C B;by_cases f:1<=w
 .obtain⟨par,dep,R,k⟩:=k d c f;refine⟨par,dep,R,λl v nl b j=>?_⟩;have i:((dP m a r par dep).length:Int)=m:=by rw[qK];lia
  exact⟨p,l,t,true,m,o,a,dP m a r par dep,r,w,rfl,W.same b,ν.of j,i,yS g R,u,λ_ _ _=>⟨par,dep,R,λI y=>⟨_,rfl,k I (b.trans y)⟩⟩,λz=>absurd ⟨d,c⟩ z,λ_ _ z=>absurd f (by lia)⟩
 .obtain⟨par,dep,R⟩:=zk g d c;refine⟨par,dep,R,λl v nl b j=>?_⟩;have i:((dP m a r par dep).length:Int)=m:=by rw[qK];lia
  exact⟨p,l,t,true,m,o,a,dP m a r par dep,r,w,rfl,W.same b,ν.of j,i,yS g R,u,λ_ _ z=>absurd z f,λz=>absurd ⟨d,c⟩ z,λ_ _ z=>G d c z v b⟩
def b6(m:Int)(a:fc):Bool:=decide ((a.length:Int)=m)&&a.all λx=>decide (0<=x)
theorem vz{m:Int}{a:fc}(h:(a.length:Int)=m)(c:∀x∈a,0<=x):b6 m a=true:=by
 unfold b6;rw[bq h,iH,gL];exact λx b=>bq (c x b)
theorem NK{m:Int}{a:fc}(h:b6 m a=true):(a.length:Int)=m:=by
 unfold b6 at h;rw[bK]at h;exact bF h.1
theorem Fu{m:Int}{a:fc}(h:b6 m a=true):∀x∈a,0<=x:=by
 unfold b6 at h;rw[bK,gL]at h;exact λx b=>bF (h.2 x b)
def vf(T:Txt K L):Sp:=λg H Q _=>E8 λ(p a t:Addr)(c:Bool)(m:Int)(e:gf)(f:hD)(b:fc)=>g=[.ref p,.ref a]/\μ T.Web H p m t e f/\ϑ K c H a (b.map V.int)/\b.length<=1000/\∀d,δ H d->Q (.bl (b6 m b)) d
abbrev qj:Stmt:=top 26
theorem Ir:ζ ["web","numbers"] ["web","numbers"] (aG qj):=.of
theorem Iz(T:Txt K L)(M:bZ (ψ P w)):Ok P w K L base "is_filled" qj ["web","numbers"] 1 (vf T):=λ_ _ D=>by
 refine D.F.ϖ Ir (by walk_at "v") λC A o s H B Q E G h=>?_;obtain⟨p,a,t,c,m,J,u,xs,rfl,W,g,I,k⟩:=h;refine⟨_,(aL (bJ (Jb (nW kG (pcb m3 T.len (aa (γ 1) ax)) (cD (γ 0) rfl) (lY _)) (G4 (pcb (SM rfl) T.all (aa (kE rfl (xZ (Nc:=["number"]) 1 (by decide +kernel) (by decide +kernel) rfl (by decide +kernel) rfl) (Qc c (γ 1)) (λ_ _ _ _=>(f9 (i:=0) (show(["number"]:gy).Nodup from by decide +kernel) rfl (Or.inl rfl))) (λ_ _ _ _=>kj) (λ_ _ _ _=>(nW GC (pv 0) aQ (lY _)))) ax)))))),?_⟩;walk_at "s";walk_at "";obtain⟨q,ob⟩:=W.ob;have n:ν K H a (xs.map V.int)\/Ξ K H a (xs.map V.int):=by
  cases c
  .exact .inr g
  .exact .inl g
 refine⟨_,n,T.Web,q,_,ob,T.iw,T.Κ,_,fU m t,rfl,?_⟩;rw[ah];by_cases f:(xs.length:Int)=m
 .rw[aj (by rw[f])];refine⟨⟨_,g⟩,λl nl=>?_⟩;refine vc (K:=K) (c:=c) (xs:=xs.map V.int) (λi b j d=>δ H d/\d l=some (.lst b)/\b=((xs.take i).map λx=>decide (0<=x)).map V.bl/\∃v,j=[v]) ⟨δ.new _ nl,aE,rfl,_,rfl⟩ (λi b j d _ z=>δ.gE z.1 g) ?_ ?_
  .rintro i x b j d N hN hx ⟨s2,e2,rfl,v,rfl⟩;rw[aJ]at hx;obtain⟨y,r,rfl⟩:=cV.mp hx;walk_at "";refine⟨e2,fV (by rw[ah,ah,bE];lia),hN _ _ _ ⟨s2.put nl _,aE,?_,_,rfl⟩⟩;rw[bI,r,aI,aI]
   rfl
  .rintro b j d ⟨s2,e2,rfl,v,rfl⟩;refine⟨l,rfl,_,ν.of e2,?_⟩;have e:(((xs.take (xs.map V.int).length).map λx=>decide (0<=x)).all id)=b6 m xs:=by
    rw[ah,bL,List.all_map];unfold b6;rw[bq f,iH]
    rfl
   rw[e];exact k _ s2
 .rw[ag (λz=>f (by injection z))];have e:b6 m xs=false:=by
   unfold b6;rw[b8 f,jF]
  rw[e]at k;exact k H (δ.refl _)
def rf(T:Txt K L):Sp:=λg H Q E=>E8 λ(p a t:Addr)(c:Bool)(m:Int)(e:gf)(f:hD)(d:fc)=>g=[.ref p,.ref a]/\μ T.Web H p m t e f/\ϑ K c H a (d.map V.int)/\d.length<=1000/\(b6 m d=true->∀l b,δ H b->(b l=some (.tup (d.map V.int))\/(c=false/\l=a))->Ξ K b l (d.map V.int)->Q (.ref l) b)/\(b6 m d=false->∀b,δ H b->E (.ref T.BadLaying) none b)
abbrev mN:Stmt:=top 25
theorem Ho:ζ ["web","numbers"] ["web","numbers"] (aG mN):=.of
theorem qc:ώ (aG mN) "BadLaying":=.of (by kernel_rfl)
theorem Ij(T:Txt K L)(C:bZ (ψ P w))(u:Cb P w K L base "is_filled" qj ["web","numbers"] 1 (vf T)):Ok P w K L base "laying_of" mN ["web","numbers"] 2 (rf T):=λ_ _ D=>by
 refine D.F.gT Ho (by walk_at "v") λB A j s H y Q E r h=>?_;obtain⟨p,a,t,c,m,x,q,i,rfl,W,f,v,k,e⟩:=h;refine⟨_,(aB (dQ (lO (kR (Χ u r cR (aa (γ 0) (aa (γ 1) ax))))) (aL (nM T.vU rfl pK qc.g T.Kr (aa rh ax) (hdb:=qc.d))) cY) (aL (bJ (pct kO T.tuple (aa (γ 1) ax))))),?_⟩;walk_at "s";walk_at "";refine⟨p,a,t,c,m,x,q,i,rfl,W,f,v,λo b=>⟨_,rfl,?_⟩⟩;by_cases z:b6 m i=false
 .rw[aj z];exact⟨by decide,e z o b⟩
 .rw[ag z];have n:b6 m i=true:=by simpa using z
  cases c
  .exact⟨_,.inr ⟨δ.gE (c:=false) b f,k n a o b (.inr ⟨rfl,rfl⟩) (δ.gE (c:=false) b f)⟩⟩
  .exact⟨_,.inl ⟨δ.gE (c:=true) b f,λl nl=>k n l _ (b.trans (δ.new _ nl)) (.inl aE) (Ξ.of aE)⟩⟩
def wc(T:Txt K L):Sp:=λh H Q E=>E9 λ(p a t:Addr)(c:Bool)(m:Int)(i:gf)(g:hD)(e:fc)(r:Int)=>h=[.ref p,.ref a,.int r]/\μ T.Web H p m t i g/\ϑ K c H a (e.map V.int)/\e.length<=1000/\(b6 m e=true->0<=r->r<m->∃d f,ε m g r d f/\∀l b,H l=none->δ H b->b l=some (.lst ((rK m g r d f (λv=>e.getD v.toNat 0) (ϛ g d)).map V.int))->Q (.ref l) b)/\(b6 m e=false->∀b,δ H b->E (.ref T.BadLaying) none b)/\(b6 m e=true->¬(0<=r/\r<m)->∀b,δ H b->E (.ref T.NoPlace) none b)
abbrev rd:Stmt:=top 61
theorem JW:ζ ["web","laying","r","counts","place","front"] ["web","laying","r"] (aG rd):=.of
abbrev oe(P w base)(T:Txt K L):=Cb P w K L base "laying_of" mN ["web","numbers"] 2 (rf T)
theorem Kf(T:Txt K L)(hq:bZ (ψ P w))(eY:i7 P w base T)(jZ:oe P w base T)(dG:i5 P w base T):Ok P w K L base "gathered" rd ["web","laying","r"] 8 (wc T):=λ_ _ D=>by
 refine D.F.gT JW (by walk_at "v") λρ A M s H vs Q E hr h=>?_;obtain⟨p,a,t,c,m,ps,y,xs,r,rfl,W,ha,hz,k,e,e'⟩:=h;have g:=W.go;have Ζ:=g.Ζ;refine⟨_,(aB (Η 3 (pct oX T.list (aa (Χ jZ hr cR (aa (γ 0) (aa (γ 1) ax))) ax))) (aB (fq PassesOwn.leaving rfl (iB (Χ eY hr cR (aa (γ 0) (aa (γ 2) ax)))) (j1 (n:=2) rfl (cH (ϐ 4) (cH (ϐ 5) gX))) (aL (Ad (γ 3) (γ 5) xH (bh i9 (Ο bX (γ 3) (γ 4)) (Χ dG hr cR (aa (γ 0) (aa (γ 4) (aa (γ 5) ax))))) tK iR))) (aL (bJ (γ 3))))),?_⟩;walk_at "s";walk_at "";refine⟨p,a,t,c,m,ps,y,xs,?_⟩;refine an6 rfl W ha hz (λfi l0 H0 s0 _ e0=>?_) e;have xl:(xs.length:Int)=m:=by
  unfold b6 at fi;rw[bK]at fi;exact bF fi.1
 refine⟨l0,rfl,_,.inr e0,λl n1=>?_⟩;have s1:=δ.new (.lst (xs.map V.int)) n1;have f:=s0.trans s1;have nl:=s0.free n1;have e1:upd H0 l (.lst (xs.map V.int)) l=some (.lst (xs.map V.int)):=aE;generalize upd H0 l (.lst (xs.map V.int))=H1 at s1 f e1 ⊢;refine⟨p,t,m,ps,y,r,?_⟩;refine an4 rfl (W.same f) (λr0 r1=>?_) (λz=>e' fi z H1 f);obtain⟨d,B,R,k⟩:=k fi r0 r1;refine⟨d,B,R,λY G J H2 _ n2 s2 e2 pa O=>?_⟩;have ae:Y≠l:=λz=>by rw[z,e1]at n2;cases n2
 refine⟨Y,rfl,⟨_,ν.of e2⟩,?_⟩;have ql:G.length=J.reverse.length:=Paired.length pa;refine j7 (K:=K) (xs:=G.map V.ref) (λi I j=>δ H j/\j Y=some (.lst (G.map V.ref))/\Α j d G J.reverse/\E3 λ(C:fc)(X Z:Option V)=>j l=some (.lst (C.map V.int))/\ϋ m y r d B (λv=>xs.getD v.toNat 0) (ϛ y d) (J.drop (J.length-i)) C/\I=[some (V.ref p),some (V.ref a),some (V.int r),some (V.ref l),X,Z]) ⟨f.trans s2,e2,pa,xs,_,_,s2 _ _ e1,by rw[eu,dh];exact ϋ.nil xl,rfl⟩ (λi I j _ z=>ν.of z.2.1) ?_ ?_
 .rintro i x I j N BB ϓ hN hx ⟨s3,e3,pa3,C,X,Z,c3,so,rfl⟩;refine ϓ _ _ ?_;obtain⟨q,v,rfl,hq,hv,eq⟩:=pa3.get hx;obtain⟨⟨o,vn⟩,ev,U⟩:=O.turn g R so hv;have u:=R.up v o.1 o.2 vn;obtain⟨kk,S,k0,k1⟩:=kC g R o.1 o.2 vn;have cl:=so.len;walk_at "";refine⟨_,Ξ.of eq,rfl,_,_,rfl,_,_,rfl,rfl,?_⟩;refine Φ c3 (Ac u.1.1 (by lia)) (Φ c3 (Ac o.1 (by lia)) ?_);refine⟨p,t,m,ps,y,v,d v,rfl,W.same s3,λk' _ _ _ _ h=>?_,λz=>absurd ⟨o,u.1⟩ z,λ_ _ _ _ z=>by rw[S]at z;cases z⟩;rw[S]at h;cases h;refine⟨_,rfl,_,rfl,⟨by lia,by lia⟩,_,rfl,rE c3 u.1.1 (by rw[ah];lia) (hN _ _ ⟨s3.put nl _,?_,?_,qr d (ϛ y d) C v,_,_,?_,U,rfl⟩)⟩
  .rw[aN ae];exact e3
  .exact Paired.imp' (λa b h=>by rw[aN (fM h c3 (by intro z;cases z))];exact h) pa3
  .rw[aE,<-ee];unfold qr ϛ;rw[S]
   rfl
 .rintro BB I j ϓ ⟨s3,e3,pa3,C,X,Z,c3,so,rfl⟩;refine ϓ _ _ ?_;rw[ah,ql,aV,dD,fT]at so;rw[O.done g R so]at c3;walk_at "";exact k l j nl s3 c3
def K7(T:Txt K L):Sp:=λi H Q E=>E9 λ(p a t:Addr)(c:Bool)(m:Int)(h:gf)(g:hD)(e:fc)(r:Int)=>i=[.ref p,.ref a,.int r]/\μ T.Web H p m t h g/\ϑ K c H a (e.map V.int)/\e.length<=1000/\(b6 m e=true->0<=r->r<m->∃d f,ε m g r d f/\∀b,δ H b->Q (.int (Ε m g r d f (λv=>e.getD v.toNat 0) (ϛ g d) r)) b)/\(b6 m e=false->∀b,δ H b->E (.ref T.BadLaying) none b)/\(b6 m e=true->¬(0<=r/\r<m)->∀b,δ H b->E (.ref T.NoPlace) none b)
abbrev Dd:Stmt:=top 62
theorem Vv:ζ ["web","laying","r"] ["web","laying","r"] (aG Dd):=.of
abbrev oi(P w base)(T:Txt K L):=Cb P w K L base "gathered" rd ["web","laying","r"] 8 (wc T)
theorem UE(T:Txt K L)(M:bZ (ψ P w))(j:oi P w base T):Ok P w K L base "most" Dd ["web","laying","r"] 9 (K7 T):=λ_ _ D=>by
 refine D.F.gT Vv (by walk_at "v") λI A d s H G Q E x h=>?_;obtain⟨p,a,t,c,m,B,o,u,r,rfl,W,q,y,k,e,z⟩:=h;refine⟨_,(aL (bJ (oH bX (Χ j x cR (aa (γ 0) (aa (γ 1) (aa (γ 2) ax)))) (γ 2) (λ_ _=>rfl)))),?_⟩;walk_at "s";walk_at "";refine⟨p,a,t,c,m,B,o,u,r,?_⟩;refine an7 rfl W q y (λfi g i=>?_) e z;obtain⟨f,b,R,k⟩:=k fi g i;refine⟨f,b,R,λl C J n v=>?_⟩;refine Φ v (Ac g ?_) ?_
 .unfold rK;rw[ah,cq];lia
 .rw[se g i];exact k C n
def qC(T:Txt K L):Sp:=λb H Q _=>∃(p:Addr)(a:fc),b=[.ref p]/\(ν K H p (a.map V.int)\/Ξ K H p (a.map V.int))/\Q (.int a.sum) H
abbrev qL:Stmt:=top 27
theorem Rs:ζ ["numbers"] ["numbers"] (aG qL):=.of
theorem S5(T:Txt K L)(e:bZ (ψ P w)):Ok P w K L base "total" qL ["numbers"] 1 (qC T):=λ_ _ D=>by
 refine D.F.ϖ Rs (by walk_at "v") λf A a s H g Q E d h=>?_;obtain⟨p,b,rfl,c,k⟩:=h;refine⟨_,(aL (bJ (pcb (xw rfl) T.sum (aa (γ 0) ax)))),?_⟩;walk_at "s";walk_at "";exact⟨b,c,k⟩
def sO(T:Txt K L):Sp:=λh H Q E=>E10 λ(p a t:Addr)(c:Bool)(m:Int)(i:gf)(f:hD)(g:fc)(r w:Int)=>h=[.ref p,.int r,.int w,.ref a]/\μ T.Web H p m t i f/\ϑ K c H a (g.map V.int)/\g.length<=1000/\w<=10^60/\-(10^60)<=w/\(0<=r->r<m->1<=w->∃d e,ε m f r d e/\(b6 m g=true->∀b,δ H b->Q (.bl (decide (g.sum=lE m f r d (dP m f r d e) w)&&decide (Ε m f r d e (λv=>g.getD v.toNat 0) (ϛ f d) r<w))) b)/\(b6 m g=false->∀b,δ H b->E (.ref T.BadLaying) none b))/\(¬(0<=r/\r<m)->∀b,δ H b->E (.ref T.NoPlace) none b)/\(0<=r->r<m->w<1->∀b,δ H b->E (.ref T.BadWish) none b)
abbrev pX:Stmt:=top 71
theorem Kv:ζ ["web","r","wanted","laying","least","counts"] ["web","r","wanted","laying"] (aG pX):=.of
abbrev oq(P w base)(T:Txt K L):=Cb P w K L base "enough" si ["web","r","wanted"] 9 (vE T)
abbrev ow(P w base)(T:Txt K L):=Cb P w K L base "total" qL ["numbers"] 1 (qC T)
theorem JL(T:Txt K L)(hq:bZ (ψ P w))(G:oq P w base T)(J:oe P w base T)(I:Cb P w K L base "most" Dd ["web","laying","r"] 9 (K7 T))(Z:ow P w base T):Ok P w K L base "is_worst" pX ["web","r","wanted","laying"] 10 (sO T):=λ_ _ D=>by
 refine D.F.gT Kv (by walk_at "v") λρ A q s H vs Q E n h=>?_;obtain⟨p,a,t,c,m,u,g,j,r,w,rfl,W,N,v,O,S,U,e,Y⟩:=h;refine⟨_,(aB (Η 4 (Χ G n cR (aa (γ 0) (aa (γ 1) (aa (γ 2) ax))))) (aB (Η 5 (Χ J n cR (aa (γ 0) (aa (γ 3) ax)))) (aL (bJ (Jb (nW kG (Χ Z n cR (aa (γ 5) ax)) (bh f8 (γ 4) aQ) (lY _)) (G4 (nW vo (Χ I n cR (aa (γ 0) (aa (γ 5) (aa (γ 1) ax)))) (γ 2) (lY _)))))))),?_⟩;walk_at "s";walk_at "";refine⟨p,t,m,u,g,r,w,rfl,W,O,S,λB y M=>?_,e,Y⟩;obtain⟨b,d,R,k,X⟩:=U B y M;refine⟨b,d,R,λH1 f=>⟨p,a,t,c,m,u,g,j,rfl,W.same f,δ.gE f N,v,λfi l C i _ x=>?_,λz C i=>X z C (f.trans i)⟩⟩;have k:=k fi;show qC T _ _ _ _;refine⟨l,j,rfl,.inr x,_,rfl,rfl,?_⟩;rw[Int.add_sub_cancel];by_cases o:j.sum=lE m g r b (dP m g r b d) w
 .rw[aj (by rw[o])];refine⟨p,l,t,false,m,u,g,j,r,rfl,W.same (f.trans i),x,v,λ_ _ _=>⟨b,d,R,λH3 V=>⟨_,rfl,?_⟩⟩,(λz=>by rw[fi]at z;cases z),λ_ z=>absurd ⟨B,y⟩ z⟩;have:=k _ (f.trans (i.trans V));rw[bq o,iH]at this;exact this
 .rw[ag (by intro z;injection z;contradiction)];have:=k _ (f.trans i);rw[b8 o,jF]at this;exact this
def tP(T:Txt K L):Sp:=λf H Q E=>E7 λ(p t:Addr)(m:Int)(e:gf)(d:hD)(r w:Int)=>f=[.ref p,.int r,.int w]/\μ T.Web H p m t e d/\w<=10^60/\-(10^60)<=w/\(0<=r->r<m->1<=w->∃b c,ε m d r b c/\(lE m d r b (dP m d r b c) w+1<=1000000000000->∀a,δ H a->Q .ο a)/\(1000000000000<lE m d r b (dP m d r b c) w+1->∀a,δ H a->E (.ref T.TooMany) none a))/\(¬(0<=r/\r<m)->∀a,δ H a->E (.ref T.NoPlace) none a)/\(0<=r->r<m->w<1->∀a,δ H a->E (.ref T.BadWish) none a)
abbrev lP:Stmt:=top 75
theorem Gz:ζ ["web","r","wanted"] ["web","r","wanted"] (aG lP):=.of
theorem nS:ώ (aG lP) "MOST_PEBBLES":=.of (by kernel_rfl)
theorem qI:ώ (aG lP) "TooMany":=.of (by kernel_rfl)
theorem Gk(T:Txt K L)(M:bZ (ψ P w))(n:oq P w base T):Ok P w K L base "check_told" lP ["web","r","wanted"] 10 (tP T):=λ_ _ D=>by
 refine D.F.gT Gz (by walk_at "v") λJ A i s H I Q E v h=>?_;obtain⟨p,t,m,z,f,r,w,rfl,W,q,u,k,e,y⟩:=h;refine⟨_,(aL (dQ (wY zK (Χ n v cR (aa (γ 0) (aa (γ 1) (aa (γ 2) ax)))) (xC nS.g T.aaH (hd:=nS.d)) (lY _)) (aL (nM T.zi rfl pK qI.g T.Qb (aa rh ax) (hdb:=qI.d))) cY)),?_⟩;walk_at "s";walk_at "";refine⟨p,t,m,z,f,r,w,rfl,W,q,u,λB x o=>?_,e,y⟩;obtain⟨a,b,R,G,C⟩:=k B x o;refine⟨a,b,R,λl j=>?_⟩;refine⟨_,rfl,?_⟩;by_cases c:1000000000000<lE m f r a (dP m f r a b) w+1
 .rw[aj c];exact⟨dz (by simp),C c l j⟩
 .rw[ag c];exact G (by lia) l j
structure acB(C O:Addr)(H:Hp)(o w tw lk aC lr lp ld lpk ldk:Addr)(m:Int)(ps:gf)(rs:hD)(v k:Int)(c at_:Nat)(cs csk:fc)(fr be:Bool):Prop where
 ob:∃dx fs,H o=some (.ins O dx fs)/\fs.lookup ("web":Str)=some (.ref w)/\fs.lookup ("kids":Str)=some (.ref lk)/\fs.lookup ("rests":Str)=some (.ref lr)
 web:μ C H w m tw ps rs
 v0:0<=v/\v<m
 k0:0<=k/\k<m
 ki:∃(kv:List V)(ks:fc),H lk=some (.lst kv)/\kv[v.toNat]?=some (.ref aC)/\H aC=some (.lst (ks.map V.int))/\ks[at_]?=some k
 re:E3 λ(rv lv pv:List V)=>H lr=some (.lst rv)/\rv[v.toNat]?=some (.ref lp)/\H lp=some (.lst lv)/\lv[at_+1]?=some (.ref ld)/\rv[k.toNat]?=some (.ref lpk)/\H lpk=some (.lst (.ref ldk::pv))
 ed:H ld=some (.lst (cs.map V.int))
 ek:H ldk=some (.lst (csk.map V.int))
 cl:cs.length<=24/\csk.length<=24
 cb:(∀c∈cs,c.natAbs<=2^15000)/\∀c∈csk,c.natAbs<=2^15000
 tl:ce rs k v=some (c:Int)
 c2:2<=c/\c<=1000000
 fb:E7 λ(dx:Addr)(fs:List (Str×V))(lw lb:Addr)(xs:fc)(cv:List V)(ob:Option Int)=>H o=some (.ins O dx fs)/\fs.lookup ("web":Str)=some (.ref w)/\fs.lookup ("weights":Str)=some (.ref lw)/\fs.lookup ("bearers":Str)=some (.ref lb)/\H lw=some (.lst (xs.map V.int))/\(xs.length:Int)=m/\H lb=some (.lst cv)/\cv[v.toNat]?=some (chV ob)/\fr=(decide (xs.getD k.toNat 0*(c:Int)=xs.getD v.toNat 0)&&decide (ob≠some k))/\be=decide (ob=some k)
theorem acB.same{C O:Addr}{H f:Hp}{o w r q p n s ld b d:Addr}{m:Int}{t:gf}{i:hD}{v k:Int}{c at_:Nat}{l a:fc}{g j:Bool}(e:δ H f)(h:acB C O H o w r q p n s ld b d m t i v k c at_ l a g j):acB C O f o w r q p n s ld b d m t i v k c at_ l a g j where
 ob:=let ⟨dx,fs,h1,h2⟩:=h.ob;⟨dx,fs,e _ _ h1,h2⟩
 web:=h.web.same e
 v0:=h.v0
 k0:=h.k0
 ki:=let ⟨kv,ks,h1,h2,h3,h4⟩:=h.ki;⟨kv,ks,e _ _ h1,h2,e _ _ h3,h4⟩
 re:=let ⟨rv,lv,pv,h1,h2,h3,h4,h5,h6⟩:=h.re;⟨rv,lv,pv,e _ _ h1,h2,e _ _ h3,h4,h5,e _ _ h6⟩
 ed:=e _ _ h.ed
 ek:=e _ _ h.ek
 cl:=h.cl
 cb:=h.cb
 tl:=h.tl
 c2:=h.c2
 fb:=let ⟨dx,fs,lw,lb,xs,cv,ob,h1,h2,h3,h4,h5,h6,h7,h8⟩:=h.fb;⟨dx,fs,lw,lb,xs,cv,ob,e _ _ h1,h2,h3,h4,e _ _ h5,h6,e _ _ h7,h8⟩
theorem Ll:∀(a:fc)(i:Nat),i<=a.length->(sfx a)[i]?=some (a.drop i)
 | [],0,_=>rfl
 | [],_+1,h=>by cases h
 | _::_,0,_=>rfl
 | _::a,i+1,h=>Ll a i (Nat.le_of_succ_le_succ h)
theorem TK{d:fv}{a:fc}(h:(a.map λk=>d k+1).sum<=23)(i:Nat):bts d (a.drop i)<=15000:=uE (by
 have e:(a.map λk=>d k+1).sum=((a.take i).map λk=>d k+1).sum+((a.drop i).map λk=>d k+1).sum:=by rw[<-fB,<-aI,cP]
 lia)
theorem ϙ.co{C O:Addr}{H:Hp}{o p t:Addr}{m:Int}{X:gf}{d:hD}{r:Int}{a:fm}{b:fv}{j:fc}{ld U S W Q:Addr}{kl:gf}{rv:List V}(h:ϙ C O H o p t m X d r a b j ld U S W Q kl rv (λv=>0<=v/\v<m)){v k:Int}{i:Nat}(f:0<=v/\v<m)(hk:(kd m d r a v)[i]?=some k):E7 λ(B G q s u:Addr)(y l:fc)=>acB C O H o p t W B Q G q s u m X d v k (cK d a k) i y l (ϡ m d r a b j k) (ϩ m d r a b j k)/\ϒ 15000 y (ς (ϡ m d r a b j) (ϩ m d r a b j) (λk g=>dO m d r a b j k (ω (cK d a k) g)) ((kd m d r a v).drop (i+1)))/\ϒ 15000 l (dO m d r a b j k):=by
 have g:=h.web.go;have R:=h.rt;have il:i<(kd m d r a v).length:=(aD.mp hk).1;have w:=(bz g R f.1 f.2).mp (aO hk);have N:((cK d a k:Nat):Int)=tup d a k:=bA (by have:=(iW g R w.1.1 w.1.2 w.2.1).1;lia);obtain⟨k',T,t2,t6⟩:=kC g R w.1.1 w.1.2 w.2.1;have Z:((cK d a k:Nat):Int)=k':=by
  rw[N];unfold tup;rw[T]
  rfl
 obtain⟨M,ob⟩:=h.ob;have z:(bM m.toNat)[v.toNat]?=some v:=by rw[fy (by lia),bA f.1]
 obtain⟨B,A,I⟩:=tm h.kp z;obtain⟨_,G,ϳ,h1,h2,h3,h4⟩:=h.Ϝ v f;obtain⟨q,D,y,Y,c2⟩:=tm h4 (Ll (kd m d r a v) (i+1) il);obtain⟨_,s,ak,g1,g2,g3,J⟩:=h.Ϝ k w.1;obtain⟨sr,es⟩:=xD (kd m d r a k);rw[es]at J;have F:=nZ (fr:=ϡ m d r a b j) (be:=ϩ m d r a b j) (c:=cK d a) g R w.1.1 w.1.2;cases J with
 | @cons u _ ldr _ e he=>
   obtain⟨l,d1,d2⟩:=e;have E:=c2.le (b':=15000) (TK (by have:=jP g R f.1 f.2;have:=qi g R f.1 f.2;have:=g.Ζ;lia) _);have x:=d2.le (b':=15000) (uE (by have:=jP g R w.1.1 w.1.2;have:=qi g R w.1.1 w.1.2;have:=g.Ζ;lia));refine⟨B,G,q,s,u,y,l,⟨⟨M,_,ob,qR _ _ _ _ _ _,qU _ _ _ _ _ _,qb _ _ _ _ _ _⟩,h.web,f,w.1,⟨_,_,h.hk,by rw[aJ,A];rfl,I,hk⟩,⟨_,_,_,h.hr,h1,h3,by rw[aJ,D];rfl,g1,g3⟩,Y,d1,⟨E.len,x.len⟩,⟨E.bt,x.bt⟩,by rw[Z,<-w.2.2];exact T,by lia,?_⟩,E,⟨x.ne,x.len,x.bt,λn=>(x.val n).trans ?_⟩⟩
   .refine⟨M,_,U,S,dP m d r a b,_,As m d r a b j v,ob,qR _ _ _ _ _ _,ye _ _ _ _ _ _,yg _ _ _ _ _ _,h.hw,?_,h.hb,(wN f.1).symm.trans (zZ f.1 f.2),?_,?_⟩
    .have:(dP m d r a b).length=m.toNat:=qK
     lia
    .unfold ϡ;rw[N,w.2.2,show(dP m d r a b).getD k.toNat 0=υ m d r a b k from gZ w.1.1 w.1.2,show(dP m d r a b).getD v.toNat 0=υ m d r a b v from gZ f.1 f.2]
    .unfold ϩ;rw[w.2.2]
   .show _=wy m d r a b (ϡ m d r a b j) (ϩ m d r a b j) (cK d a) k n;rw[F]
    rfl
def yR(T:Txt K L):Sp:=λn H Q _=>E22 λ(o w s r q p t ld e f:Addr)(m:Int)(u:gf)(i:hD)(v k z:Int)(c a:Nat)(g b:fc)(h j:Bool)=>n=[.ref o,.int v,.int a,.int z]/\acB T.Web T.Tally H o w s r q p t ld e f m u i v k c a g b h j/\a<=24/\-70<=z/\z+1<=2^64/\∀l d,H l=none->δ H d->d l=some (.lst ((ϧ (ϲ m.toNat (ϻ g b c z))).map V.int))->Q (.ref l) d
abbrev sy:Stmt:=top 87
theorem PZ:ζ ["tally","place","at","left","kid","before","given","ways_behind"] ["tally","place","at","left"] (aG sy):=.of
theorem C8:ώ (aG sy) "range":=.of (by kernel_rfl)
theorem Qf(T:Txt K L)(hq:bZ (ψ P w))(kP:Cb P w K L base "differences" kH ["values"] 1 (sA T))(dL:jy P w base T)(jh:lN P w base T):Ok P w K L base "course" sy ["tally","place","at","left"] 6 (yR T):=λ_ _ D=>by
 refine D.F.ϖ PZ (by walk_at "v") λρ A U s H vs Q E hr h=>?_;obtain⟨o,w,tw,lk,aC,lr,lp,ld,M,af,m,ps,rs,v,k,z,c,b,p,a,X,be,rfl,C,bS,z0,z1,q⟩:=h;have g:=C.web.go;have m1:=g.m1;have Ζ:=g.Ζ;refine⟨_,(aB (Η 4 (Ο bX (oH bX (cD (γ 0) rfl) (γ 1) (λ_ _=>rfl)) (γ 2))) (aB (Η 5 (gF (aa aQ ax))) (aB (fq PassesOwn.never rfl (lD C8.g T.range (aa (bh f8 (cD (cD (γ 0) rfl) rfl) aQ) ax)) (ϐ 6) (aB (Η 7 (Μ dL hr hq (aa (Ο bX (oH bX (cD (γ 0) rfl) (γ 1) (λ_ _=>rfl)) (bh gc (γ 2) aQ)) (aa (bh f8 (γ 3) (γ 6)) ax)))) (aL (eM (nN PySem.F.plainAttrs_list PySem.F.slot_list_append PySem.F.type_list_append ic (γ 5) (aa (bh gc (Ο bX (γ 5) (Du zF aQ)) (bh qF (Μ jh hr hq (aa (γ 0) (aa (γ 1) (aa (γ 4) (aa (γ 6) ax))))) (γ 7))) ax)))))) (aL (bJ (Μ kP hr hq (aa (γ 5) ax))))))),?_⟩;walk_at "s";refine eZ λN1 h1=>?_;walk_at "";obtain⟨x,y,B,fw,fk,X⟩:=C.ob;obtain⟨kv,ks,O,ab,al,W⟩:=C.ki;have gk:Ϧ (ks.map V.int) (b:Int)=some (V.int k):=dj (by lia) (by rw[bR,aJ,W];rfl);refine⟨T.Tally,x,y,B,T.di,T.χ,_,fk,Φ O (dj C.v0.1 ab) (Φ al gk (h1 _ _ (eZ λN2 h2=>?_)))⟩;walk_at "";refine⟨dz (by simp),λf t=>h2 _ _ (eZ λN3 h3=>?_)⟩;have I:=δ.new (HO.lst [V.int 0]) t;have e1:upd H f (HO.lst [V.int 0]) f=some (.lst ((ϲ 1 (ϻ p a c z)).map V.int)):=aE;generalize upd H f (HO.lst [V.int 0])=H1 at I e1 ⊢;walk_at "";obtain⟨dw,Y⟩:=C.web.ob;refine⟨T.Tally,x,y,I _ _ B,T.di,T.Δ,_,fw,w,rfl,T.Web,dw,_,I _ _ Y,T.iw,T.Κ,_,fU _ _,?_⟩;refine⟨m,rfl,by lia,by lia,?_⟩;refine Oq (lo:=0) (n:=(m-1).toNat) (λi σ G=>δ H G/\G f=some (.lst ((ϲ (i+1) (ϻ p a c z)).map V.int))/\∃S J,σ=[some (V.ref o),some (V.int v),some (V.int b),some (V.int z),some (V.int k),some (V.ref f),S,J]) ⟨I,e1,_,_,rfl⟩ ?_ ?_
 .rintro i σ G N BB ϓ hN hi ⟨s5,e5,S,J,rfl⟩;refine ϓ _ _ (eZ λM1 k1=>?_);rw[cM];have C5:=C.same s5;obtain⟨rv,lv,pv,r1,r2,r3,r4,r5,r6⟩:=C5.re;have gl:Ϧ lv ((b:Int)+1)=some (.ref ld):=dj (by lia) (by rw[show((b:Int)+1).toNat=b+1 by lia];exact r4);have d:-100<=z-(i:Int):=by lia
  have u:z-(i:Int)+1<=2^64:=by lia
  walk_at "";refine⟨T.Tally,x,y,s5 _ _ B,T.di,T.ϴ,_,X,Φ r1 (dj C.v0.1 r2) (Φ r3 gl ?_)⟩;refine⟨ld,p,z-(i:Int),rfl,ν.of C5.ed,by have:=C.cl.1;lia,d,iK (k:=65) (by lia) (by decide),CG C.cb.1,λj hj=>wn d u (by have:=C.cl.1;lia),λH6 e=>k1 _ _ ?_⟩;have r:=s5.trans e;have C6:=C5.same e;have R:=e _ _ e5;have ai:i<=24:=by lia
  have hb:ω c i+1<=2^25:=by
   unfold ω;have h1:(i+1)*c<=25*1000000:=cg (by lia) C.c2.2;have h2:(2:Nat)^25=33554432:=rfl
   lia
  have Y:(Ω a (ω c i) 0).natAbs<ϫ:=LH (z:=((ω c i:Nat):Int)) (by lia) (by lia) C.cl.2 C.cb.2;have ae:Ϧ ((ϲ (i+1) (ϻ p a c z)).map V.int) (-1)=some (V.int (Υ i (ϻ p a c z))):=by
   unfold ϲ;rw[df,aI,aI];exact Lu _ _
  have Z:((ϲ (i+1) (ϻ p a c z)).map V.int).length=i+1:=by unfold ϲ;rw[ah,ah,bG]
  walk_at "";refine⟨tyL R,Φ R ae ?_⟩;refine⟨o,x,w,tw,lr,M,af,y,m,ps,rs,rv,pv,v,k,c,i,a,rfl,r _ _ B,fw,X,C6.web,C.v0,C.k0,C.tl,C.c2.1,C.c2.2,e _ _ r1,r5,e _ _ r6,C6.ek,C.cl.2,ai,CG C.cb.2,λH7 s7=>⟨_,rfl,r9 Y (LH d u C.cl.1 C.cb.1),_,rfl,?_⟩⟩;refine tX (s7 _ _ R) (fV (by rw[Z];lia)) (hN _ _ ⟨(r.trans s7).put t _,?_,_,_,rfl⟩);rw[aE];unfold ϲ;rw[df (n:=i+1),aI,aI]
  rfl
 .rintro BB σ G ϓ ⟨s5,e5,S,J,rfl⟩;refine ϓ _ _ (h3 _ _ ?_);walk_at "";have em:(m-1).toNat+1=m.toNat:=by lia
  rw[em]at e5;exact⟨f,_,rfl,ν.of e5,by unfold ϲ;rw[ah,bG];lia,λl H6 nl e Z=>q l H6 (s5.free nl) (s5.trans e) Z⟩
def wT(T:Txt K L):Sp:=λe H Q _=>E4 λ(a:Addr)(b:fc)(top:Nat)(z:Int)=>e=[.ref a,.int top,.int z]/\ν K H a (b.map V.int)/\b.length<=100/\top+1<ϫ/\(∀c∈b,c.natAbs<ϫ)/\(∀n k,n<=top->k<b.length->ch n k<ϫ)/\∀(g:Nat)(d:Hp),g<=top->(g=0\/Ω b g 0<=z)->(g=top\/z<Ω b (g+1) 0)->δ H d->Q (.int g) d
abbrev qv:Stmt:=top 85
theorem Ec:ζ ["before","top","number","low","high","middle"] ["before","top","number"] (aG qv):=.of
theorem Em(T:Txt K L)(S:bZ (ψ P w))(y:jy P w base T):Ok P w K L base "last_within" qv ["before","top","number"] 2 (wT T):=λ_ _ D=>by
 refine D.F.ϖ Ec (by walk_at "v") λρ A l s H Z Q E J h=>?_;obtain⟨a,f,top,z,rfl,I,B,tb,cb,O,k⟩:=h;refine⟨_,(aB (Η 3 aQ) (aB (Η 4 (γ 1)) (aB (rX PassesOwn.never (Ϭ vo (γ 3) (γ 4)) (aB (Η 5 (bh i9 (bh gc (bh gc (γ 3) (γ 4)) aQ) aQ)) (aL (dQ (Ϭ xP (Μ y J S (aa (γ 0) (aa (γ 5) ax))) (γ 2)) (aL (Η 3 (γ 5))) (aL (Η 4 (bh f8 (γ 5) aQ))))))) (aL (bJ (γ 3)))))),?_⟩;walk_at "s";refine eZ λX M=>?_;walk_at "";refine M _ _ (eZ λW R=>?_);walk_at "";refine R _ _ (eZ λY U=>?_);refine wW (λn u g=>E3 λ(lo d:Nat)(q:Option V)=>n=d-lo/\lo<=d/\d<=top/\(lo=0\/Ω f lo 0<=z)/\(d=top\/z<Ω f (d+1) 0)/\δ H g/\u=[some (V.ref a),some (V.int top),some (V.int z),some (V.int lo),some (V.int d),q]) top ⟨0,top,_,rfl,bB _,az _,.inl rfl,.inl rfl,δ.refl _,rfl⟩ ?_;rintro n u g N r j ⟨lo,d,q,rfl,l1,o,m,p,s,rfl⟩;walk_at "";by_cases c:lo<d
 .rw[aj (by lia)];refine⟨N,λG H2 w=>?_,⟨by decide,by decide⟩,?_⟩
  .obtain⟨m',lt,lo',hi',v',e1,e2,e3,e4,e5,e6,e7⟩:=j _ _ w
   first|exact⟨m',lt,lo',hi',v',e1,e2,e3,e4,e5,e6,e7⟩|exact⟨m',lt,lo',hi',e1,e2,e3,e4,e5,e6,v',e7⟩
  obtain⟨b,x⟩:∃b:Nat,((lo:Int)+(d:Int)+1)/2=(b:Int):=⟨(((lo:Int)+(d:Int)+1)/2).toNat,by lia⟩;rw[x];have m1:lo<b:=by lia
  have C:b<=d:=by lia
  refine⟨a,f,(b:Int),rfl,s.seq I,B,by lia,(show b<ϫ by lia),cb,λk v=>(show ch b k<ϫ from O b k (by lia) v),λH3 t=>⟨_,rfl,?_⟩⟩;rw[qM];by_cases i:Ω f b 0<=z
  .rw[aj i];exact r (d-b) _ _ (by lia) ⟨b,d,_,rfl,C,o,.inr i,p,s.trans t,rfl⟩
  .rw[ag i];have e:((b:Int)-1)=((b-1:Nat):Int):=(by lia);rw[e];exact r (b-1-lo) _ _ (by lia) ⟨lo,b-1,_,rfl,by lia,by lia,m,.inr (by rw[show b-1+1=b by lia];lia),s.trans t,rfl⟩
 .rw[ag (by lia)];refine U _ _ ?_;walk_at "";have e:d=lo:=by lia
  subst e;exact k d g o m p s
def Bi(T:Txt K L):Sp:=λp H Q _=>E23 λ(o w t s r q u ld i j:Addr)(m:Int)(x:gf)(n:hD)(v k a:Int)(c b z:Nat)(h d:fc)(f e:Bool)=>p=[.ref o,.int v,.int b,.int z,.int a]/\acB T.Web T.Tally H o w t s r q u ld i j m x n v k c b h d f e/\b<=24/\(z:Int)+1<=2^64/\∀(g:Nat)(l:Hp),g<=z->(e=true->g=z)->(e=false->f=false->g=0)->(e=false->f=true->(g=0\/Ω (ϧ (ϲ m.toNat (ϻ h d c z))) g 0<=a)/\(g=z\/a<Ω (ϧ (ϲ m.toNat (ϻ h d c z))) (g+1) 0))->δ H l->Q (.int g) l
abbrev ui:Stmt:=top 84
theorem JU:ζ ["tally","place","at","left","number","kid"] ["tally","place","at","left","number"] (aG ui):=.of
abbrev ox(P w base)(T:Txt K L):=Cb P w K L base "course" sy ["tally","place","at","left"] 6 (yR T)
theorem KY(T:Txt K L)(N:bZ (ψ P w))(sg:ox P w base T)(mE:lj P w base T)(tR:Cb P w K L base "last_within" qv ["before","top","number"] 2 (wT T)):Ok P w K L base "given_by" ui ["tally","place","at","left","number"] 7 (Bi T):=λ_ _ D=>by
 refine D.F.ϖ JU (by walk_at "v") λρ A u s H vs Q E I h=>?_;obtain⟨o,w,tw,lk,aC,lr,lp,ld,r,B,m,Y,Z,v,k,p,c,a,z,W,f,fr,G,rfl,C,J,O,q⟩:=h;have m1:=C.web.go.m1;have Ζ:=C.web.go.Ζ;refine⟨_,(aB (Η 5 (Ο bX (oH bX (cD (γ 0) rfl) (γ 1) (λ_ _=>rfl)) (γ 2))) (aB (dQ (Ϭ kG (γ 5) (Ο bX (cD (γ 0) rfl) (γ 1))) (aL (bJ (γ 3))) cY) (aB (dQ (lO (kR (Μ mE I N (aa (γ 0) (aa (γ 1) (aa (γ 5) ax)))))) (aL (bJ aQ)) cY) (aL (bJ (Μ tR I N (aa (Μ sg I N (aa (γ 0) (aa (γ 1) (aa (γ 2) (aa (γ 3) ax))))) (aa (γ 3) (aa (γ 4) ax))))))))),?_⟩;walk_at "s";refine eZ λN1 h1=>?_;walk_at "";obtain⟨dx,fs,ho,fw,fk,af⟩:=C.ob;obtain⟨kv,ks,t,y,M,x⟩:=C.ki;have gk:Ϧ (ks.map V.int) (a:Int)=some (V.int k):=dj (by lia) (by rw[bR,aJ,x];rfl);refine⟨T.Tally,dx,fs,ho,T.di,T.χ,_,fk,Φ t (dj C.v0.1 y) (Φ M gk (h1 _ _ ?_))⟩;obtain⟨e,i,lw,lb,xs,cv,ob,X,e2,e3,U,e5,e6,R,S,e9,d⟩:=C.fb;walk_at "";refine⟨T.Tally,e,i,X,T.di,T.vF,_,U,Φ R (dj C.v0.1 S) ?_⟩;refine⟨by cases ob<;>rfl,?_⟩;by_cases cb:ob=some k
 .have eb:G=true:=by rw[d];exact bq cb
  rw[aj (by rw[cb];rfl)];exact q z H (az _) (λ_=>rfl) (λz=>by rw[eb]at z;cases z) (λz=>by rw[eb]at z;cases z) (δ.refl _)
 .have eb:G=false:=by rw[d];exact b8 cb
  rw[ag (λz=>cb (by cases ob with|none=>cases z|some b=>unfold chV at z;injection z with z;rw[z]))];refine⟨o,e,w,tw,lw,lb,i,m,Y,Z,xs,cv,v,k,(c:Int),ob,rfl,X,e2,e3,U,C.web,e5,e6,R,C.v0,C.k0,S,C.tl,by have:=C.c2.1;lia,by have:=C.c2.2;lia,⟨_,rfl,?_⟩⟩;rw[<-e9];cases fr with
  | false=>
    rw[aj rfl];exact q 0 H (bB _) (λz=>by rw[eb]at z;cases z) (λ_ _=>rfl) (λ_ z=>by cases z) (δ.refl _)
  | true=>
    rw[ag (by decide)];refine⟨o,w,tw,lk,aC,lr,lp,ld,r,B,m,Y,Z,v,k,(z:Int),c,a,W,f,true,G,rfl,C,J,by lia,O,λl H1 nl s1 el=>?_⟩;have a1:(ϧ (ϲ m.toNat (ϻ W f c z))).length<=24:=(by rw[En];unfold ϲ;rw[ah,bG];lia);refine⟨l,_,z,p,rfl,ν.of el,by lia,iK (k:=65) (by lia) (by decide),Lp (by lia) (by lia) O C.c2.2 C.cl.1 C.cl.2 C.cb.1 C.cb.2,λn j hn hj=>(show(chZ (n:Int) j).natAbs<ϫ from wn (by lia) (by lia) (by lia)),λg H2 g1 g2 g3 s2=>q g H2 g1 (λz=>by rw[eb]at z;cases z) (λ_ z=>by cases z) (λ_ _=>⟨g2,g3⟩) (s1.trans s2)⟩
def sv(T:Txt K L):Sp:=λn H Q _=>E23 λ(o w s r q p t ld d e:Addr)(m:Int)(u:gf)(j:hD)(v k z:Int)(c a:Nat)(i b:fc)(h l:Bool)(g:Nat)=>n=[.ref o,.int v,.int a,.int z,.int g]/\acB T.Web T.Tally H o w s r q p t ld d e m u j v k c a i b h l/\a<=24/\-70<=z/\z+1<=2^64/\(g:Int)+1<=2^64/\∀f,δ H f->Q (.int (if h=true then Ω (ϧ (ϲ m.toNat (ϻ i b c z))) g 0 else 0)) f
abbrev nP:Stmt:=top 86
theorem EV:ζ ["tally","place","at","left","given"] ["tally","place","at","left","given"] (aG nP):=.of
theorem DY(T:Txt K L)(B:bZ (ψ P w))(sg:ox P w base T)(R:lj P w base T)(dL:jy P w base T):Ok P w K L base "ways_before" nP ["tally","place","at","left","given"] 7 (sv T):=λ_ _ D=>by
 refine D.F.ϖ EV (by walk_at "v") λρ A f s H vs Q E u h=>?_;obtain⟨o,w,O,lk,aC,lr,Y,ld,d,r,m,M,N,v,k,z,c,a,J,b,Z,be,g,rfl,C,x,I,G,g1,q⟩:=h;have m1:=C.web.go.m1;have Ζ:=C.web.go.Ζ;refine⟨_,(aB (dQ (lO (kR (Μ R u B (aa (γ 0) (aa (γ 1) (aa (Ο bX (oH bX (cD (γ 0) rfl) (γ 1) (λ_ _=>rfl)) (γ 2)) ax)))))) (aL (bJ aQ)) cY) (aL (bJ (Μ dL u B (aa (Μ sg u B (aa (γ 0) (aa (γ 1) (aa (γ 2) (aa (γ 3) ax))))) (aa (γ 4) ax)))))),?_⟩;walk_at "s";walk_at "";obtain⟨dx,fs,ho,fw,S,W⟩:=C.ob;obtain⟨kv,ks,e,p,y,i⟩:=C.ki;have gk:Ϧ (ks.map V.int) (a:Int)=some (V.int k):=dj (by lia) (by rw[bR,aJ,i];rfl);refine⟨T.Tally,dx,fs,ho,T.di,T.χ,_,S,Φ e (dj C.v0.1 p) (Φ y gk ?_)⟩;obtain⟨n,t,lw,lb,xs,cv,ob,e1,e2,e3,e4,U,X,e7,e8,e9,_⟩:=C.fb;refine⟨o,n,w,O,lw,lb,t,m,M,N,xs,cv,v,k,(c:Int),ob,rfl,e1,e2,e3,e4,C.web,U,X,e7,C.v0,C.k0,e8,C.tl,by have:=C.c2.1;lia,by have:=C.c2.2;lia,⟨_,rfl,?_⟩⟩;rw[<-e9];cases Z with
 | false=>
   rw[aj rfl];exact q H (δ.refl _)
 | true=>
   rw[ag (by decide)];refine⟨o,w,O,lk,aC,lr,Y,ld,d,r,m,M,N,v,k,z,c,a,J,b,true,be,rfl,C,x,I,G,λl H1 nl s1 el=>?_⟩;have am:(ϧ (ϲ m.toNat (ϻ J b c z))).length<=24:=by rw[En];unfold ϲ;rw[ah,bG];lia
   exact⟨l,_,(g:Int),rfl,ν.of el,by lia,by lia,iK (k:=65) (by lia) (by decide),Lp (by lia) I G C.c2.2 C.cl.1 C.cl.2 C.cb.1 C.cb.2,λj hj=>wn (by lia) g1 (by lia),λH2 s2=>q H2 (s1.trans s2)⟩
def M6(H:Hp)(l:Addr)(a:gJ):Prop:=∃c:List (Key×V),H l=some (.dK c)/\Paired (λ(b:Key×V)(x:Int×Nat×Int)=>b.1=.inl x.1/\∃q,b.2=.ref q/\H q=some (.tup [.int x.2.1,.int x.2.2])) c a
theorem LY:∀{c:List (Key×V)}{a:gJ}{R:V->Int×Nat×Int->Prop}{k:Int},Paired (λ(b:Key×V)(x:Int×Nat×Int)=>b.1=.inl x.1/\R b.2 x) c a->k∉a.map (·.1)->gN c (.inl k)=none
 | _,_,_,_,.nil,_=>rfl
 | _,_,R,k,.cons h t,n=>by
   rw[jK (λz=>n (by rw[aq];rw[h.1]at z;injection z with z;rw[<-z];exact .head _))];exact LY (R:=R) t λz=>n (by rw[aq];exact .tail _ z)
def yL(m:Int)(d:hD)(r:Int)(b:fm)(c:fv)(e:fc)(v:Int)(z:Nat)(I:Nat->Nat->Int->List (Int×Nat×Int)->Prop):Prop:=∀(i:Nat)(k:Int)(a:Nat)(j:Int)(l:gJ)(g:Nat)(h f:fc),(kd m d r b v)[i]?=some k->a<=z->I i a j l->g<=a->ϒ 15000 h (ς (ϡ m d r b c e) (ϩ m d r b c e) (λk g=>dO m d r b c e k (ω (cK d b k) g)) ((kd m d r b v).drop (i+1)))->ϒ 15000 f (dO m d r b c e k)->(ϩ m d r b c e k=true->g=a)->(ϩ m d r b c e k=false->ϡ m d r b c e k=false->g=0)->(ϩ m d r b c e k=false->ϡ m d r b c e k=true->(g=0\/Ω (ϧ (ϲ m.toNat (ϻ h f (cK d b k) a))) g 0<=j)/\(g=a\/j<Ω (ϧ (ϲ m.toNat (ϻ h f (cK d b k) a))) (g+1) 0))->0<Ω h (a-g) 0/\Ω h (a-g) 0<2^9000/\I (i+1) (a-g) ((j-(if ϡ m d r b c e k=true then Ω (ϧ (ϲ m.toNat (ϻ h f (cK d b k) a))) g 0 else 0))%Ω h (a-g) 0) (l++[(k,ω (cK d b k) g,(j-(if ϡ m d r b c e k=true then Ω (ϧ (ϲ m.toNat (ϻ h f (cK d b k) a))) g 0 else 0))/Ω h (a-g) 0)])
def wZ(T:Txt K L):Sp:=λi H Q _=>E21 λ(o p t:Addr)(m:Int)(y:gf)(f:hD)(r:Int)(a:fm)(d:fv)(h:fc)(ld u n x k:Addr)(j:gf)(q:List V)(v c:Int)(z:Nat)(I:Nat->Nat->Int->List (Int×Nat×Int)->Prop)=>i=[.ref o,.int v,.int z,.int c]/\ϙ T.Web T.Tally H o p t m y f r a d h ld u n x k j q (λv=>0<=v/\v<m)/\(0<=v/\v<m)/\(z:Int)+1<=2^64/\I 0 z c []/\yL m f r a d h v z I/\∀(l:Addr)(g:Hp)(e:Nat)(s:Int)(b:gJ),I (kd m f r a v).length e s b->b.map (·.1)=kd m f r a v->H l=none->δ H g->M6 g l b->Q (.ref l) g
abbrev kQ:Stmt:=top 83
theorem sE:ζ ["tally","place","held","number","found","left","at","kid","given","ways_behind"] ["tally","place","held","number"] (aG kQ):=.of
theorem wQ:NmL (aG kQ) "number":=.of (by kernel_rfl)
theorem yG:NmL (aG kQ) "left":=.of (by kernel_rfl)
theorem uR:ώ (aG kQ) "enumerate":=.of (by kernel_rfl)
abbrev oI(P w base)(T:Txt K L):=Cb P w K L base "ways_before" nP ["tally","place","at","left","given"] 7 (sv T)
theorem Ef(T:Txt K L)(hq:bZ (ψ P w))(xq:Cb P w K L base "given_by" ui ["tally","place","at","left","number"] 7 (Bi T))(pN:jM P w base T)(dL:jy P w base T)(ms:oI P w base T):Ok P w K L base "handed_down" kQ ["tally","place","held","number"] 8 (wZ T):=λ_ _ D=>by
 refine D.F.ϖ sE (by walk_at "v") λρ A bk s H vs Q E hr h=>?_;obtain⟨o,p,t,m,ps,e,r,b,a8,tl,ld,lw,lb,lk,lr,kl,rv,v,a3,z,I,rfl,TA,vm,z1,i0,st,q⟩:=h;have hu:=sJ hr;have g:=TA.web.go;have R:=TA.rt;have dT:(kd m e r b v).length<=24:=Ci g;refine⟨_,(aB (Η 4 Tv) (aB (Η 5 (γ 2)) (aB (fq PassesOwn.never rfl (wP true uR.g T.enumerate (Ο bX (cD (γ 0) rfl) (γ 1))) (j1 (n:=2) rfl (cH (ϐ 6) (cH (ϐ 7) gX))) (aB (Η 8 (Μ xq hr hq (aa (γ 0) (aa (γ 1) (aa (γ 6) (aa (γ 5) (aa (γ 3) ax))))))) (aB (uI (i:=3) sE.nd rfl (Or.inl wQ.l) (Μ ms hr hq (aa (γ 0) (aa (γ 1) (aa (γ 6) (aa (γ 5) (aa (γ 8) ax)))))) HC) (aB (uI (i:=5) sE.nd rfl (Or.inl yG.l) (γ 8) HC) (aB (Η 9 (Μ dL hr hq (aa (Ο bX (oH bX (cD (γ 0) rfl) (γ 1) (λ_ _=>rfl)) (bh gc (γ 6) aQ)) (aa (γ 5) ax)))) (aB (zX hu (γ 4) (γ 7) (m7 (aa (Μ pN hr hq (aa (γ 0) (aa (γ 1) (aa (γ 7) (aa (γ 8) ax))))) (aa (bh RM (γ 3) (γ 9)) ax))) rfl) (aL (Η 3 (bh iz (γ 3) (γ 9)))))))))) (aL (bJ (γ 4)))))),?_⟩;walk_at "s";refine eZ λN1 h1=>?_;walk_at "";refine λU X=>h1 _ _ (eZ λN2 h2=>?_);have s1:=δ.new (HO.dK []) X;have e1:M6 (upd H U (HO.dK [])) U []:=⟨[],aE,.nil⟩;generalize upd H U (HO.dK [])=H1 at s1 e1 ⊢;walk_at "";refine h2 _ _ (eZ λN3 h3=>?_);walk_at "";obtain⟨dx,ob⟩:=TA.ob;have b0:(bM m.toNat)[v.toNat]?=some v:=by rw[fy (by lia),bA vm.1]
 obtain⟨aC,a6,ar⟩:=tm TA.kp b0;refine⟨T.Tally,dx,_,s1 _ _ ob,T.di,T.χ,_,qU _ _ _ _ _ _,Φ (s1 _ _ TA.hk) (dj vm.1 (by rw[aJ,a6];rfl)) ⟨aC,rfl,⟨_,ν.of (s1 _ _ ar)⟩,?_⟩⟩;refine BQ (K:=K) (c:=true) (xs:=(kd m e r b v).map V.int) (λi σ O=>δ H O/\E7 λ(a:Nat)(G:Int)(d:gJ)(v6 v7 v8 v9:Option V)=>a<=z/\I i a G d/\M6 O U d/\d.map (·.1)=(kd m e r b v).take i/\σ=[some (V.ref o),some (V.int v),some (V.int z),some (V.int G),some (V.ref U),some (V.int a),v6,v7,v8,v9]) ⟨s1,z,a3,[],_,_,_,_,az _,i0,e1,rfl,rfl⟩ (λi σ O y=>ν.of (y.1 _ _ ar)) ?_ ?_
 .rintro i x σ O q' N hN hx ⟨s2,a,G,d,v6,v7,v8,v9,lz,ii,hd,am,rfl⟩ nq;obtain⟨k,hk,rfl⟩:=List.ι hx;have il:=(aD.mp hk).1;have s3:=s2.trans (δ.new (HO.tup [V.int (i:Int),V.int k]) nq);have ck:upd O q' (HO.tup [V.int (i:Int),V.int k]) q'=some (.tup [V.int (i:Int),V.int k]):=aE;have Z:M6 (upd O q' (HO.tup [V.int (i:Int),V.int k])) U d:=let ⟨η,a1,a2⟩:=hd;⟨η,δ.new _ nq _ _ a1,Paired.imp' (λkv x ⟨b1,q0,b2,b3⟩=>⟨b1,q0,b2,δ.new _ nq _ _ b3⟩) a2⟩;walk_at "";refine⟨_,Ξ.of ck,rfl,_,_,rfl,_,_,rfl,rfl,?_⟩;generalize upd O q' (HO.tup [V.int (i:Int),V.int k])=H3 at s3 Z ⊢;have cr:=TA.same s3;obtain⟨ak,lp,M,ab,ae,Y,S,C,c1,c2⟩:=cr.co vm hk;have af:i<=24:=by lia
  refine⟨o,p,t,lk,ak,lr,lp,M,ab,ae,m,ps,e,v,k,G,cK e b k,i,a,Y,S,_,_,rfl,C,af,by lia,λu H4 g1 g2 g3 g4 s4=>?_⟩;obtain⟨w0,w1,nx⟩:=st i k a G d u Y S hk lz ii g1 c1 c2 g2 g3 g4;have C4:=C.same s4;refine⟨o,p,t,lk,ak,lr,lp,M,ab,ae,m,ps,e,v,k,(a:Int),cK e b k,i,Y,S,_,_,u,rfl,C4,af,by lia,by lia,by lia,λH5 s5=>⟨_,rfl,_,rfl,?_⟩⟩;have bY:=s4.trans s5;have C5:=C4.same s5;obtain⟨cu,a9,cv,er,d0,cn⟩:=C5.ob;obtain⟨dv,cf,em,r1,r2,r3,r4,r5,r6⟩:=C5.re;have gl:Ϧ cf ((i:Int)+1)=some (.ref M):=dj (by lia) (by rw[show((i:Int)+1).toNat=i+1 by lia];exact r4);refine⟨T.Tally,cu,a9,cv,T.di,T.ϴ,_,cn,Φ r1 (dj vm.1 r2) ⟨_,rfl,Φ r3 gl ?_⟩⟩;have el:(a:Int)-(u:Int)=((a-u:Nat):Int):=by lia
  rw[el];have es:=C.cl.1;refine⟨M,Y,((a-u:Nat):Int),rfl,ν.of C5.ed,by lia,by lia,iK (k:=65) (by lia) (by decide),CG C.cb.1,λj hj=>wn (by lia) (by lia) (by lia),λH6 s6=>?_⟩;rw[qM];have C6:=C5.same s6;obtain⟨bp,cd,cc,bl,_,_⟩:=C6.ob;have eh:((u:Int)+1)*((cK e b k:Nat):Int)-1=((ω (cK e b k) u:Nat):Int):=by
   have dw:=C.c2.1;unfold ω;have:1<=(u+1)*cK e b k:=cg (show 1<=u+1 by lia) (show 1<=cK e b k by lia);rw[kF this,jc]
   rfl
  generalize Ω Y (a-u) 0=W at w0 w1 nx ⊢;generalize (if ϡ m e r b a8 tl k=true then Ω (ϧ (ϲ m.toNat (ϻ Y S (cK e b k) ↑a))) u 0 else 0)=B at nx ⊢;refine(show sQ T _ _ _ _ from⟨o,bp,p,t,cd,m,ps,e,v,k,((cK e b k:Nat):Int),u,rfl,cc,bl,C6.web,vm,C.k0,C.tl,by have:=C.c2.1;lia,by have:=C.c2.2;lia,?_⟩);rw[eh];have a4:=bY.trans s6;obtain⟨η,a1,a2⟩:=Z;refine⟨W,rfl,⟨w0,(oS (by lia)).mpr (by lia)⟩,dz (by simp),λpq be=>?_⟩;have s7:=δ.new (HO.tup [V.int (ω (cK e b k) u:Nat),V.int ((G-B)/W)]) be;have e7:upd H6 pq (HO.tup [V.int (ω (cK e b k) u:Nat),V.int ((G-B)/W)]) pq=some (.tup [V.int (ω (cK e b k) u:Nat),V.int ((G-B)/W)]):=aE;have J:=a4.trans s7;generalize upd H6 pq (HO.tup [V.int (ω (cK e b k) u:Nat),V.int ((G-B)/W)])=H7 at s7 e7 J ⊢;have a7:=J _ _ a1;have al:d.length=i:=by rw[<-ah (f:=λx:Int×Nat×Int=>x.1),am,bE];lia
  have dt:η.length=d.length:=Paired.length a2;have kn:k∉d.map (·.1):=λy=>by
   rw[am]at y;have nd:(kd m e r b v).Nodup:=jQ;obtain⟨j,hj,ej⟩:=kL y;rw[bE]at hj;rw[List.getElem_take]at ej;have:=(lS (show j<(kd m e r b v).length by lia) nd).mp (show(kd m e r b v)[j]?=(kd m e r b v)[i]? by rw[hk,ay (by lia),ej])
   lia
  have ca:=LY (R:=λy x=>∃q,y=V.ref q/\H3 q=some (.tup [.int x.2.1,.int x.2.2])) a2 kn;refine⟨_,aaM.k (k:=Sum.inl k) a7 (fV (by lia)),W,rfl,w0,hN _ _ ⟨(s3.trans J).put X _,a-u,(G-B)%W,d++[(k,ω (cK e b k) u,(G-B)/W)],_,_,_,_,by lia,nx,?_,?_,rfl⟩⟩
  .rw[IX _ ca];refine⟨_,aE,K6 ⟨rfl,pq,rfl,by rw[aN (fM e7 a7 (by intro z;cases z))];exact e7⟩ (Paired.imp' (λkv x ⟨b1,q0,b2,b3⟩=>⟨b1,q0,b2,by rw[aN (fM (J _ _ b3) a7 (by intro z;cases z))];exact J _ _ b3⟩) a2)⟩
  .rw[aI,am,hG,hk]
   rfl
 .rintro σ O ⟨s2,a,G,d,v6,v7,v8,v9,lz,ii,hd,am,rfl⟩;rw[ah]at ii;refine h3 _ _ ?_;walk_at "";exact q U O a G d ii (by rw[am,ah,bL]) X s2 hd
theorem Dv:∀(a d:List (Key×V))(j:Key),(∃b∈a,b.1=j/\gN (kW d a) j=some b.2)\/((∀b∈a,b.1≠j)/\gN (kW d a) j=gN d j)
 | [],d,j=>.inr ⟨λ_ h=>(by cases h),rfl⟩
 | p::r,d,j=>by
   rcases Dv r (jp d p.1 p.2) j with⟨b,h1,h2,h3⟩|⟨h1,h2⟩
   .exact .inl ⟨b,.tail _ h1,h2,h3⟩
   .have e:gN (kW d (p::r)) j=gN (jp d p.1 p.2) j:=h2;rw[BP]at e;by_cases c:j=p.1
    .rw[aj c]at e;exact .inl ⟨p,.head _,c.symm,e⟩
    .rw[ag c]at e;exact .inr ⟨λb hk=>by
      rcases aw.mp hk with rfl|hk
      .exact λz=>c z.symm
      .exact h1 b hk,e⟩
theorem OC{g f:Type}{R:g->f->Prop}:∀{d:List g}{c:List f},Paired R d c->(∀a∈d,∃b∈c,R a b)/\∀b∈c,∃a∈d,R a b
 | _,_,.nil=>⟨λ_ h=>(by cases h),λ_ h=>(by cases h)⟩
 | _,_,.cons h t=>by
   obtain⟨j,i⟩:=OC t;refine⟨λa ha=>?_,λb hb=>?_⟩
   .rcases aw.mp ha with rfl|ha
    .exact⟨_,.head _,h⟩
    .obtain⟨b,hb,e⟩:=j a ha;exact⟨b,.tail _ hb,e⟩
   .rcases aw.mp hb with rfl|hb
    .exact⟨_,.head _,h⟩
    .obtain⟨a,ha,e⟩:=i b hb;exact⟨a,.tail _ ha,e⟩
def WB(H:Hp)(J:Int->Nat->Int->Prop)(a:List (Key×V))(u:Int):Prop:=E3 λ(q:Addr)(h:Nat)(n:Int)=>gN a (.inl u)=some (.ref q)/\H q=some (.tup [.int h,.int n])/\J u h n
def yW(T:Txt K L):Sp:=λk H Q _=>E20 λ(o p t:Addr)(m:Int)(D:gf)(d:hD)(r:Int)(a:fm)(e:fv)(j:fc)(ld B u C s:Addr)(q:gf)(y:List V)(b:Int)(z:Nat)(J:Int->Nat->Int->Prop)=>k=[.ref o,.int z,.int b]/\ϙ T.Web T.Tally H o p t m D d r a e j ld B u C s q y (λv=>0<=v/\v<m)/\(0<=r/\r<m)/\J r z b/\(∀(v:Int)(h:Nat)(n:Int),0<=v->v<m->J v h n->(h:Int)+1<=2^64/\∃I:Nat->Nat->Int->List (Int×Nat×Int)->Prop,I 0 h n []/\yL m d r a e j v h I/\∀f A c,I (kd m d r a v).length f A c->∀x∈c,J x.1 x.2.1 x.2.2)/\∀(l:Addr)(g:fc)(i:Hp),(g.length:Int)=m->(∀v,0<=v->v<m->(kd m d r a v=[]->∃(h:Nat)(n:Int),g.getD v.toNat 0=h/\J v h n)/\(kd m d r a v≠[]->g.getD v.toNat 0=0))->H l=none->δ H i->i l=some (.tup (g.map V.int))->Q (.ref l) i
abbrev sR:Stmt:=top 82
theorem HE:ζ ["tally","held","number","counts","waiting","place","own"] ["tally","held","number"] (aG sR):=.of
theorem Hq(T:Txt K L)(hq:bZ (ψ P w))(tU:Cb P w K L base "handed_down" kQ ["tally","place","held","number"] 8 (wZ T)):Ok P w K L base "laying_at" sR ["tally","held","number"] 9 (yW T):=λ_ _ D=>by
 refine D.F.ϖ HE (by walk_at "v") λρ A ci s H vs Q E hr h=>?_;obtain⟨o,p,t,m,ps,C,r,d,f,tl,ld,lw,lb,lk,lr,kl,rv,G,z,J,rfl,TA,rm,jr,jj,q⟩:=h;have hu:=sJ hr;have g:=TA.web.go;have R:=TA.rt;refine⟨_,(aB (Η 3 (bh qf (gF (aa aQ ax)) (cD (cD (γ 0) rfl) rfl))) (aB (Η 4 (L1 (Jj (Ο bX (cD (γ 0) rfl) aQ) (m7 (aa (γ 1) (aa (γ 2) ax))) Lq) rfl rfl (List.cons_ne_nil _ _) (by decide))) (aB (fq PassesOwn.never rfl (iB (cD (γ 0) rfl)) (ϐ 5) (aB (Η 6 (La hu (γ 4) (γ 5) (λ_ _=>rfl))) (aB (dQ (lO (u9 (Ο bX (cD (γ 0) rfl) (γ 5)) (λ_=>rfl))) (aL (nz (Ο lW (γ 6) aQ) (oW (γ 3) (γ 5) iR))) cY) (aL (eM (nN PySem.F.plainAttrs_dict PySem.F.slot_dict_update PySem.F.type_dict_update Oz (γ 4) (aa (Μ tU hr hq (aa (γ 0) (aa (γ 5) (aa (Ο lW (γ 6) aQ) (aa (Ο lW (γ 6) aQ) ax))))) ax))))))) (aL (bJ (pct kO T.tuple (aa (γ 3) ax))))))),?_⟩;walk_at "s";refine eZ λN1 h1=>?_;walk_at "";have m1:=g.m1;have Ζ:=g.Ζ;obtain⟨dx,ob⟩:=TA.ob;obtain⟨dw,wb⟩:=TA.web.ob;refine⟨dz (by simp),λp0 cA=>?_⟩;have s0:=δ.new (HO.lst [V.int 0]) cA;have e0:upd H p0 (HO.lst [V.int 0]) p0=some (.lst [V.int 0]):=aE;generalize upd H p0 (HO.lst [V.int 0])=H0 at s0 e0 ⊢;have b1:(List.replicate m.toNat [V.int 0]).flatten=(List.replicate m.toNat (0:Int)).map V.int:=by
  rw[gU]
  induction m.toNat with
  | zero=>rfl
  | succ n ih=>rw[cN,fN,ih,cN];rfl
 refine⟨T.Tally,dx,_,s0 _ _ ob,T.di,T.Δ,_,qR _ _ _ _ _ _,p,rfl,T.Web,dw,_,s0 _ _ wb,T.iw,T.Κ,_,fU _ _,p0,m,_,rfl,rfl,e0,by lia,by lia,dz (by show 1*m.toNat<=100000;lia),λlc a3=>h1 _ _ (eZ λN2 h2=>?_)⟩;rw[b1];have s1:=s0.trans (δ.new (HO.lst ((List.replicate m.toNat (0:Int)).map V.int)) a3);have e1:upd H0 lc (HO.lst ((List.replicate m.toNat (0:Int)).map V.int)) lc=some (.lst ((List.replicate m.toNat (0:Int)).map V.int)):=aE;have cm:=s0.free a3;generalize upd H0 lc (HO.lst ((List.replicate m.toNat (0:Int)).map V.int))=H1 at s1 e1 ⊢;unfold GH;walk_at "";intro O ae;have u2:=δ.new (HO.dK []) ae;have e2:upd H1 O (HO.dK []) O=some (.dK []):=aE;have a6:=s1.free ae;have aS:lc≠O:=λy=>by rw[<-y,e1]at ae;cases ae
 generalize upd H1 O (HO.dK [])=H2 at u2 e2 ⊢;have s2:=s1.trans u2;have gd:Ϧ ((cI m C r d f r).map V.int) 0=some (V.int r):=by
  rw[TA.et];exact dj (bw 0) rfl
 refine⟨T.Tally,dx,_,s2 _ _ ob,T.di,T.wq,_,rH _ _ _ _ _ _,Φ (s2 _ _ TA.hd) gd ⟨dz (by simp),λW c6=>?_⟩⟩;have u3:=δ.new (HO.tup [V.int z,V.int G]) c6;have e3:upd H2 W (HO.tup [V.int z,V.int G]) W=some (.tup [V.int z,V.int G]):=aE;have ad:=u3 _ _ e2;generalize upd H2 W (HO.tup [V.int z,V.int G])=H3 at u3 e3 ad ⊢;refine⟨ad,[(.inl r,.ref W)],rfl,(show 1<=15 by decide),h2 _ _ (eZ λN3 h3=>?_)⟩;have s3:=((s2.trans u3).put a6 (HO.dK [(.inl r,.ref W)]));have e4:upd H3 O (HO.dK (kW [] [(.inl r,.ref W)])) O=some (.dK [(.inl r,.ref W)]):=aE;have be:upd H3 O (HO.dK (kW [] [(.inl r,.ref W)])) lc=some (.lst ((List.replicate m.toNat (0:Int)).map V.int)):=by rw[aN aS];exact u3 _ _ (u2 _ _ e1)
 have a7:upd H3 O (HO.dK (kW [] [(.inl r,.ref W)])) W=some (.tup [V.int z,V.int G]):=by rw[aN (fM e3 ad (by intro y;cases y))];exact e3
 have s4:δ H (upd H3 O (HO.dK (kW [] [(.inl r,.ref W)]))):=s3;generalize upd H3 O (HO.dK (kW [] [(.inl r,.ref W)]))=H4 at s4 e4 be a7 ⊢;clear u2 u3 e2 ad e3 s2 s3;walk_at "";refine⟨T.Tally,dx,_,s4 _ _ ob,T.di,T.wq,_,rH _ _ _ _ _ _,ld,rfl,⟨_,ν.of (s4 _ _ TA.hd)⟩,?_⟩;have pn:∀u,0<=u->u<m->u∈cI m C r d f r:=λu u0 u1=>by
  rw[TA.et];rcases TA.or.all u u0 u1 with rfl|y
  .exact .head _
  .exact .tail _ y
 have nd:(cI m C r d f r).Nodup:=by rw[TA.et];exact TA.or.nd
 have pr:∀u∈cI m C r d f r,0<=u/\u<m:=λu hu=>by
  rw[TA.et]at hu;rcases aw.mp hu with rfl|y
  .exact rm
  .exact TA.or.Ι u y
 have pl:(cI m C r d f r).length<=24:=Ih g R rm.1 rm.2;refine j7 (K:=K) (xs:=(cI m C r d f r).map V.int) (λi σ Y=>δ H Y/\E4 λ(xs:fc)(Z:List (Key×V))(v5 v6:Option V)=>Y lc=some (.lst (xs.map V.int))/\Y O=some (.dK Z)/\xs.length=m.toNat/\Z.length<=1+24*i/\(∀u,(u=r\/(0<=u/\u<m/\u≠r/\d u∈(cI m C r d f r).take i))->WB Y J Z u)/\(∀u,0<=u->u<m->(u∈(cI m C r d f r).take i->(kd m C r d u=[]->∃(h:Nat)(n:Int),xs.getD u.toNat 0=h/\J u h n)/\(kd m C r d u≠[]->xs.getD u.toNat 0=0))/\(u∉(cI m C r d f r).take i->xs.getD u.toNat 0=0))/\σ=[some (V.ref o),some (V.int z),some (V.int G),some (V.ref lc),some (V.ref O),v5,v6]) ⟨s4,_,_,_,_,be,e4,cC ..,(show 1<=1+24*0 by decide),?_,?_,rfl⟩ (λi σ Y _ y=>ν.of (y.1 _ _ TA.hd)) ?_ ?_
 .rintro u (rfl|⟨_,_,_,y⟩)
  .exact⟨W,z,G,jJ rfl,a7,jr⟩
  .cases y
 .intro u u0 u1;refine⟨λy=>(by cases y),λ_=>?_⟩;rw[bo,fX];split<;>rfl
 .rintro i y σ Y N BB ϓ hN hy ⟨s5,xs,Z,v5,v6,ex,ew,xl,kl5,wt,pr5,rfl⟩;obtain⟨v,hv,rfl⟩:=List.ι hy;have X:=pr v (aO hv);have il:=(aD.mp hv).1;refine ϓ _ _ (eZ λM1 k1=>?_);have cn:WB Y J Z v:=by
   refine wt v ?_;rw[TA.et]at hv ⊢;cases i with
   | zero=>exact .inl (bu hv).symm
   | succ j=>
     have aT:tl[j]?=some v:=hv;have vt:=aO aT;have vr:=TA.or.ne vt;refine .inr ⟨X.1,X.2,vr,?_⟩;have au:=After.up (A:=tl.take (j+1)) (B:=tl.drop (j+1)) (S:=[r]) (by rw[cP];exact TA.or.af) v (by rw[hG,aT];exact bf _ (.head _));have pd:=(R.up v X.1 X.2 vr).2.2;rw[List.take_succ_cons];rcases au with y|y
     .rw[aK.mp y];exact .head _
     .rw[hG,aT]at y;rcases ba.mp y with y|y
      .exact .tail _ y
      .have:d v=v:=aK.mp y;rw[this]at pd
       lia
  obtain⟨q0,h0,n0,w1,w2,w3⟩:=cn;obtain⟨hb,I,i0,c1,cf⟩:=jj v h0 n0 X.1 X.2 w3;walk_at "";have dg:=ϵ.k (H:=Y) (k:=Sum.inl v) ew;rw[w1]at dg;refine⟨_,dg,k1 _ _ (eZ λM2 k2=>?_)⟩;have cy:(bM m.toNat)[v.toNat]?=some v:=by rw[fy (by lia),bA X.1]
  obtain⟨aC,b3,bm⟩:=tm TA.kp cy;have ak:(cI m C r d f r).take (i+1)=(cI m C r d f r).take i++[v]:=by rw[hG,hv];rfl
  have a4:∀(U:fc)(H6:Hp),δ H H6->H6 lc=some (.lst (U.map V.int))->H6 O=some (.dK Z)->(∀q x,Y q=some (.tup x)->H6 q=some (.tup x))->U.length=m.toNat->(∀u,0<=u->u<m->(u∈(cI m C r d f r).take (i+1)->(kd m C r d u=[]->∃(h:Nat)(n:Int),U.getD u.toNat 0=h/\J u h n)/\(kd m C r d u≠[]->U.getD u.toNat 0=0))/\(u∉(cI m C r d f r).take (i+1)->U.getD u.toNat 0=0))->M2 [some (V.ref o),some (V.int z),some (V.int G),some (V.ref lc),some (V.ref O),some (V.int v),some (V.ref q0)] H6:=by
   intro U H6 s6 b2 av tp cp c3;refine k2 _ _ ?_;have e6:=tp _ _ w2;walk_at "";refine⟨.inr (.inr (.inl ⟨rfl,.inl ⟨_,av⟩⟩)),ixT e6 rfl (ixT e6 rfl ?_)⟩;refine⟨o,p,t,m,ps,C,r,d,f,tl,ld,lw,lb,lk,lr,kl,rv,v,n0,h0,I,rfl,TA.same s6,X,hb,i0,c1,λl H7 bl nu an ie am nl s7 hd=>?_⟩;obtain⟨M,c2,bd⟩:=hd;have a8:=s7 _ _ av;have ca:O≠l:=λy=>by rw[<-y,av]at nl;cases nl
   have ml:M.length=an.length:=Paired.length bd;have al:an.length<=24:=by
    have h1:=congrArg List.length am;rw[ah]at h1;have h2:(kd m C r d v).length<=24:=Ci g
    lia
   have kp:∀q x,H7 q=some (.tup x)->upd H7 O (HO.dK (kW Z M)) q=some (.tup x):=λq x e=>by rw[aN (fM e a8 (by intro y;cases y))];exact e
   refine⟨O,l,Z,M,rfl,rfl,a8,c2,ca,dz (by lia),hN _ _ ⟨(s6.trans s7).put a6 _,U,_,_,_,by rw[aN aS];exact s7 _ _ b2,aE,cp,?_,λu hu=>?_,c3,rfl⟩⟩
   .have:=qo M Z
    lia
   .obtain⟨pm1,pm2⟩:=OC bd;rcases Dv M Z (.inl u)with⟨kv,k1',k2',k3'⟩|⟨k1',k2'⟩
    .obtain⟨x,hx,x1,q1,x2,x3⟩:=pm1 kv k1';have xu:x.1=u:=(by rw[x1]at k2';exact Sum.inl.inj k2');exact⟨q1,x.2.1,x.2.2,by rw[k3',x2],kp _ _ x3,xu▸cf bl nu an ie x hx⟩
    .have old:u=r\/(0<=u/\u<m/\u≠r/\d u∈(cI m C r d f r).take i):=by
      rcases hu with y|⟨y1,y2,y3,y4⟩
      .exact .inl y
      .rw[ak]at y4;rcases ba.mp y4 with y4|y4
       .exact .inr ⟨y1,y2,y3,y4⟩
       .have pu:d u=v:=aK.mp y4;have uk:u∈kd m C r d v:=(bz g R X.1 X.2).mpr ⟨⟨y1,y2⟩,y3,pu⟩;rw[<-am]at uk;obtain⟨x,hx,e⟩:=aU.mp uk;obtain⟨kv,cv,cl,_⟩:=pm2 x hx;exact absurd (by rw[cl,e]) (k1' kv cv)
     obtain⟨q1,ct,cB,o1,o2,o3⟩:=wt u old;exact⟨q1,ct,cB,by rw[k2'];exact o1,kp _ _ (s7 _ _ (tp _ _ o2)),o3⟩
  walk_at "";refine⟨T.Tally,dx,_,s5 _ _ ob,T.di,T.χ,_,qU _ _ _ _ _ _,Φ (s5 _ _ TA.hk) (dj X.1 (by rw[aJ,b3];rfl)) ?_⟩;have vn:v∉(cI m C r d f r).take i:=λy=>by
   obtain⟨j,hj,ej⟩:=kL y;rw[bE]at hj;rw[List.getElem_take]at ej;have:=(lS (show j<(cI m C r d f r).length by lia) nd).mp (show(cI m C r d f r)[j]?=(cI m C r d f r)[i]? by rw[hv,ay (by lia),ej])
   lia
  have v1:v∈(cI m C r d f r).take (i+1):=by rw[ak];exact bf _ (.head _)
  have un:∀u,u≠v->(u∈(cI m C r d f r).take (i+1)↔u∈(cI m C r d f r).take i):=λu nu=>by
   rw[ak];exact⟨λy=>(ba.mp y).elim id λy=>absurd (aK.mp y) nu,λy=>bC _ y⟩
  by_cases c:kd m C r d v=[]
  .refine⟨false,.inl ⟨_,ν.of (s5 _ _ bm),by rw[c];rfl⟩,?_⟩;rw[aj rfl];refine ixT w2 rfl (rE ex X.1 (by rw[ah];lia) ?_);rw[<-ee];refine a4 (xs.set v.toNat h0) _ (s5.put cm _) aE (by rw[aN (Ne.symm aS)];exact ew) (λq x e=>by rw[aN (fM e ex (by intro y;cases y))];exact e) (by rw[b4];exact xl) λu u0 u1=>?_;rw[kK _ _ _ _ (by lia)];by_cases cu:u=v
   .subst cu;rw[aj rfl];exact⟨λ_=>⟨λ_=>⟨h0,n0,rfl,w3⟩,λy=>absurd c y⟩,λy=>absurd v1 y⟩
   .rw[ag (by lia),un u cu];exact pr5 u u0 u1
  .refine⟨true,.inl ⟨_,ν.of (s5 _ _ bm),by cases e:kd m C r d v with|nil=>exact absurd e c|cons a b=>rfl⟩,?_⟩;rw[ag (by decide)];refine a4 xs Y s5 ex ew (λ_ _ e=>e) xl λu u0 u1=>?_;by_cases cu:u=v
   .subst cu;exact⟨λ_=>⟨λy=>absurd y c,λ_=>(pr5 u u0 u1).2 vn⟩,λy=>absurd v1 y⟩
   .rw[un u cu];exact pr5 u u0 u1
 .rintro BB σ Y ϓ ⟨s5,xs,Z,v5,v6,ex,ew,xl,kl5,wt,pr5,rfl⟩;rw[ah,bL]at pr5;refine ϓ _ _ (h3 _ _ ?_);walk_at "";refine⟨_,.inl ⟨ν.of ex,λl nl=>q l xs _ (by lia) (λu u0 u1=>(pr5 u u0 u1).1 (pn u u0 u1)) (s5.free nl) (s5.trans (δ.new _ nl)) aE⟩⟩
theorem CW{m:Int}{b:hD}{r:Int}{a:fm}{c:fv}(g:Good m b)(R:ε m b r a c)(k:Int)(e:0<=k)(d:k<m)(f:k≠r):(cK b a k:Int)=tup b a k:=bA (by have:=(iW g R e d f).1;lia)
theorem ZC{m:Int}{f:hD}{r:Int}{c:fm}{e:fv}{s:fc}(g:Good m f)(R:ε m f r c e)(O:Order m r c s){v:Int}{z:Nat}(t:0<=v)(u:v<m)(I:υ m f r c e v*((z:Int)+1)<=2^64):yL m f r c e s v z (λ_ j _ y=>j<=z/\∀x∈y,υ m f r c e x.1*((x.2.1:Int)+1)<=2^64):=by
 intro i k j N y A J F E S ⟨_,G⟩ Q D _ _ _ _;have M:=(iY g R t u).1;obtain⟨B,C,H⟩:=(bz g R t u).mp (aO E);have o:∀a:Nat,a<=z->υ m f r c e v*((a:Int)+1)<=2^64:=λa h=>bW (bU (by lia) (by lia)) I;have q:∀x∈(kd m f r c v).drop (i+1),x∈kd m f r c v:=λx h=>cL h;have l:∀x∈kd m f r c v,0<=x/\x<m:=λx h=>((bz g R t u).mp h).1;have b:=LX (fr:=ϡ m f r c e s) (be:=ϩ m f r c e s) g R O (CW g R) (x:=64) t u (λx h=>LK g R O (CW g R) _ (l x h).1 (l x h).2 (az _)) q (o (j-A) (by lia));have p:=uz (fr:=ϡ m f r c e s) (be:=ϩ m f r c e s) (ws:=λk g=>dO m f r c e s k (ω (cK f c k) g)) (ks:=(kd m f r c v).drop (i+1)) (λx h n=>wS g R _ (l x (q x h)).1 (l x (q x h)).2 (az _) _) (j-A);have d:=uV (λk=>Bv m f r c e k+1) (kd m f r c v) (i+1);rw[jP g R t u]at d;have dl:=qi g R t u;have Ζ:=g.Ζ;rw[D.val];refine⟨by unfold dO at p ⊢;lia,Int.lt_of_le_of_lt b (by
  rw[show(2:Int)^9000=2^8999*2 from Int.pow_succ ..];have:=Cd (a:=64*(((kd m f r c v).drop (i+1)).map λk=>Bv m f r c e k+1).sum) (b:=8999) (by lia);have:=mQ 8999
  lia),by lia,λx hx=>?_⟩
 rcases ba.mp hx with hx|hx
 .exact G x hx
 .rw[aK.mp hx];have:=DZ g R O B.1 B.2 C (CW g R k B.1 B.2 C) A;rw[H]at this;exact bW this (o A (by lia))
def RkI(m:Int)(c:hD)(r:Int)(a:fm)(b:fv)(e:fc)(v:Int)(z:Nat)(h:Int)(i d:Nat)(j:Int)(l:gJ):Prop:=d<=z/\0<=j/\j<ς (ϡ m c r a b e) (ϩ m c r a b e) (λk g=>dO m c r a b e k (ω (cK c a k) g)) ((kd m c r a v).drop i) d/\∃ch:List (Int×Nat×Int),l=ch.map (λx=>(x.1,ω (cK c a x.1) x.2.1,x.2.2))/\(∀x∈ch,x.2.1<=z/\0<=x.2.2/\x.2.2<dO m c r a b e x.1 (ω (cK c a x.1) x.2.1))/\∀f,Rk (ϡ m c r a b e) (ϩ m c r a b e) (λk g=>dO m c r a b e k (ω (cK c a k) g)) ((kd m c r a v).drop i) d f j->Rk (ϡ m c r a b e) (ϩ m c r a b e) (λk g=>dO m c r a b e k (ω (cK c a k) g)) (kd m c r a v) z (ch++f) h
theorem Zw{m:Int}{e:hD}{r:Int}{a:fm}{d:fv}{l:fc}(g:Good m e)(R:ε m e r a d)(O:Order m r a l){v p:Int}{z:Nat}(y:0<=v)(E:v<m)(hz:υ m e r a d v*((z:Int)+1)<=2^64):yL m e r a d l v z (RkI m e r a d l v z p):=by
 intro i k j Z S n V t s N ⟨_,n0,Y,ch,ea,A,P⟩ M o H F ge G;have D:∀v,0<=v->v<m->v≠r->1<=cK e a v/\cK e a v<=1000000:=λx X W U=>by
  have:=iW g R X W U;unfold cK
  lia
 have fb:∀k,ϡ m e r a d l k=true->ϩ m e r a d l k=false:=λk h=>by
  unfold ϡ at h;unfold ϩ;rw[bK]at h;have:=bF h.2;exact b8 this
 have hw:∀x∈kd m e r a v,∀i,1<=(λk g=>dO m e r a d l k (ω (cK e a k) g)) x i:=λx hx i=>by
  have I:=((bz g R y E).mp hx).1;exact wS g R _ I.1 I.2 (az _) _
 have u:=λ(q:Nat)(hq:q<=j+1)=>Md (fr:=ϡ m e r a d l) (be:=ϩ m e r a d l) (c:=cK e a) g R D y E s o H hq;obtain⟨Q,a2,⟨a3,a4⟩,T⟩:=Rk.go s hw P n0 Y M (λ_ b=>F b) (λf b=>ge b f) (λf=>by
  have B:=u n (by lia);have C:=u (n+1) (by lia);unfold By at B C;rw[aj f,aj f]at B C;have:=G (fb k f) f;rw[B,C]at this;exact this)
 have J:=ZC g R O y E hz i k j Z [] n V t s N ⟨N,λx hx=>(by cases hx)⟩ M o H F ge G;refine⟨J.1,J.2.1,?_⟩;rw[o.val,u n (by lia)];exact⟨by lia,Q,a2,ch++[(k,n,_)],by rw[ea,aI];rfl,λx hx=>by
  rcases ba.mp hx with hx|hx
  .exact A x hx
  .rw[aK.mp hx];exact⟨show n<=z by lia,a3,a4⟩,T⟩
theorem aqa{m:Int}{c:hD}{r:Int}{a:fm}{b:fv}{p:fc}(g:Good m c)(R:ε m c r a b)(O:Order m r a p){n u:fv}{o:fm}(N:Nsp m c r a b (ϡ m c r a b p) (ϩ m c r a b p) (cK c a) n u o){v:Int}(j:0<=v)(l:v<m)(z:υ m c r a b v*((n v:Int)+1)<=2^64):∃I:Nat->Nat->Int->List (Int×Nat×Int)->Prop,I 0 (n v) (o v) []/\yL m c r a b p v (n v) I/\∀d q i,I (kd m c r a v).length d q i->∀x∈i,x.2.1=n x.1/\x.2.2=o x.1/\υ m c r a b x.1*((x.2.1:Int)+1)<=2^64:=by
 have bd:=N.bd g R j l;rw[nZ g R j l]at bd;refine⟨RkI m c r a b p v (n v) (o v),⟨az _,bd.1,bd.2,[],rfl,λx s=>(by cases s),λB h=>h⟩,Zw g R O j l z,?_⟩;rintro d q i ⟨_,F,y,ch,rfl,_,P⟩ x s;rw[dh]at y P;have:q=0:=by have:q<1:=y;lia
 subst this;have h:=P [] (.nil _);rw[b7]at h;have e:ch=(kd m c r a v).map λk=>(k,u k,o k):=h.inj (Ip g R j l) (N.at_ v j l) rfl;subst e;rw[iG]at s;obtain⟨k,A,rfl⟩:=aU.mp s;obtain⟨f,t,C⟩:=(bz g R j l).mp A;have D:=(N.kid g R f.1 f.2 t).2.1;have w:=DZ g R O f.1 f.2 t (CW g R k f.1 f.2 t) (u k);rw[C]at w D;have E:=(iY g R j l).1;exact⟨(N.up k f.1 f.2 t).symm,rfl,bW w (bW (bU (by lia) (by lia)) z)⟩
def Bo(T:Txt K L):Sp:=λj H Q E=>E8 λ(p t:Addr)(m:Int)(k:gf)(d:hD)(r w e:Int)=>j=[.ref p,.int r,.int w,.int e]/\μ T.Web H p m t k d/\w<=10^60/\-(10^60)<=w/\(0<=r->r<m->1<=w->∃a b,ε m d r a b/\(lE m d r a (dP m d r a b) w+1<=1000000000000->∀f,Order m r a f->cI m d r a b r=r::f->((0<=e/\e<dO m d r a b f r (w-1).toNat)->∀(l:Addr)(g:fc)(h n:fv)(i:fm)(c:Hp),Nsp m d r a b (ϡ m d r a b f) (ϩ m d r a b f) (cK d a) h n i->(h r:Int)=w-1->i r=e->(g.length:Int)=m->(∀v,0<=v->v<m->g.getD v.toNat 0=if kd m d r a v=[]then(h v:Int)else 0)->H l=none->δ H c->c l=some (.tup (g.map V.int))->Q (.ref l) c)/\(¬(0<=e/\e<dO m d r a b f r (w-1).toNat)->∀c,δ H c->E (.ref T.NoNumber) none c))/\(1000000000000<lE m d r a (dP m d r a b) w+1->∀c,δ H c->E (.ref T.TooMany) none c))/\(¬(0<=r/\r<m)->∀c,δ H c->E (.ref T.NoPlace) none c)/\(0<=r->r<m->w<1->∀c,δ H c->E (.ref T.BadWish) none c)
abbrev pO:Stmt:=top 73
theorem Kc:ζ ["web","r","wanted","number","tally"] ["web","r","wanted","number"] (aG pO):=.of
theorem t9:ώ (aG pO) "Tally":=.of (by kernel_rfl)
theorem qZ:ώ (aG pO) "NoNumber":=.of (by kernel_rfl)
abbrev pe(P w base)(T:Txt K L):=Cb P w K L base "check_told" lP ["web","r","wanted"] 10 (tP T)
theorem Kk(T:Txt K L)(hq:bZ (ψ P w)){θ:Addr}{eU:FuncData}(hW:Fun K "__init__" "Tally.__init__" fF θ eU)(pU:Binds K eU ["self","web","r"] [])(pP:Mk K T.Tally θ)(Γ:Ψ P w K L base (ψ P w) 10 θ eU ["self","web","r"] (mV T))(mZ:pe P w base T)(vQ:Cb P w K L base "laying_at" sR ["tally","held","number"] 9 (yW T))(mJ:kf P w base T):Ok P w K L base "worst_at" pO ["web","r","wanted","number"] 12 (Bo T):=λ_ _ D=>by
 refine D.F.gT Kc (by walk_at "v") λρ A ad s H vs Q E hr h=>?_;obtain⟨p,t,m,ps,i,r,w,q,rfl,W,w2,w0,k,e,e'⟩:=h;have g:=W.go;refine⟨_,(aB (eM (Χ mZ hr cR (aa (γ 0) (aa (γ 1) (aa (γ 2) ax))))) (aB (Η 4 (wU pP Γ (hr.mono (by decide)) t9.g T.Eb pU .nil cR (aa (γ 0) (aa (γ 1) ax)) (hdb:=t9.d))) (aB (dQ (lO (Bz xP vo aQ (γ 3) (Χ mJ hr cR (aa (γ 4) (aa (γ 1) (aa (bh f8 (γ 2) aQ) ax)))))) (aL (nM T.ut rfl pK qZ.g T.Cy (aa rh ax) (hdb:=qZ.d))) cY) (aL (bJ (Χ vQ hr cR (aa (γ 4) (aa (bh f8 (γ 2) aQ) (aa (γ 3) ax))))))))),?_⟩;walk_at "s";walk_at "";refine⟨p,t,m,ps,i,r,w,rfl,W,w2,w0,λy B w1=>?_,e,e'⟩;obtain⟨a,f,R,k1,k2⟩:=k y B w1;refine⟨a,f,R,λcb Z s1=>?_,k2⟩;dsimp only;intro x U hx am ne;have af:upd Z U (.own x) x=none:=by rw[aN ne.symm];exact hx
 have s0:δ Z (upd (upd Z U (.own x)) x (.ins T.Tally U [])):=(δ.new _ am).trans (δ.new _ af);refine⟨x,U,p,t,m,ps,i,r,rfl,aE,(W.same s1).same s0,⟨y,B⟩,a,f,R,λG ld lw lb lk lr kl rv H2 TA kp=>⟨rfl,?_⟩⟩;have s2:δ Z H2:=λb o e=>kp b o (s0 b o e) (cG e hx);have C:=s1.trans s2;obtain⟨k3,k4⟩:=k1 cb G TA.or TA.et;obtain⟨n,rfl⟩:∃n:Nat,w=((n+1:Nat):Int):=⟨(w-1).toNat,by lia⟩;have Y:((n+1:Nat):Int)-1=(n:Int):=by lia
 have top:=VP g R y B w1;have W1:=(iY g R y B).1;have nb:(n:Int)+1<=2^64:=xc W1 (by lia) (b:=2^64) (by rw[show(n:Int)+1=((n+1:Nat):Int)from rfl];lia);rw[Y,bR]at k3 k4;rw[Y];have O:∀H',δ H H'->¬(0<=q/\q<dO m i r a f G r n)->[V.str (Str.ofString "no worst laying has this number")].length<=sizeLine/\E (Value.ref T.NoNumber) none H':=λH' s' h=>⟨dz (by simp),k4 h H' s'⟩;by_cases J:0<=q
 .rw[aj J];obtain⟨_,lp,ϳ,h1,h2,h3,h4⟩:=TA.Ϝ r ⟨y,B⟩;obtain⟨sr,es⟩:=xD (kd m i r a r);rw[es]at h4;obtain⟨ae,ob⟩:=TA.ob;have ak:=nZ (fr:=ϡ m i r a f G) (be:=ϩ m i r a f G) (c:=cK i a) g R y B;cases h4 with
  | cons e he=>
    obtain⟨cs,I,c2⟩:=e;have c3:=c2.le (b':=15000) (uE (by have:=jP g R y B;have:=qi g R y B;have:=g.Ζ;lia));have cl:=c3.len;refine⟨x,ae,lr,lp,_,_,rv,_,r,cs,n,rfl,ob,qb _ _ _ _ _ _,TA.hr,y,h1,h3,I,by lia,iK (k:=64) (by lia) (by decide),λc hc=>iK (c3.bt c hc) (by decide),λj hj=>EA (x:=64) (by lia) (by lia),λH3 X=>?_⟩;have ew:Ω cs n 0=dO m i r a f G r n:=by
     rw[c3.val];unfold dO;rw[ak]
    rw[ew];refine⟨_,rfl,?_⟩;by_cases I:q<dO m i r a f G r n
    .rw[ag (by lia)];obtain⟨cn,gv,S,NS,en,eb⟩:=Nsp.ex (fr:=ϡ m i r a f G) (be:=ϩ m i r a f G) (c:=cK i a) g R y B J I;refine⟨x,p,t,m,ps,i,r,a,f,G,ld,lw,lb,lk,lr,kl,rv,q,n,λu h nu=>h=cn u/\nu=S u/\υ m i r a f u*((h:Int)+1)<=2^64,rfl,TA.same X,⟨y,B⟩,⟨en.symm,eb.symm,(show υ m i r a f r*((n+1:Nat):Int)<=2^64 by lia)⟩,?_,λl xs H4 xl xv nl s4 el=>k3 ⟨J,I⟩ l xs cn gv S H4 NS (by lia) eb xl (λv M N=>?_) (C.free (X.free nl)) (C.trans (X.trans s4)) el⟩
     .rintro v h nu M N ⟨rfl,rfl,hw⟩;exact⟨xc (iY g R M N).1 (by lia) hw,aqa g R TA.or NS M N hw⟩
     .split
      .rename_i kz
       obtain⟨h,nu,Y,rfl,_⟩:=(xv v M N).1 kz;exact Y
      .rename_i kz
       exact(xv v M N).2 kz
    .rw[aj I];exact O _ (C.trans X) λz=>I z.2
 .rw[ag J];exact O _ C λz=>J z.1
def yq(T:Txt K L):Sp:=λg H Q _=>E7 λ(p t:Addr)(m:Int)(f:gf)(c:hD)(r:Int)(n:Nat)=>g=[.ref p,.int r,.int (n+1:Nat)]/\μ T.Web H p m t f c/\(0<=r/\r<m)/\n+1<=2^4000/\∃a b,ε m c r a b/\∀d e,Order m r a d->cI m c r a b r=r::d->δ H e->Q (.int (dO m c r a b d r n)) e
abbrev pC:Stmt:=top 72
theorem Gn:ζ ["web","r","wanted"] ["web","r","wanted"] (aG pC):=.of
theorem rR:ώ (aG pC) "Tally":=.of (by kernel_rfl)
theorem F7(T:Txt K L)(M:bZ (ψ P w)){N:Addr}{u:FuncData}(hW:Fun K "__init__" "Tally.__init__" fF N u)(X:Binds K u ["self","web","r"] [])(pP:Mk K T.Tally N)(Γ:Ψ P w K L base (ψ P w) 10 N u ["self","web","r"] (mV T))(Y:nH P w base T)(mJ:kf P w base T):Ok P w K L base "worst_many" pC ["web","r","wanted"] 12 (yq T):=λ_ _ D=>by
 refine D.F.ϖ Gn (by walk_at "v") λρ A v s H vs Q E hr h=>?_;obtain⟨p,t,m,U,l,r,n,rfl,W,f,nb,a,i,R,k⟩:=h;have g:=W.go;refine⟨_,(aB (eM (Μ Y hr M (aa (γ 0) (aa (γ 1) (aa (γ 2) ax))))) (aL (bJ (Μ mJ hr M (aa (wU pP Γ (hr.mono (by decide)) rR.g T.Eb X .nil (md M) (aa (γ 0) (aa (γ 1) ax)) (hdb:=rR.d)) (aa (γ 1) (aa (bh f8 (γ 2) aQ) ax))))))),?_⟩;walk_at "s";walk_at "";refine⟨p,t,m,U,l,r,((n+1:Nat):Int),rfl,W,λ_ _ _=>?_,λz=>absurd f z,λ_ _ z=>absurd z (by lia)⟩;dsimp only;intro x q S I ne;have B:upd H q (.own x) x=none:=by rw[aN ne.symm];exact S
 have O:δ H (upd (upd H q (.own x)) x (.ins T.Tally q [])):=(δ.new _ I).trans (δ.new _ B);refine⟨x,q,p,t,m,U,l,r,rfl,aE,W.same O,f,a,i,R,λJ ld lw lb lk lr kl rv H2 TA kp=>⟨rfl,?_⟩⟩;have s2:δ H H2:=λb o e=>kp b o (O b o e) (cG e S);obtain⟨_,Z,ϳ,h1,h2,h3,V⟩:=TA.Ϝ r f;obtain⟨sr,es⟩:=xD (kd m l r a r);rw[es]at V;obtain⟨y,ob⟩:=TA.ob;have G:=nZ (fr:=ϡ m l r a i J) (be:=ϩ m l r a i J) (c:=cK l a) g R f.1 f.2;have e1:((n+1:Nat):Int)-1=(n:Int):=by lia
 have e4:(2:Nat)^4000<=2^4000:=az _;cases V with
 | cons e he=>
   obtain⟨cs,c1,c2⟩:=e;have C:=c2.le (b':=15000) (uE (by have:=jP g R f.1 f.2;have:=qi g R f.1 f.2;have:=g.Ζ;lia));have cl:=C.len;rw[e1];refine⟨x,y,lr,Z,_,_,rv,_,r,cs,n,rfl,ob,qb _ _ _ _ _ _,TA.hr,f.1,h1,h3,c1,by lia,iK (k:=4000) (by lia) (by decide),λc hc=>iK (C.bt c hc) (by decide),λj hj=>EA (x:=4000) nb (by lia),λH3 s3=>?_⟩;rw[C.val];have:=k J H3 TA.or TA.et (s2.trans s3);unfold dO at this;rw[G]at this;exact this
theorem Nn{m:Int}{b:hD}{r:Int}{a:fm}{c:fv}(g:Good m b)(R:ε m b r a c)(k:Int)(e:0<=k)(d:k<m)(f:k≠r):1<=cK b a k/\cK b a k<=1000000:=by
 have:=iW g R e d f;unfold cK
 lia
def uc(T:Txt K L):Sp:=λn H Q _=>E23 λ(o p t:Addr)(m:Int)(B:gf)(c:hD)(r:Int)(a:fm)(b:fv)(h:fc)(ld z x A s:Addr)(q:gf)(y:List V)(v:Int)(l i:Addr)(d f:fc)(e:Int)=>n=[.ref o,.int v,.ref l,.ref i]/\ϙ T.Web T.Tally H o p t m B c r a b h ld z x A s q y (λv=>0<=v/\v<m)/\(0<=v/\v<m)/\H l=some (.lst (d.map V.int))/\H i=some (.lst (f.map V.int))/\(d.length:Int)=m/\(f.length:Int)=m/\(∀u,0<=u->u<m->0<=d.getD u.toNat 0)/\d.getD v.toNat 0+1<=2^45/\((kd m c r a v).map λk=>d.getD k.toNat 0/tup c a k).sum<=d.getD v.toNat 0/\(∀u,0<=u->u<m->(f.getD u.toNat 0).natAbs<=2^(50000+600*Bv m c r a b u))/\Rk (ϡ m c r a b h) (ϩ m c r a b h) (λk g=>dO m c r a b h k (ω (cK c a k) g)) (kd m c r a v) (d.getD v.toNat 0).toNat ((kd m c r a v).map λk=>(k,(d.getD k.toNat 0/tup c a k).toNat,f.getD k.toNat 0)) e/\∀(j:Hp),e.natAbs<=2^(50000+600*Bv m c r a b v)->δ H j->Q (.int e) j
abbrev iT:Stmt:=top 89
theorem mW:ζ ["tally","place","held","numbers","number","left","at","kid","given"] ["tally","place","held","numbers"] (aG iT):=.of
theorem oZ:NmL (aG iT) "number":=.of (by kernel_rfl)
theorem vP:NmL (aG iT) "left":=.of (by kernel_rfl)
theorem sV:ώ (aG iT) "enumerate":=.of (by kernel_rfl)
theorem Ap(T:Txt K L)(hq:bZ (ψ P w))(dG:i5 P w base T)(dL:jy P w base T)(ms:oI P w base T):Ok P w K L base "number_beneath" iT ["tally","place","held","numbers"] 8 (uc T):=λ_ _ D=>by
 refine D.F.ϖ mW (by walk_at "v") λρ A a7 s H vs Q E hr h=>?_;obtain⟨o,p,t,m,ps,B,r,a,G,tl,ld,lw,lb,lk,lr,kl,rv,v,lh,ln,J,ns,M,rfl,TA,I,eh,en,hl,nl,h0,hv,bp,nb,bY,q⟩:=h;have hu:=sJ hr;have g:=TA.web.go;have R:=TA.rt;have dm:(kd m B r a v).length<=24:=Ci g;refine⟨_,(aB (Η 4 aQ) (aB (Η 5 (Ο bX (γ 2) (γ 1))) (aB (fq PassesOwn.never rfl (wP true sV.g T.enumerate (Ο bX (cD (γ 0) rfl) (γ 1))) (j1 (n:=2) rfl (cH (ϐ 6) (cH (ϐ 7) gX))) (aB (Η 8 (bh i9 (Ο bX (γ 2) (γ 7)) (Μ dG hr hq (aa (cD (γ 0) rfl) (aa (γ 7) (aa (γ 1) ax)))))) (aB (uI (i:=4) mW.nd rfl (Or.inl oZ.l) (Μ ms hr hq (aa (γ 0) (aa (γ 1) (aa (γ 6) (aa (γ 5) (aa (γ 8) ax)))))) tK) (aB (uI (i:=5) mW.nd rfl (Or.inl vP.l) (γ 8) HC) (aL (uI (i:=4) mW.nd rfl (Or.inl oZ.l) (bh qF (Ο bX (γ 3) (γ 7)) (Μ dL hr hq (aa (Ο bX (oH bX (cD (γ 0) rfl) (γ 1) (λ_ _=>rfl)) (bh gc (γ 6) aQ)) (aa (γ 5) ax)))) tK)))))) (aL (bJ (γ 4)))))),?_⟩;walk_at "s";refine eZ λN1 h1=>?_;walk_at "";refine h1 _ _ (eZ λN2 h2=>?_);walk_at "";refine Φ eh (Ac I.1 (by lia)) (h2 _ _ (eZ λN3 h3=>?_));walk_at "";obtain⟨dx,ob⟩:=TA.ob;have bm:(bM m.toNat)[v.toNat]?=some v:=by rw[fy (by lia),bA I.1]
 obtain⟨aC,a3,am⟩:=tm TA.kp bm;refine⟨T.Tally,dx,_,ob,T.di,T.χ,_,qU _ _ _ _ _ _,Φ TA.hk (dj I.1 (by rw[aJ,a3];rfl)) ⟨aC,rfl,⟨_,ν.of am⟩,?_⟩⟩;refine BQ (K:=K) (c:=true) (xs:=(kd m B r a v).map V.int) (λi σ Z=>δ H Z/\E5 λ(nu left:Int)(v6 v7 v8:Option V)=>left=J.getD v.toNat 0-(((kd m B r a v).take i).map λk=>J.getD k.toNat 0/tup B a k).sum/\nu.natAbs<=i*2^(50000+600*Bv m B r a G v-590)/\(∃nr,Rk (ϡ m B r a G tl) (ϩ m B r a G tl) (λk g=>dO m B r a G tl k (ω (cK B a k) g)) ((kd m B r a v).drop i) left.toNat (((kd m B r a v).drop i).map λk=>(k,(J.getD k.toNat 0/tup B a k).toNat,ns.getD k.toNat 0)) nr/\M=nu+nr)/\σ=[some (V.ref o),some (V.int v),some (V.ref lh),some (V.ref ln),some (V.int nu),some (V.int left),v6,v7,v8]) ⟨δ.refl _,0,_,_,_,_,(kb _).symm,bB _,⟨M,bY,(cM _).symm⟩,rfl⟩ (λi σ Z y=>ν.of (y.1 _ _ am)) ?_ ?_
 .rintro i x σ Z q' N hN hx ⟨s2,nu,left,v6,v7,v8,el,nn,⟨nr,rk,agz⟩,rfl⟩ nq;obtain⟨k,hk,rfl⟩:=List.ι hx;have il:=(aD.mp hk).1;have s3:=s2.trans (δ.new (HO.tup [V.int (i:Int),V.int k]) nq);have bS:upd Z q' (HO.tup [V.int (i:Int),V.int k]) q'=some (.tup [V.int (i:Int),V.int k]):=aE;walk_at "";refine⟨_,Ξ.of bS,rfl,_,_,rfl,_,_,rfl,rfl,?_⟩;generalize upd Z q' (HO.tup [V.int (i:Int),V.int k])=H3 at s3 ⊢;have ac:=TA.same s3;obtain⟨bd,a9⟩:=ac.ob;obtain⟨b1,lp,X,a4,bs,cs,csk,C,c1,c2⟩:=ac.co I hk;obtain⟨k1,k2,k3⟩:=(bz g R I.1 I.2).mp (aO hk);have et:tup B a k=(cK B a k:Int):=by
   unfold tup;rw[k3,C.tl]
   rfl
  have d4:=C.c2.1;have bl:=C.c2.2;have ts:=Jg (f:=λk=>J.getD k.toNat 0/tup B a k) hk;have f0:∀u∈kd m B r a v,0<=J.getD u.toNat 0/tup B a u:=λu h=>by
   obtain⟨O,u2,u3⟩:=(bz g R I.1 I.2).mp h;exact ja (h0 u O.1 O.2) (by have:=(iW g R O.1 O.2 u2).1;lia)
  have M:(((kd m B r a v).take (i+1)).map λk=>J.getD k.toNat 0/tup B a k).sum<=J.getD v.toNat 0:=by
   refine bW ?_ bp;have e:((kd m B r a v).map λk=>J.getD k.toNat 0/tup B a k).sum=(((kd m B r a v).take (i+1)).map λk=>J.getD k.toNat 0/tup B a k).sum+(((kd m B r a v).drop (i+1)).map λk=>J.getD k.toNat 0/tup B a k).sum:=(by rw[<-fB,<-aI,cP]);have:=wF (f:=λk=>J.getD k.toNat 0/tup B a k) (l:=(kd m B r a v).drop (i+1)) λu h=>f0 u (cL h)
   lia
  have t0:=wF (f:=λk=>J.getD k.toNat 0/tup B a k) (l:=(kd m B r a v).take i) λu h=>f0 u (iA h);have fk:=f0 k (aO hk);refine Φ (s3 _ _ eh) (Ac k1.1 (by lia)) ⟨T.Tally,bd,_,a9,T.di,T.Δ,_,qR _ _ _ _ _ _,p,t,m,ps,B,k,v,rfl,ac.web,λc' _ _ _ _ Y=>?_,λno=>absurd ⟨k1,I⟩ no,λ_ _ _ _ Y=>absurd (C.tl.symm.trans Y) (by intro z;cases z)⟩;have:c'=(cK B a k:Int):=bu (Y.symm.trans C.tl);subst this;refine⟨_,rfl,_,rfl,⟨by lia,by lia⟩,?_⟩;rw[<-et];rw[dy il,bu ((ay il).symm.trans hk),aq]at rk;obtain⟨_,cc,ab,ad⟩:=rk.agj;generalize hg:J.getD k.toNat 0/tup B a k=gz at ts fk ab ad ⊢;obtain⟨S,rfl⟩:∃S:Nat,gz=S:=⟨gz.toNat,by lia⟩;generalize hw:(((kd m B r a v).take i).map λk=>J.getD k.toNat 0/tup B a k).sum=S0 at ts el t0;rw[ts]at M;obtain⟨U,rfl⟩:∃U:Nat,left=U:=⟨left.toNat,by lia⟩;rw[bR,bR]at ab ad;obtain⟨lf,b0⟩:∃lf:Nat,(U:Int)-(S:Int)=lf:=⟨U-S,by lia⟩;have al:U-S=lf:=by lia
  have bv:=Md (fr:=ϡ m B r a G tl) (be:=ϩ m B r a G tl) (c:=cK B a) g R (Nn g R) I.1 I.2 hk c1 c2 (left:=U) (g:=S) (by lia);refine⟨o,p,t,lk,b1,lr,lp,X,a4,bs,m,ps,B,v,k,(U:Int),cK B a k,i,cs,csk,_,_,S,rfl,C,by lia,by lia,by lia,by lia,λH5 s5=>⟨_,rfl,?_⟩⟩;have ak:=s3.trans s5;have C5:=C.same s5;obtain⟨b2,a5,b3,d7,dp,bV⟩:=C5.ob;obtain⟨dd,br,d2,r1,r2,r3,r4,r5,r6⟩:=C5.re;have gl:Ϧ br ((i:Int)+1)=some (.ref X):=dj (by lia) (by rw[show((i:Int)+1).toNat=i+1 by lia];exact r4);refine Φ (ak _ _ en) (Ac k1.1 (by lia)) ⟨T.Tally,b2,a5,b3,T.di,T.ϴ,_,bV,Φ r1 (dj I.1 r2) ⟨_,rfl,Φ r3 gl ?_⟩⟩;rw[b0];have cd:=C.cl.1;refine⟨X,cs,(lf:Int),rfl,ν.of C5.ed,by lia,by lia,iK (k:=65) (by lia) (by decide),CG C.cb.1,λj hj=>wn (by lia) (by lia) (by lia),λH6 s6=>?_⟩;rw[qM,c1.val];have wk:=VT (m:=m.toNat) (cs:=cs) (csk:=csk) (c:=cK B a k) (z:=(U:Int)) (g:=S) (by have:=g.Ζ;lia) (by lia) (by lia) (by lia) bl cd C.cl.2 C.cb.1 C.cb.2;have wo:=(zL (fr:=ϡ m B r a G tl) (be:=ϩ m B r a G tl) (W:=dO m B r a G tl) (c:=cK B a) (d:=Bv m B r a G) (ks:=(kd m B r a v).drop (i+1)) (λu h=>by
   obtain⟨O,u2,u3⟩:=(bz g R I.1 I.2).mp (cL h);exact Dz g R (Nn g R) _ O.1 O.2 (az _)) λu h=>by
   obtain⟨O,u2,u3⟩:=(bz g R I.1 I.2).mp (cL h);exact Nn g R u O.1 O.2 u2).2 45 lf (by lia)
  have d1:=uV (λk=>Bv m B r a G k+1) (kd m B r a v) i;have bk:(kd m B r a v)[i]=k:=bu ((ay il).symm.trans hk);rw[jP g R I.1 I.2,dy il,bk,aq,aH]at d1;have dl:=qi g R I.1 I.2;have Ζ:=g.Ζ;obtain⟨mo,a0⟩:=UF (b:=if ϡ m B r a G tl k=true then Ω (ϧ (ϲ m.toNat (ϻ cs csk (cK B a k) (U:Int)))) S 0 else 0) nn (by
   split
   .exact wk
   .exact bB _) (nb k k1.1 k1.2) wo d1 (by lia)
  exact⟨_,rfl,_,rfl,mo,hN _ _ ⟨ak.trans s6,_,_,_,_,_,by lia,a0,⟨cc,by rw[bR,<-al];exact ab,by rw[bv,agz,ad,al];unfold dO;lia⟩,rfl⟩⟩
 .rintro σ Z ⟨s2,nu,left,v6,v7,v8,el,nn,⟨nr,rk,agz⟩,rfl⟩;rw[ah]at nn rk;rw[dh]at rk;have:nu=M:=by rw[agz,rk.acw,g6]
  subst this;refine h3 _ _ ?_;walk_at "";refine q Z (aP nn (aP (eE _ (show _<=2^5 by lia)) ?_)) s2;rw[<-fA];exact cj (by decide) (by lia)
def zu(T:Txt K L):Sp:=λj H Q _=>E22 λ(o p t:Addr)(m:Int)(z:gf)(c:hD)(r:Int)(a:fm)(b:fv)(e:fc)(ld x q y n:Addr)(l:gf)(s:List V)(h:Addr)(d:fc)(i A:fv)(f:fm)=>j=[.ref o,.ref h]/\ϙ T.Web T.Tally H o p t m z c r a b e ld x q y n l s (λv=>0<=v/\v<m)/\(0<=r/\r<m)/\H h=some (.lst (d.map V.int))/\(d.length:Int)=m/\(∀u,0<=u->u<m->0<=d.getD u.toNat 0/\d.getD u.toNat 0+1<=2^45/\((kd m c r a u).map λk=>d.getD k.toNat 0/tup c a k).sum<=d.getD u.toNat 0)/\Nsp m c r a b (ϡ m c r a b e) (ϩ m c r a b e) (cK c a) i A f/\(∀u,0<=u->u<m->d.getD u.toNat 0=i u)/\∀(g:Hp),δ H g->Q (.int (f r)) g
abbrev qk:Stmt:=top 88
theorem Ig:ζ ["tally","held","numbers","place"] ["tally","held"] (aG qk):=.of
theorem wC:ώ (aG qk) "reversed":=.of (by kernel_rfl)
theorem Hf(T:Txt K L)(hq:bZ (ψ P w))(qD:Cb P w K L base "number_beneath" iT ["tally","place","held","numbers"] 8 (uc T)):Ok P w K L base "number_of" qk ["tally","held"] 9 (zu T):=λ_ _ D=>by
 refine D.F.ϖ Ig (by walk_at "v") λρ A Z s H vs Q E hr h=>?_;obtain⟨o,p,t,m,ps,f,r,a,b,tl,ld,lw,lb,lk,lr,kl,rv,lh,hs,cn,gv,l,rfl,TA,rm,eh,hl,hh,NS,M,q⟩:=h;have n:=sJ hr;have g:=TA.web.go;have R:=TA.rt;have m1:=g.m1;have Ζ:=g.Ζ;refine⟨_,(aB (Η 2 (bh qf (gF (aa aQ ax)) (cD (cD (γ 0) rfl) rfl))) (aB (fq PassesOwn.never rfl (sY wC.g T.reversed (cD (γ 0) rfl)) (ϐ 3) (aL (nz (Μ qD hr hq (aa (γ 0) (aa (γ 3) (aa (γ 1) (aa (γ 2) ax))))) (oW (γ 2) (γ 3) iR)))) (aL (bJ (Ο bX (γ 2) (oH bX (cD (γ 0) rfl) aQ (λ_ _=>rfl))))))),?_⟩;walk_at "s";refine eZ λN1 h1=>?_;walk_at "";obtain⟨dx,ob⟩:=TA.ob;obtain⟨dw,wb⟩:=TA.web.ob;refine⟨dz (by simp),λS ai=>?_⟩;have I:=δ.new (HO.lst [V.int 0]) ai;have e0:upd H S (HO.lst [V.int 0]) S=some (.lst [V.int 0]):=aE;generalize upd H S (HO.lst [V.int 0])=H0 at I e0 ⊢;refine⟨T.Tally,dx,_,I _ _ ob,T.di,T.Δ,_,qR _ _ _ _ _ _,p,rfl,T.Web,dw,_,I _ _ wb,T.iw,T.Κ,_,fU _ _,S,m,_,rfl,rfl,e0,by lia,by lia,dz (by show 1*m.toNat<=100000;lia),λC J=>h1 _ _ (eZ λN2 h2=>?_)⟩;rw[GF,<-gU];have X:=I.trans (δ.new (HO.lst ((List.replicate m.toNat (0:Int)).map V.int)) J);have e1:upd H0 C (HO.lst ((List.replicate m.toNat (0:Int)).map V.int)) C=some (.lst ((List.replicate m.toNat (0:Int)).map V.int)):=aE;have ab:=I.free J;generalize upd H0 C (HO.lst ((List.replicate m.toNat (0:Int)).map V.int))=H1 at X e1 ⊢;walk_at "";refine⟨T.Tally,dx,_,X _ _ ob,T.di,T.wq,_,rH _ _ _ _ _ _,?_⟩;refine⟨ld,rfl,_,ν.of (X _ _ TA.hd),?_⟩;have pr:∀u∈cI m f r a b r,0<=u/\u<m:=λu n=>by
  rw[TA.et]at n;rcases aw.mp n with rfl|y
  .exact rm
  .exact TA.or.Ι u y
 refine qy (K:=K) (xs:=(cI m f r a b r).map V.int) (λi W B=>δ H B/\∃(j:fc)(v3:Option V),B C=some (.lst (j.map V.int))/\(j.length:Int)=m/\(∀u,0<=u->u<m->(j.getD u.toNat 0).natAbs<=2^(50000+600*Bv m f r a b u))/\(∀u∈(cI m f r a b r).reverse.take i,j.getD u.toNat 0=l u)/\W=[some (V.ref o),some (V.ref lh),some (V.ref C),v3]) ⟨X,_,none,e1,by rw[cC];lia,λu _ _=>?_,λu n=>(by cases n),rfl⟩ (λi W B _ z=>ν.of (z.1 _ _ TA.hd)) ?_ ?_
 .rw[bo,fX];split<;>exact bB _
 .rintro i x W B N hN hx ⟨s5,j,v3,e5,nl,nb,dn,rfl⟩;rw[<-fQ]at hx;obtain⟨v,hv,rfl⟩:=List.ι hx;have d:=pr v (dZ.mp (aO hv));have ae:∀k∈kd m f r a v,k∈(cI m f r a b r).reverse.take i:=by
   have O:=hv;rw[TA.et]at O ⊢;exact PV g R TA.or O d.1 d.2
  have eF:((kd m f r a v).map λk=>(k,(hs.getD k.toNat 0/tup f a k).toNat,j.getD k.toNat 0))=(kd m f r a v).map λk=>(k,gv k,l k):=bH λk hk=>by
   obtain⟨G,k2,k3⟩:=(bz g R d.1 d.2).mp hk;have t2:=(iW g R G.1 G.2 k2).1;have e:=Lj (c:=cK f a k) (i:=gv k) (by unfold cK;lia);rw[<-NS.up k G.1 G.2 k2,show((cK f a k:Nat):Int)=tup f a k from bA (by lia)]at e;rw[dn k (ae k hk),M k G.1 G.2,e,Fa t2,bR]
  walk_at "";refine⟨o,p,t,m,ps,f,r,a,b,tl,ld,lw,lb,lk,lr,kl,rv,v,lh,C,hs,j,l v,rfl,TA.same s5,d,s5 _ _ eh,e5,hl,nl,λu U Y=>(hh u U Y).1,(hh v d.1 d.2).2.1,(hh v d.1 d.2).2.2,nb,by rw[eF,M v d.1 d.2];exact NS.at_ v d.1 d.2,λH6 xb s6=>?_⟩;refine rE (s6 _ _ e5) d.1 (by rw[ah];lia) (hN _ _ ⟨(s5.trans s6).put ab _,j.set v.toNat (l v),_,by rw[aE,<-ee],by rw[b4];exact nl,λu U Y=>?_,λu n=>?_,rfl⟩)
  .rw[kK _ _ _ _ (by lia)];by_cases c:u=v
   .rw[c,aj rfl];exact xb
   .rw[ag (by lia)];exact nb u U Y
  .rw[kK _ _ _ _ (by lia)];by_cases c:u=v
   .rw[c,aj rfl]
   .rw[hG,hv]at n;have U:=(pr u (dZ.mp ((ba.mp n).elim iA λy=>absurd (aK.mp y) c))).1;rw[ag (by lia)];exact dn u ((ba.mp n).resolve_right λy=>c (aK.mp y))
 .rintro W B ⟨s5,j,v3,e5,nl,nb,dn,rfl⟩;refine h2 _ _ ?_;walk_at "";have gd:Ϧ ((cI m f r a b r).map V.int) 0=some (V.int r):=by
   rw[TA.et];exact dj (bw 0) rfl
  exact⟨T.Tally,dx,_,s5 _ _ ob,T.di,T.wq,_,rH _ _ _ _ _ _,Φ (s5 _ _ TA.hd) gd (Φ e5 (Ac rm.1 (by lia)) (by rw[dn r (by rw[ah,<-aV,bL,dZ,TA.et];exact .head _)];exact q B s5))⟩
def vD(T:Txt K L):Sp:=λk H Q E=>E10 λ(p a t:Addr)(c:Bool)(m:Int)(l:gf)(e:hD)(g:fc)(r w:Int)=>k=[.ref p,.int r,.int w,.ref a]/\μ T.Web H p m t l e/\ϑ K c H a (g.map V.int)/\g.length<=1000/\w<=10^60/\-(10^60)<=w/\(0<=r->r<m->1<=w->∃b d,ε m e r b d/\(1000000000000<lE m e r b (dP m e r b d) w+1->∀f,δ H f->E (.ref T.TooMany) none f)/\(lE m e r b (dP m e r b d) w+1<=1000000000000->(b6 m g=false->∀f,δ H f->E (.ref T.BadLaying) none f)/\(b6 m g=true->((g.sum=lE m e r b (dP m e r b d) w/\Ε m e r b d (λv=>g.getD v.toNat 0) (ϛ e b) r<w)->∀h,Order m r b h->cI m e r b d r=r::h->E3 λ(j n:fv)(i:fm)=>Nsp m e r b d (ϡ m e r b d h) (ϩ m e r b d h) (cK e b) j n i/\(∀u,0<=u->u<m->Ε m e r b d (λv=>g.getD v.toNat 0) (ϛ e b) u=j u)/\∀(f:Hp),δ H f->Q (.int (i r)) f)/\(¬(g.sum=lE m e r b (dP m e r b d) w/\Ε m e r b d (λv=>g.getD v.toNat 0) (ϛ e b) r<w)->∀f,δ H f->E (.ref T.NoNumber) none f))))/\(¬(0<=r/\r<m)->∀f,δ H f->E (.ref T.NoPlace) none f)/\(0<=r->r<m->w<1->∀f,δ H f->E (.ref T.BadWish) none f)
abbrev lK:Stmt:=top 74
theorem Cz:ζ ["web","r","wanted","laying"] ["web","r","wanted","laying"] (aG lK):=.of
theorem pf:ώ (aG lK) "NoNumber":=.of (by kernel_rfl)
theorem qS:ώ (aG lK) "Tally":=.of (by kernel_rfl)
abbrev p4(P w base)(T:Txt K L):=Cb P w K L base "is_worst" pX ["web","r","wanted","laying"] 10 (sO T)
theorem Dr(T:Txt K L)(hq:bZ (ψ P w)){θ:Addr}{Y:FuncData}(hW:Fun K "__init__" "Tally.__init__" fF θ Y)(pU:Binds K Y ["self","web","r"] [])(pP:Mk K T.Tally θ)(Γ:Ψ P w K L base (ψ P w) 10 θ Y ["self","web","r"] (mV T))(mZ:pe P w base T)(pG:oi P w base T)(kX:p4 P w base T)(wa:Cb P w K L base "number_of" qk ["tally","held"] 9 (zu T)):Ok P w K L base "worst_number" lK ["web","r","wanted","laying"] 12 (vD T):=λ_ _ D=>by
 refine D.F.gT Cz (by walk_at "v") λρ A Z s H vs Q E S h=>?_;obtain⟨p,a,t,c,m,N,j,n,r,w,rfl,W,ha,hl,w2,w0,k,e,e'⟩:=h;have g:=W.go;refine⟨_,(aB (eM (Χ mZ S cR (aa (γ 0) (aa (γ 1) (aa (γ 2) ax))))) (aB (dQ (lO (kR (Χ kX S cR (aa (γ 0) (aa (γ 1) (aa (γ 2) (aa (γ 3) ax))))))) (aL (nM T.ut rfl pK pf.g T.Cy (aa rh ax) (hdb:=pf.d))) cY) (aL (bJ (Χ wa S cR (aa (wU pP Γ (S.mono (by decide)) qS.g T.Eb pU .nil cR (aa (γ 0) (aa (γ 1) ax)) (hdb:=qS.d)) (aa (Χ pG S cR (aa (γ 0) (aa (γ 3) (aa (γ 1) ax)))) ax))))))),?_⟩;walk_at "s";walk_at "";refine⟨p,t,m,N,j,r,w,rfl,W,w2,w0,λM J w1=>?_,e,e'⟩;obtain⟨f,i,R,k2,V⟩:=k M J w1;refine⟨f,i,R,λcb H1 X=>?_,k2⟩;obtain⟨k3,k4⟩:=V cb;refine⟨p,a,t,c,m,N,j,n,r,w,rfl,W.same X,δ.gE X ha,hl,w2,w0,λ_ _ _=>⟨f,i,R,λfi I s2=>⟨_,rfl,?_⟩,λfi I s2=>k3 fi I (X.trans s2)⟩,λz=>absurd ⟨M,J⟩ z,λ_ _ z=>absurd z (by lia)⟩;obtain⟨k5,k6⟩:=k4 fi;have C:=X.trans s2;by_cases O:n.sum=lE m j r f (dP m j r f i) w/\Ε m j r f i (λv=>n.getD v.toNat 0) (ϛ j f) r<w
 .rw[bq O.1,bq O.2,ag (by decide)];intro x U hx ae ne;have ac:upd I U (.own x) x=none:=by rw[aN ne.symm];exact hx
  have s0:δ I (upd (upd I U (.own x)) x (.ins T.Tally U [])):=(δ.new _ ae).trans (δ.new _ ac);refine⟨x,U,p,t,m,N,j,r,rfl,aE,(W.same C).same s0,⟨M,J⟩,f,i,R,λtl ld lw lb lk lr kl rv H3 TA kp=>⟨rfl,?_⟩⟩;have s3:δ I H3:=λb o e=>kp b o (s0 b o e) (cG e hx);have G:=C.trans s3;have x0:=Fu fi;refine⟨p,a,t,c,m,N,j,n,r,rfl,W.same G,δ.gE G ha,hl,λ_ _ _=>⟨f,i,R,λl H4 nl s4 el=>?_⟩,(λz=>by rw[fi]at z;cases z),λ_ z=>absurd ⟨M,J⟩ z⟩;have ad:((rK m j r f i (λv=>n.getD v.toNat 0) (ϛ j f)).length:Int)=m:=by
   have:=g.m1;unfold rK;rw[ah,cq]
   lia
  have hB:∀v:Int,0<=n.getD v.toNat 0/\n.getD v.toNat 0<=1000000000000:=λv=>by
   rw[List.getD];cases e:n[v.toNat]? with
   | none=>exact⟨bw _,(by decide:(0:Int)<=1000000000000)⟩
   | some y=>
     have h1:=x0 y (aO e);have h2:=EW x0 (aO e);exact⟨h1,show y<=_ by lia⟩
  obtain⟨cn,gv,nb,NS,ec,kq⟩:=k5 O tl TA.or TA.et;refine⟨x,p,t,m,N,j,r,f,i,tl,ld,lw,lb,lk,lr,kl,rv,l,_,cn,gv,nb,rfl,TA.same s4,⟨M,J⟩,el,ad,λu B q=>?_,NS,λu B q=>by rw[se B q];exact ec u B q,λH5 s5=>kq H5 (G.trans (s4.trans s5))⟩;have d:=qi g R B q;have Ζ:=g.Ζ;have bS:=LL g R hB _ u rfl B q;rw[se B q];refine⟨JB g (λv=>(hB v).1) u,by lia,?_⟩;rw[eG g R B q];have h1:=(hB u).1;have e:((kd m j r f u).map λk=>(rK m j r f i (λv=>n.getD v.toNat 0) (ϛ j f)).getD k.toNat 0/tup j f k).sum=((bQ m j (front r f u) u).map λc=>ϛ j f c (Ε m j r f i (λv=>n.getD v.toNat 0) (ϛ j f) c)).sum:=ko λk hk=>by
   obtain⟨V,_,_⟩:=(bz g R B q).mp hk;rw[se V.1 V.2]
   rfl
  rw[e]
  lia
 .rw[show(decide (n.sum=lE m j r f (dP m j r f i) w)&&decide (Ε m j r f i (λv=>n.getD v.toNat 0) (ϛ j f) r<w))=false by
   rw[<-Bool.decide_and];exact b8 O]
  exact⟨dz (by simp),k6 O _ C⟩
def rN(T:Txt K L):Sp:=λf H Q _=>E9 λ(p t:Addr)(m:Int)(e:gf)(c:hD)(r:Int)(n:Nat)(a:fm)(b:fv)=>f=[.ref p,.int r,.int (n+1:Nat),.int (lE m c r a (dP m c r a b) (n+1:Nat)+1)]/\μ T.Web H p m t e c/\(0<=r/\r<m)/\((n+1:Nat):Int)<=10^60/\ε m c r a b/\∀d,δ H d->Q (.bl true) d
abbrev me:Stmt:=top 98
theorem xx:ζ ["web","r","wanted","due","last","number","laying"] ["web","r","wanted","due"] (aG me):=.of
theorem xt(T:Txt K L)(hq:bZ (ψ P w))(kX:p4 P w base T)(xM:Cb P w K L base "worst_at" pO ["web","r","wanted","number"] 12 (Bo T))(u8:Cb P w K L base "worst_many" pC ["web","r","wanted"] 12 (yq T))(ss:Cb P w K L base "worst_number" lK ["web","r","wanted","laying"] 12 (vD T)):Ok P w K L base "_law_numbers_right" me ["web","r","wanted","due"] 13 (rN T):=λ_ _ D=>by
 refine D.F.ϖ xx (by walk_at "v") λρ A an s H vs Q E Y h=>?_;obtain⟨p,t,m,ps,d,r,n,a,b,rfl,W,q,I,R,k⟩:=h;have g:=W.go;have hu:=sJ Y;have m1:=g.m1;have Ζ:=g.Ζ;have w0:-(10^60)<=((n+1:Nat):Int):=by lia
 have wz:¬((n+1:Nat):Int)<1:=by lia
 refine⟨_,(aB (Η 4 (bh f8 (Μ u8 Y hq (aa (γ 0) (aa (γ 1) (aa (γ 2) ax)))) aQ)) (aB (dQ (PW.pt (zT (Ϭ vo (γ 4) aQ) (wj (Ϭ zK (γ 3) (bh rG aQ aQ))))) (aL (bJ (nW GC (γ 4) aQ (lY _)))) cY) (aB (fq PassesOwn.never rfl (iB (gF (aa aQ (aa (γ 4) ax)))) (ϐ 5) (aB (Η 6 (Μ xM Y hq (aa (γ 0) (aa (γ 1) (aa (γ 2) (aa (γ 5) ax)))))) (aB (dQ (PW.pt (zT (Ϭ pW (pcb (xw rfl) T.sum (aa (γ 6) ax)) (bh f8 (γ 3) aQ)) (wj (wY pW (Μ ss Y hq (aa (γ 0) (aa (γ 1) (aa (γ 2) (aa (γ 6) ax))))) (γ 5) (lY _))))) (aL (bJ sU)) cY) (aL (dQ (lO (kR (Μ kX Y hq (aa (γ 0) (aa (γ 1) (aa (γ 2) (aa (γ 6) ax))))))) (aL (bJ sU)) cY))))) (aL (bJ sU))))),?_⟩;walk_at "s";generalize eD:lE m d r a (dP m d r a b) (n+1:Nat)=D;refine eZ λN1 h1=>?_;walk_at "";refine⟨p,t,m,ps,d,r,n,rfl,W,q,aP (show n+1<=10^60 by lia) (by decide),a,b,R,λtl H1 O et s1=>⟨_,rfl,h1 _ _ (eZ λN2 h2=>?_)⟩⟩;have cp:1<=dO m d r a b tl r n:=wS g R _ q.1 q.2 (az _) n;generalize ec:dO m d r a b tl r n=C at cp ⊢;walk_at "";rw[ag (by lia)];have nx:D+1<=1000000000000->N2 [some (V.ref p),some (V.int r),some (V.int (n+1:Nat)),some (V.int (D+1)),some (V.int (C-1)),none,none] H1:=λca=>h2 _ _ (by
  have dn:¬1000000000000<lE m d r a (dP m d r a b) (n+1:Nat)+1:=by rw[eD];lia
  walk_at "";refine⟨dz (by simp),λll a3=>⟨⟨_,ν.of aE⟩,?_⟩⟩;have s2:=s1.trans (δ.new (.lst [V.int 0,V.int (C-1)]) a3);have el:upd H1 ll (.lst [V.int 0,V.int (C-1)]) ll=some (.lst [V.int 0,V.int (C-1)]):=aE;generalize upd H1 ll (.lst [V.int 0,V.int (C-1)])=H2 at s2 el ⊢;refine j7 (K:=K) (xs:=[V.int 0,V.int (C-1)]) (λj Z H3=>δ H2 H3/\∃v6 v7,Z=[some (V.ref p),some (V.int r),some (V.int (n+1:Nat)),some (V.int (D+1)),some (V.int (C-1)),v6,v7]) ⟨δ.refl _,_,_,rfl⟩ (λj Z H3 _ z=>ν.of (z.1 _ _ el)) ?_ ?_
  .rintro j y Z H3 N BB ϓ hN hy ⟨s3,v6,v7,rfl⟩;obtain⟨f,rfl,n0,n1⟩:∃f,y=.int f/\0<=f/\f<C:=by
    match j,hy with
    | 0,hy=>cases hy;exact⟨_,rfl,by lia,by lia⟩
    | 1,hy=>cases hy;exact⟨_,rfl,by lia,by lia⟩
    | j+2,hy=>cases hy
   have X:=s2.trans s3;refine ϓ _ _ (eZ λM1 k1=>?_);walk_at "";refine⟨p,t,m,ps,d,r,_,f,rfl,W.same X,I,w0,λ_ _ _=>⟨a,b,R,λ_ M O' J=>?_,λz=>absurd z dn⟩,λz=>absurd q z,λ_ _ z=>absurd z wz⟩;have tt:tl=M:=(f7 (et.symm.trans J)).2;subst tt;rw[show((n+1:Nat):Int)-1=(n:Int) by lia,bR,ec];refine⟨λ_ l xs cn gv nb H4 NS U ar xl xv nl s4 G=>k1 _ _ (eZ λM2 k2=>?_),λz=>absurd ⟨n0,n1⟩ z⟩;have SP:=NS.amH g R O (λ_=>rfl) (λ_=>rfl) λ_=>rfl;rw[U]at SP;have eg:=SP.Ε g R xv;have B:=SP.total g R xv q.1 q.2 et O;have x0:∀x∈xs,0<=x:=λx hx=>by
    obtain⟨i,hi,rfl⟩:=ke.mp hx;have:=xv (i:Int) (by lia) (by lia);rw[bR,bo,ay hi]at this;have e:xs[i]=if kd m d r a (i:Int)=[]then(cn (i:Int):Int)else 0:=this;rw[e];split<;>lia
   have fi:=vz xl x0;have xk:xs.length<=1000:=(by lia);rw[Qi (by lia)]at B;have B:xs.sum=D:=(by rw[<-eD];exact B);have S:=X.trans s4;have gr:Ε m d r a b (λv=>xs.getD v.toNat 0) (ϛ d a) r=n:=(by rw[eg _ r rfl q.1 q.2];exact U);walk_at "";refine⟨_,.inr (Ξ.of G),?_⟩;rw[ag (by lia)];have o:xs.sum=lE m d r a (dP m d r a b) (n+1:Nat)/\Ε m d r a b (λv=>xs.getD v.toNat 0) (ϛ d a) r<(n+1:Nat):=⟨by rw[B,eD],by lia⟩;refine⟨p,l,t,false,m,ps,d,xs,r,_,rfl,W.same S,Ξ.of G,xk,I,w0,λ_ _ _=>⟨a,b,R,λz=>absurd z dn,λ_=>⟨λz=>(by rw[fi]at z;cases z),λ_=>⟨λ_ M O' J=>?_,λz=>absurd o z⟩⟩⟩,λz=>absurd q z,λ_ _ z=>absurd z wz⟩;have tt:tl=M:=(f7 (et.symm.trans J)).2;subst tt;refine⟨cn,gv,nb,NS,λu u0 u1=>eg _ u rfl u0 u1,λH5 s5=>⟨rfl,?_⟩⟩;rw[ar,ag λz=>z rfl];refine k2 _ _ ?_;walk_at "";have a2:=S.trans s5;refine⟨p,l,t,false,m,ps,d,xs,r,_,rfl,W.same a2,Ξ.of (s5 _ _ G),xk,I,w0,λ_ _ _=>⟨a,b,R,λ_ H6 s6=>⟨_,rfl,?_⟩,λz=>(by rw[fi]at z;cases z)⟩,λz=>absurd q z,λ_ _ z=>absurd z wz⟩;rw[bq o.1,bq o.2,ag (by decide)];exact hN _ _ ⟨s3.trans (s4.trans (s5.trans s6)),_,_,rfl⟩
  .rintro BB Z H3 ϓ ⟨s3,v6,v7,rfl⟩;refine ϓ _ _ ?_;walk_at "";exact k _ (s2.trans s3))
 refine⟨⟨by decide,by decide,by decide⟩,?_⟩;rw[show(10:Int)^Int.toNat 12=1000000000000 from rfl];by_cases c:1000000000000<D+1
 .rw[aj c,bq (show 0<=C-1 by lia)];exact k H1 s1
 .rw[ag c];exact nx (by lia)
def va(T:Txt K L):Sp:=λf H Q _=>E4 λ(a b:Addr)(c e:fc)=>f=[.ref a,.ref b]/\H a=some (.lst (c.map V.int))/\H b=some (.lst (e.map V.int))/\c.length<=1000/\∀l d,H l=none->δ H d->d l=some (.lst ((oA c e).map V.int))->Q (.ref l) d
abbrev qN:Stmt:=top 48
theorem Sr:ζ ["one","other"] ["one","other"] (aG qN):=.of
theorem HQ:ώ (aG qN) "zip":=.of (by kernel_rfl)
theorem Tl(T:Txt K L)(C:bZ (ψ P w)):Ok P w K L base "added" qN ["one","other"] 1 (va T):=λ_ _ D=>by
 refine D.F.ϖ Sr (by walk_at "v") λO A t s H M Q E R h=>?_;obtain⟨a,b,xs,f,rfl,u,y,S,k⟩:=h;refine⟨_,(aL (bJ (kE rfl (xZ (Nc:=["left","right"]) 2 (by decide +kernel) (by decide +kernel) rfl (by decide +kernel) rfl) (OB true true HQ.g T.zip (aa (γ 0) (aa (γ 1) ax))) (λ_ _ _ _=>(zV K rfl (n:=2) rfl (cH (f9 (i:=0) (show(["left","right"]:gy).Nodup from by decide +kernel) rfl (Or.inl rfl)) (cH (f9 (i:=1) (show(["left","right"]:gy).Nodup from by decide +kernel) rfl (Or.inl rfl)) gX)))) (λ_ _ _ _=>kj) (λ_ _ _ _=>(bh gc (pv 0) (pv 1)))))),?_⟩;walk_at "s";walk_at "";refine⟨a,b,⟨rfl,rfl⟩,⟨_,ν.of u⟩,⟨_,ν.of y⟩,λp r=>?_⟩;refine GV (K:=K) (c:=true) (d:=true) (xs:=xs.map V.int) (zs:=f.map V.int) (λi l m j=>δ H j/\j p=some (.lst l)/\l=(((xs.zip f).take i).map λq=>q.1+q.2).map V.int/\∃v w,m=[v,w]) ⟨δ.new _ r,aE,rfl,_,_,rfl⟩ (λi l m j z=>⟨ν.of (z.1 _ _ u),ν.of (z.1 _ _ y)⟩) ?_ ?_
 .rintro i x z l m j q N hN hx hz' ⟨s2,e2,rfl,v,w,rfl⟩ C;rw[aJ]at hx hz';obtain⟨x,G,rfl⟩:=cV.mp hx;obtain⟨z,I,rfl⟩:=cV.mp hz';have B:=δ.new (.tup [V.int x,V.int z]) C;have J:=(aD.mp G).1;walk_at "";refine⟨_,Ξ.of aE,rfl,_,_,rfl,_,_,rfl,rfl,?_⟩;walk_at "";refine⟨B _ _ e2,fV (by simp;lia),hN _ _ _ ⟨(s2.trans B).put r _,aE,?_,_,_,rfl⟩⟩;have o:(xs.zip f)[i]?=some (x,z):=by rw[lU];exact⟨G,I⟩
  rw[bI,o,aI,aI]
  rfl
 .rintro l m j ⟨s2,e2,rfl,v,w,rfl⟩;have e:(((xs.zip f).take (min (xs.map V.int).length (f.map V.int).length)).map λq=>q.1+q.2)=oA xs f:=by
   rw[cW (by rw[jW,ah,ah];exact az _)];unfold oA;rw[List.zip,List.map_zipWith]
  rw[e]at e2;exact k p j r s2 e2
def pM(p b a c:Addr):List (Str×V):=bj "idle" (.ref c) (bj "kids" (.ref a) (bj "needs" (.ref b) (bj "web" (.ref p) [])))
theorem vI(p b a c:Addr):(pM p b a c).lookup ("web":Str)=some (.ref p):=by
 unfold pM;rw[b5,ag (by decide +kernel),b5,ag (by decide +kernel),b5,ag (by decide +kernel),b5,aj rfl]
theorem vW(p a b c:Addr):(pM p a b c).lookup ("needs":Str)=some (.ref a):=by
 unfold pM;rw[b5,ag (by decide +kernel),b5,ag (by decide +kernel),b5,aj rfl]
theorem Dh(p b a c:Addr):(pM p b a c).lookup ("kids":Str)=some (.ref a):=by
 unfold pM;rw[b5,ag (by decide +kernel),b5,aj rfl]
theorem CO(p c b a:Addr):(pM p c b a).lookup ("idle":Str)=some (.ref a):=by
 unfold pM;rw[b5,aj rfl]
structure ό(C O:Addr)(H:Hp)(o p t:Addr)(m:Int)(ps:gf)(rs:hD)(r:Int)(par:fm)(dep:fv)(nd:fm)(na ka ia:Addr)(kl:gf)(bs:List V)(S:Int->Prop):Prop where
 ob:∃dx,H o=some (.ins O dx (pM p na ka ia))
 web:μ C H p m t ps rs
 rt:ε m rs r par dep
 hn:H na=some (.lst (((bM m.toNat).map nd).map V.int))
 hk:H ka=some (.lst (kl.map V.ref))
 kp:Paired (λa v=>H a=some (.lst ((kd m rs r par v).map V.int))) kl (bM m.toNat)
 hi:H ia=some (.lst bs)
 done:∀c,S c->∃a,Ϧ bs c=some (.ref a)/\H a=some (.lst ((ύ m rs r par dep nd c).map V.int))
 cl:∀u,0<=u->u<m->S u->∀c∈kd m rs r par u,S c
theorem ό.same{C O:Addr}{H d:Hp}{o p t:Addr}{m:Int}{l:gf}{f:hD}{r:Int}{par:fm}{b:fv}{nd:fm}{g j k:Addr}{i:gf}{bs:List V}{S:Int->Prop}(e:δ H d)(h:ό C O H o p t m l f r par b nd g j k i bs S):ό C O d o p t m l f r par b nd g j k i bs S where
 ob:=let ⟨dx,q⟩:=h.ob;⟨dx,e _ _ q⟩
 web:=h.web.same e
 rt:=h.rt
 hn:=e _ _ h.hn
 hk:=e _ _ h.hk
 kp:=Paired.imp' (λq v x=>e q _ x) h.kp
 hi:=e _ _ h.hi
 done:=λc n=>let ⟨a,h1,h2⟩:=h.done c n;⟨a,h1,e _ _ h2⟩
 cl:=h.cl
theorem ό.kids{C O:Addr}{H:Hp}{o p t:Addr}{m:Int}{s:gf}{d:hD}{r:Int}{b:fm}{c:fv}{g:fm}{j n q:Addr}{f:gf}{l:List V}{S:Int->Prop}(h:ό C O H o p t m s d r b c g j n q f l S){v:Int}(e:0<=v)(u:v<m):∃a,Ϧ (f.map V.ref) v=some (.ref a)/\H a=some (.lst ((kd m d r b v).map V.int)):=by
 obtain⟨a,k,i⟩:=tm h.kp (FM e u);exact⟨a,dj e (by rw[aJ,k];rfl),i⟩
theorem aWa{m:Int}{b:hD}(g:Good m b){r:Int}{a:fm}{v:Int}:(kd m b r a v).length<=24:=by
 have d:=dq (λu=>decide (V.int u≠front r a v)) (kM m b v);have c:=dq (λq=>decide (q∈gG b v)) (bM m.toNat);rw[cq]at c;have:=g.Ζ;show((kM m b v).filter λu=>decide (V.int u≠front r a v)).length<=24;unfold kM at d ⊢
 lia
def oV(T:Txt K L):Sp:=λg H Q _=>E18 λ(o p t:Addr)(m:Int)(s:gf)(d:hD)(r:Int)(a:fm)(b:fv)(f:fm)(h n q:Addr)(j:gf)(k:List V)(S:Int->Prop)(v:Int)(x:V)=>g=[.ref o,.int v,x]/\ό T.Web T.Outlook H o p t m s d r a b f h n q j k S/\(0<=v/\v<m)/\(x=.ο\/∃i,x=.int i)/\(∀c∈kd m d r a v,S c)/\∀l e,H l=none->δ H e->e l=some (.lst ((Ϫ m d r a (ύ m d r a b f) v x).map V.int))->Q (.ref l) e
abbrev mM:Stmt:=top 47
theorem IG:ζ ["outlook","place","left_out","load","kid"] ["outlook","place","left_out"] (aG mM):=.of
abbrev rg(P w base)(T:Txt K L):=Cb P w K L base "added" qN ["one","other"] 1 (va T)
theorem HB(T:Txt K L)(hq:bZ (ψ P w))(lL:rg P w base T):Ok P w K L base "idle_kids" mM ["outlook","place","left_out"] 2 (oV T):=λ_ _ D=>by
 refine D.F.ϖ IG (by walk_at "v") λρ A J s H vs Q E hr h=>?_;obtain⟨o,p,t,m,ps,b,r,a,e,Z,na,ka,ia,kl,bs,S,v,x,rfl,O,q,hx,hS,k⟩:=h;have g:=O.web.go;have R:=O.rt;have Ζ:=g.Ζ;obtain⟨M,ob⟩:=O.ob;obtain⟨dw,wb⟩:=O.web.ob;refine⟨_,(aB (Η 3 (bh qf (gF (aa aQ ax)) (cD (cD (γ 0) rfl) rfl))) (aB (fq PassesOwn.never rfl (iB (Ο bX (cD (γ 0) rfl) (γ 1))) (ϐ 4) (aL (dQ (Ϭ pW (γ 4) (γ 2)) (aL (Η 3 (Μ lL hr hq (aa (γ 3) (aa (Ο bX (cD (γ 0) rfl) (γ 4)) ax))))) cY))) (aL (bJ (γ 3))))),?_⟩;walk_at "s";walk_at "";refine⟨by decide,λX n1=>?_⟩;have G:=δ.new (.lst [V.int 0]) n1;refine⟨T.Outlook,M,_,G _ _ ob,T.gD,T.Θ,_,vI _ _ _ _,p,rfl,?_⟩;refine⟨T.Web,dw,_,G _ _ wb,T.iw,T.Κ,_,fU _ _,?_⟩;refine⟨X,m,[V.int 0],rfl,rfl,aE,by lia,by lia,dz (by simp;lia),λf n2=>?_⟩;rw[uN,<-Lm];have n:=G.trans (δ.new (.lst ((zrs m).map V.int)) n2);have W:H f=none:=G.free n2;have e2:upd (upd H X (.lst [V.int 0])) f (.lst ((zrs m).map V.int)) f=some (.lst ((zrs m).map V.int)):=aE;generalize upd (upd H X (.lst [V.int 0])) f (.lst ((zrs m).map V.int))=H2 at n e2 ⊢;obtain⟨ak,Y,j⟩:=O.kids q.1 q.2;refine⟨T.Outlook,M,_,n _ _ ob,T.gD,T.Ρ,_,Dh _ _ _ _,Φ (n _ _ O.hk) Y ⟨ak,rfl,⟨_,ν.of (n _ _ j)⟩,?_⟩⟩;have kr:∀c∈kd m b r a v,0<=c/\c<m:=λc I=>((bz g R q.1 q.2).mp I).1;refine j7 (K:=K) (xs:=(kd m b r a v).map V.int) (λi B d=>δ H d/\∃(l:Addr)(U:Option V),H l=none/\d l=some (.lst ((uh m ((((kd m b r a v).take i).filter λk=>decide (V.int k≠x)).map (ύ m b r a e Z))).map V.int))/\B=[some (V.ref o),some (V.int v),some x,some (V.ref l),U]) ⟨n,f,_,W,e2,rfl⟩ (λi B d _ z=>ν.of (z.1 _ _ j)) ?_ ?_
 .rintro i y B d N BB ϓ hN C ⟨s3,l,U,nl,el,rfl⟩;refine ϓ _ _ ?_;rw[aJ]at C;obtain⟨c,I,rfl⟩:=cV.mp C;have cm:c∈kd m b r a v:=aO I;have et:(kd m b r a v).take (i+1)=(kd m b r a v).take i++[c]:=by rw[bI,I];rfl
  walk_at "";have sc:tV (V.int c) x=true:=by
   rcases hx with rfl|⟨i,rfl⟩<;>rfl
  refine⟨sc,?_⟩;by_cases u:V.int c=x
  .rw[ag (λz=>z u)];refine hN _ _ ⟨s3,l,_,nl,?_,rfl⟩;rw[et,cX]
   simpa[u]using el
  .rw[aj u];obtain⟨ai,h1,h2⟩:=O.done c (hS c cm);refine⟨T.Outlook,M,_,s3 _ _ ob,T.gD,T.acy,_,CO _ _ _ _,Φ (s3 _ _ O.hi) h1 ?_⟩;have ll:(uh m ((((kd m b r a v).take i).filter λk=>decide (V.int k≠x)).map (ύ m b r a e Z))).length=m.toNat:=zA _ _ (uy m) λy C=>by
    obtain⟨k,hk,rfl⟩:=aU.mp C;have:=kr k (iA (bx.mp hk).1);exact wV g R this.1 this.2
   refine⟨l,ai,_,_,rfl,el,s3 _ _ h2,by lia,λl4 H4 n4 s4 e4=>hN _ _ ⟨s3.trans s4,l4,_,s3.free n4,?_,rfl⟩⟩;rw[et,cX,eV (by simpa using u),gW,aI,aq,eP,Nk];exact e4
 .rintro BB B d ϓ ⟨s3,l,U,nl,el,rfl⟩;refine ϓ _ _ ?_;rw[ah,bL]at el;walk_at "";exact k l d nl s3 el
def p7(T:Txt K L):Nat->Sp
 | 0=>λ_ _ _ _=>False
 | n+1=>λg H Q _=>E18 λ(o p t:Addr)(m:Int)(s:gf)(e:hD)(r:Int)(b:fm)(a:fv)(f:fm)(h k q:Addr)(i:gf)(j:List V)(S:Int->Prop)(v y:Int)=>g=[.ref o,.int v,.int y]/\ό T.Web T.Outlook H o p t m s e r b a f h k q i j S/\(0<=v/\v<m)/\m.toNat<=a v+1+n/\(∀c∈kd m e r b v,S c)/\∀l d,H l=none->δ H d->d l=some (.lst ((nE m e r b a f v y).map V.int))->Q (.ref l) d
def qB(T:Txt K L):Sp:=p7 T 25
def JY(T:Txt K L):Nat->Sp
 | 0=>λ_ _ _ _=>False
 | n+1=>λg H Q _=>E19 λ(o p t:Addr)(m:Int)(s:gf)(d:hD)(r:Int)(a:fm)(b:fv)(e:fm)(h k q:Addr)(i:gf)(j:List V)(S:Int->Prop)(v c y:Int)=>g=[.ref o,.int v,.int c,.int y]/\ό T.Web T.Outlook H o p t m s d r a b e h k q i j S/\(0<=v/\v<m)/\c∈kd m d r a v/\m.toNat<=b c+1+n/\(∀c∈kd m d r a v,S c)/\∀l f,H l=none->δ H f->f l=some (.lst ((byK m d r a e (ύ m d r a b e) (nE m d r a b e) v y c).map V.int))->Q (.ref l) f
abbrev dC:Stmt:=top 49
theorem uH:ζ ["outlook","place","over","room","best","kid","load"] ["outlook","place","over"] (aG dC):=.of
theorem JE:NmL (aG dC) "outlook":=.of (by kernel_rfl)
theorem KZ:NmL (aG dC) "place":=.of (by kernel_rfl)
theorem Lv:NmL (aG dC) "over":=.of (by kernel_rfl)
theorem Li:NmL (aG dC) "room":=.of (by kernel_rfl)
theorem Lb:NmL (aG dC) "best":=.of (by kernel_rfl)
theorem NL:NmL (aG dC) "kid":=.of (by kernel_rfl)
theorem Ly:NmL (aG dC) "load":=.of (by kernel_rfl)
theorem nR:ώ (aG dC) "idle_kids":=.of (by kernel_rfl)
theorem pD:ώ (aG dC) "load_by":=.of (by kernel_rfl)
theorem jT:ώ (aG dC) "total":=.of (by kernel_rfl)
abbrev mI:Stmt:=top 50
theorem Nl:ζ ["outlook","place","kid","room","given","over"] ["outlook","place","kid","room"] (aG mI):=.of
theorem oG:ώ (aG mI) "toll":=.of (by kernel_rfl)
theorem uW:ώ (aG mI) "added":=.of (by kernel_rfl)
theorem oQ:ώ (aG mI) "greatest_load":=.of (by kernel_rfl)
theorem qW:ώ (aG mI) "idle_kids":=.of (by kernel_rfl)
abbrev ri(P w base)(T:Txt K L):=Cb P w K L base "idle_kids" mM ["outlook","place","left_out"] 2 (oV T)
theorem KP(T:Txt K L)(I:bZ (ψ P w)){f:Addr}{fd:FuncData}(D:Df K L "load_by" mI ["outlook","place","kid","room"] f fd)(M:rg P w base T)(U:ri P w base T)(l:i5 P w base T){gh:Addr}{fY:FuncData}(eK:Df K L "greatest_load" dC ["outlook","place","over"] gh fY){n N:Nat}(hN:3<=N)(gj:Ψ P w K L base (ψ P w) N gh fY ["outlook","place","over"] (p7 T n)):Ψ P w K L base (ψ P w) (N+1) f fd ["outlook","place","kid","room"] (JY T n):=by
 refine D.F.ϖ Nl (λvs H Q E h=>?_) (λρ A V s H vs Q E C h=>?_)
 .cases n with
  | zero=>exact h.elim
  | succ n=>
  obtain⟨o,p,t,m,B,u,r,e,q,J,na,ka,Y,kl,bs,S,v,c,y,rfl,_⟩:=h
  rfl
 .cases n with
  | zero=>exact h.elim
  | succ n=>
  obtain⟨o,p,t,m,B,u,r,e,q,J,na,ka,Y,kl,bs,S,v,c,y,rfl,O,x,cm,fu,hS,k⟩:=h;have g:=O.web.go;have R:=O.rt;have Ζ:=g.Ζ;obtain⟨X,ob⟩:=O.ob;obtain⟨⟨a,cn,cp⟩,_,_⟩:=gu g R x.1 x.2 cm;obtain⟨k1,i,a0,a1⟩:=Aa g R a.1 a.2 cn;obtain⟨k2,j,b0,b1⟩:=kC g R a.1 a.2 cn;have e1:dnT u e c=k1:=by unfold dnT;rw[i];rfl
  have e2:lT u e c=k2:=by unfold lT;rw[j];rfl
  rw[cp]at i j;refine⟨_,(aB (Η 4 (bh f8 (γ 3) (bh mD (Ο bX (cD (γ 0) rfl) (γ 2)) (ju l.G (C.mono (by lia)) oG.g l.D.m l.D.F.kp l.D.b .nil (md I) (aa (cD (γ 0) rfl) (aa (γ 1) (aa (γ 2) ax))) (hdb:=oG.d))))) (aB (Η 5 (bh f8 (bh mD (ju l.G (C.mono (by lia)) oG.g l.D.m l.D.F.kp l.D.b .nil (md I) (aa (cD (γ 0) rfl) (aa (γ 2) (aa (γ 1) ax))) (hdb:=oG.d)) (bh gc (γ 4) aQ)) aQ)) (aL (bJ (ju M.G (C.mono (by lia)) uW.g M.D.m M.D.F.kp M.D.b .nil (md I) (aa (ju gj (C.mono (by lia)) oQ.g eK.m eK.F.kp eK.b .nil (md I) (aa (γ 0) (aa (γ 2) (aa (γ 5) ax))) (hdb:=oQ.d)) (aa (ju U.G (C.mono (by lia)) qW.g U.D.m U.D.F.kp U.D.b .nil (md I) (aa (γ 0) (aa (γ 1) (aa (γ 2) ax))) (hdb:=qW.d)) ax)) (hdb:=uW.d)))))),?_⟩;walk_at "s";walk_at "";refine⟨T.Outlook,X,_,ob,T.gD,T.z3,_,vW _ _ _ _,Φ O.hn (E1 J a.1 a.2) ?_⟩;have W:=O.web;refine⟨T.Outlook,X,_,ob,T.gD,T.Θ,_,vI _ _ _ _,?_⟩;refine⟨p,t,m,B,u,v,c,rfl,W,λk' _ _ _ _ h=>?_,λz=>absurd ⟨x,a⟩ z,λ_ _ _ _ z=>by rw[i]at z;cases z⟩;rw[i]at h;cases h;refine⟨_,rfl,_,rfl,.inr ⟨by lia,by lia⟩,?_⟩;refine⟨T.Outlook,X,_,ob,T.gD,T.Θ,_,vI _ _ _ _,?_⟩;refine⟨p,t,m,B,u,c,v,rfl,W,λk' _ _ _ _ h=>?_,λz=>absurd ⟨a,x⟩ z,λ_ _ _ _ z=>by rw[j]at z;cases z⟩;rw[j]at h;cases h;refine⟨_,rfl,.inl ⟨by lia,by lia⟩,?_⟩;refine⟨o,p,t,m,B,u,r,e,q,J,na,ka,Y,kl,bs,S,c,_,rfl,O,a,fu,λd hd=>O.cl c a.1 a.2 (hS c cm) d hd,λl1 H1 n1 Z h1=>?_⟩;refine⟨o,p,t,m,B,u,r,e,q,J,na,ka,Y,kl,bs,S,v,_,rfl,O.same Z,x,.inr ⟨_,rfl⟩,hS,λl2 H2 n2 s2 h2=>?_⟩;refine⟨l1,l2,_,_,rfl,s2 _ _ h1,h2,by rw[LR g R a.1 a.2];lia,λl3 H3 n3 s3 h3=>?_⟩;refine k l3 H3 (Z.free (s2.free n3)) (Z.trans (s2.trans s3)) ?_;unfold byK;rw[e1,e2];exact h3
theorem AD(T:Txt K L)(X:bZ (ψ P w)){f:Addr}{fd:FuncData}(D:Df K L "greatest_load" dC ["outlook","place","over"] f fd){tz:Addr}{rb:FuncData}(nC:Df K L "load_by" mI ["outlook","place","kid","room"] tz rb)(lL:rg P w base T)(W:ri P w base T)(dG:i5 P w base T)(B:ow P w base T):∀n:Nat,Ψ P w K L base (ψ P w) (2*n+4) f fd ["outlook","place","over"] (p7 T n):=by
 intro n;have eK:=D
 induction n with
 | zero=>exact D.F.ϖ uH (λvs H Q E h=>h.elim) (λρ A C s H vs Q E U h=>h.elim)
 | succ n gj=>
 have PL:=KP T X nC lL W dG eK (by lia) gj;refine D.F.ϖ uH (by walk_at "v") λρ A C s H vs Q E U h=>?_;obtain⟨o,p,t,m,ps,j,r,a,e,u,na,ka,ia,kl,bs,S,v,y,rfl,O,x,fu,hS,k⟩:=h;have g:=O.web.go;have R:=O.rt;have Ζ:=g.Ζ;obtain⟨dx,ob⟩:=O.ob;refine⟨_,(aB (Η 3 (bh gc (Ο bX (cD (γ 0) rfl) (γ 1)) (γ 2))) (aB (Η 4 (ju W.G (U.mono (by lia)) nR.g W.D.m W.D.F.kp W.D.b .nil (md X) (aa (γ 0) (aa (γ 1) (aa uP ax))) (hdb:=nR.d))) (aB (Ad (γ 4) (γ 1) xH (γ 3) tK iR) (aB (fq PassesOwn.never rfl (iB (Ο bX (cD (γ 0) rfl) (γ 1))) (ϐ 5) (aB (Η 6 (ju PL (U.mono (by lia)) pD.g nC.m nC.F.kp nC.b .nil (md X) (aa (γ 0) (aa (γ 1) (aa (γ 5) (aa (γ 3) ax)))) (hdb:=pD.d))) (aL (dQ (Ϭ zK (ju B.G (U.mono (by lia)) jT.g B.D.m B.D.F.kp B.D.b .nil (md X) (aa (γ 6) ax) (hdb:=jT.d)) (ju B.G (U.mono (by lia)) jT.g B.D.m B.D.F.kp B.D.b .nil (md X) (aa (γ 4) ax) (hdb:=jT.d))) (aL (Η 4 (γ 6))) cY)))) (aL (bJ (γ 4))))))),?_⟩;walk_at "s";walk_at "";refine⟨T.Outlook,dx,_,ob,T.gD,T.z3,_,vW _ _ _ _,Φ O.hn (E1 u x.1 x.2) ⟨_,rfl,?_⟩⟩;refine⟨o,p,t,m,ps,j,r,a,e,u,na,ka,ia,kl,bs,S,v,_,rfl,O,x,.inl rfl,hS,λl1 H1 n1 s1 h1=>?_⟩;have bp:(Ϫ m j r a (ύ m j r a e u) v V.ο).length=m.toNat:=wm λk hk=>by
  have w:=gu g R x.1 x.2 hk;exact wV g R w.1.1.1 w.1.1.2
 refine Φ h1 (Ac x.1 (by lia)) ⟨_,rfl,rE h1 x.1 (by rw[ah];lia) ?_⟩;have M:=s1.put n1 (.lst (((Ϫ m j r a (ύ m j r a e u) v V.ο).map V.int).set v.toNat (V.int ((Ϫ m j r a (ύ m j r a e u) v V.ο).getD v.toNat 0+(u v+y)))));have h2:upd H1 l1 (.lst (((Ϫ m j r a (ύ m j r a e u) v V.ο).map V.int).set v.toNat (V.int ((Ϫ m j r a (ύ m j r a e u) v V.ο).getD v.toNat 0+(u v+y))))) l1=some (.lst ((pZ (Ϫ m j r a (ύ m j r a e u) v V.ο) v (u v+y)).map V.int)):=by
  rw[aE];unfold pZ;rw[ee]
 generalize upd H1 l1 (.lst (((Ϫ m j r a (ύ m j r a e u) v V.ο).map V.int).set v.toNat (V.int ((Ϫ m j r a (ύ m j r a e u) v V.ο).getD v.toNat 0+(u v+y)))))=H2 at M h2 ⊢;obtain⟨ak,af,J⟩:=O.kids x.1 x.2;refine⟨T.Outlook,dx,_,M _ _ ob,T.gD,T.Ρ,_,Dh _ _ _ _,Φ (M _ _ O.hk) af ⟨ak,rfl,⟨_,ν.of (M _ _ J)⟩,?_⟩⟩;refine j7 (K:=K) (xs:=(kd m j r a v).map V.int) (λi Z I=>δ H I/\E3 λ(l:Addr)(v5 v6:Option V)=>H l=none/\I l=some (.lst (((((kd m j r a v).take i).map (byK m j r a u (ύ m j r a e u) (nE m j r a e u) v (u v+y))).foldl ou (pZ (Ϫ m j r a (ύ m j r a e u) v .ο) v (u v+y))).map V.int))/\Z=[some (V.ref o),some (V.int v),some (V.int y),some (V.int (u v+y)),some (V.ref l),v5,v6]) ⟨M,l1,_,_,n1,h2,rfl⟩ (λi Z I _ z=>ν.of (z.1 _ _ J)) ?_ ?_
 .rintro i y' Z I N BB ϓ hN hy ⟨s3,l,v5,v6,nl,el,rfl⟩;refine ϓ _ _ ?_;rw[aJ]at hy;obtain⟨c,hc,rfl⟩:=cV.mp hy;have cm:c∈kd m j r a v:=aO hc;have et:(kd m j r a v).take (i+1)=(kd m j r a v).take i++[c]:=by rw[bI,hc];rfl
  have w:=gu g R x.1 x.2 cm;obtain⟨n',rfl⟩:∃n',n=n'+1:=⟨n-1,by lia⟩;walk_at "";refine⟨o,p,t,m,ps,j,r,a,e,u,na,ka,ia,kl,bs,S,v,c,_,rfl,O.same s3,x,cm,by lia,hS,λl4 H4 n4 Y h4=>?_⟩;refine⟨l4,_,rfl,.inl (ν.of h4),l,_,rfl,.inl (ν.of (Y _ _ el)),?_⟩;refine⟨_,rfl,_,rfl,?_⟩;have ef:(((kd m j r a v).take (i+1)).map (byK m j r a u (ύ m j r a e u) (nE m j r a e u) v (u v+y))).foldl ou (pZ (Ϫ m j r a (ύ m j r a e u) v .ο) v (u v+y))=ou ((((kd m j r a v).take i).map (byK m j r a u (ύ m j r a e u) (nE m j r a e u) v (u v+y))).foldl ou (pZ (Ϫ m j r a (ύ m j r a e u) v .ο) v (u v+y))) (byK m j r a u (ύ m j r a e u) (nE m j r a e u) v (u v+y) c):=by
   rw[et,aI,List.foldl_append]
   rfl
  split
  .rename_i q
   refine hN _ _ ⟨s3.trans Y,l4,_,_,s3.free n4,?_,rfl⟩;rw[ef,IH q];exact h4
  .rename_i q
   refine hN _ _ ⟨s3.trans Y,l,_,_,nl,?_,rfl⟩;rw[ef,I0 q];exact Y _ _ el
 .rintro BB Z I ϓ ⟨s3,l,v5,v6,nl,el,rfl⟩;refine ϓ _ _ ?_;rw[ah,bL]at el;walk_at "";refine k l I nl s3 ?_;rw[vd g R x.1 x.2];exact el
theorem Ca(T:Txt K L)(h:bZ (ψ P w)){f:Addr}{a:FuncData}(D:Df K L "greatest_load" dC ["outlook","place","over"] f a){e:Addr}{b:FuncData}(g:Df K L "load_by" mI ["outlook","place","kid","room"] e b)(c:rg P w base T)(i:ri P w base T)(d:i5 P w base T)(j:ow P w base T):Ψ P w K L base (ψ P w) 54 f a ["outlook","place","over"] (qB T):=AD T h D g c i d j 25
def zy(T:Txt K L):Sp:=λg H Q _=>E17 λ(o p t:Addr)(m:Int)(q:gf)(e:hD)(r:Int)(a:fm)(b:fv)(f:fm)(h k n:Addr)(i:gf)(j:List V)(S:Int->Prop)(v:Int)=>g=[.ref o,.int v,.int (a v)]/\ό T.Web T.Outlook H o p t m q e r a b f h k n i j S/\(0<=v/\v<m)/\v≠r/\(∀c∈kd m e r a v,S c)/\∀l d,H l=none->δ H d->d l=some (.lst ((ύ m e r a b f v).map V.int))->Q (.ref l) d
abbrev sI:Stmt:=top 46
theorem Jh:ζ ["outlook","place","front"] ["outlook","place","front"] (aG sI):=.of
theorem Ix(T:Txt K L)(q:bZ (ψ P w)){G:Addr}{M:FuncData}(X:Df K L "greatest_load" dC ["outlook","place","over"] G M)(Z:Ψ P w K L base (ψ P w) 54 G M ["outlook","place","over"] (qB T))(fx:ri P w base T)(V:i5 P w base T):Ok P w K L base "idle_load" sI ["outlook","place","front"] 55 (zy T):=λ_ _ D=>by
 refine D.F.ϖ Jh (by walk_at "v") λρ A l s H vs Q E j h=>?_;obtain⟨o,p,t,m,n,f,r,b,d,i,B,N,U,I,J,S,v,rfl,O,a,C,y,k⟩:=h;have g:=O.web.go;have R:=O.rt;have Ζ:=g.Ζ;have W:=O.web;obtain⟨x,ob⟩:=O.ob;obtain⟨k2,e,b0,b1⟩:=kC g R a.1 a.2 C;have Y:lT f b v=k2:=by unfold lT;rw[e];rfl
 have u:=R.up v a.1 a.2 C;rw[xN g R a.1 a.2]at k;refine⟨_,(aB (dQ (Ϭ zK (Ο bX (cD (γ 0) rfl) (γ 1)) aQ) (aL (bJ (Μ fx j q (aa (γ 0) (aa (γ 1) (aa uP ax)))))) cY) (aL (bJ (pcq X Z j q (aa (γ 0) (aa (γ 1) (aa (bh f8 (Μ V j q (aa (cD (γ 0) rfl) (aa (γ 1) (aa (γ 2) ax)))) aQ) ax))))))),?_⟩;walk_at "s";walk_at "";refine⟨T.Outlook,x,_,ob,T.gD,T.z3,_,vW _ _ _ _,Φ O.hn (E1 i a.1 a.2) ⟨_,rfl,?_⟩⟩;by_cases c:0<i v
 .rw[aj c]at k ⊢;exact⟨o,p,t,m,n,f,r,b,d,i,B,N,U,I,J,S,v,_,rfl,O,a,.inl rfl,y,k⟩
 .rw[ag c]at k ⊢;refine⟨T.Outlook,x,_,ob,T.gD,T.Θ,_,vI _ _ _ _,?_⟩;refine⟨p,t,m,n,f,v,b v,rfl,W,λk' _ _ _ _ h=>?_,λz=>absurd ⟨a,u.1⟩ z,λ_ _ _ _ z=>by rw[e]at z;cases z⟩;rw[e]at h;cases h;refine⟨_,rfl,?_⟩;refine⟨o,p,t,m,n,f,r,b,d,i,B,N,U,I,J,S,v,_,rfl,O,a,by show m.toNat<=d v+1+24;lia,y,?_⟩;rw[<-Y];exact k
def uw(T:Txt K L):Sp:=λg H Q E=>E8 λ(p a t:Addr)(c:Bool)(m:Int)(e:gf)(f:hD)(d:fc)=>g=[.ref p,.ref a]/\μ T.Web H p m t e f/\ϑ K c H a (d.map V.int)/\d.length<=1000/\(b6 m d=true->∀l b,δ H b->Ξ K b l (d.map V.int)->Q (.ref l) b)/\(b6 m d=false->∀b,δ H b->E (.ref T.BadWish) none b)
abbrev pj:Stmt:=top 34
theorem Nm:ζ ["web","numbers"] ["web","numbers"] (aG pj):=.of
theorem tN:ώ (aG pj) "BadWish":=.of (by kernel_rfl)
theorem Oh(T:Txt K L)(C:bZ (ψ P w))(u:Cb P w K L base "is_filled" qj ["web","numbers"] 1 (vf T)):Ok P w K L base "wish_of" pj ["web","numbers"] 2 (uw T):=λ_ _ D=>by
 refine D.F.gT Nm (by walk_at "v") λB A j s H y Q E r h=>?_;obtain⟨p,a,t,c,m,x,q,i,rfl,W,f,v,k,e⟩:=h;refine⟨_,(aB (dQ (lO (kR (Χ u r cR (aa (γ 0) (aa (γ 1) ax))))) (aL (nM T.vJ rfl pK tN.g T.FV (aa rh ax) (hdb:=tN.d))) cY) (aL (bJ (pct kO T.tuple (aa (γ 1) ax))))),?_⟩;walk_at "s";walk_at "";refine⟨p,a,t,c,m,x,q,i,rfl,W,f,v,λo b=>⟨_,rfl,?_⟩⟩;by_cases z:b6 m i=false
 .rw[aj z];exact⟨by decide,e z o b⟩
 .rw[ag z];have n:b6 m i=true:=by simpa using z
  cases c
  .exact⟨_,.inr ⟨δ.gE (c:=false) b f,k n a o b (δ.gE (c:=false) b f)⟩⟩
  .exact⟨_,.inl ⟨δ.gE (c:=true) b f,λl nl=>k n l _ (b.trans (δ.new _ nl)) (Ξ.of aE)⟩⟩
def GW(T:Txt K L):Sp:=λh H Q E=>E9 λ(p a t:Addr)(c:Bool)(m:Int)(i:gf)(g:hD)(e:fc)(r:Int)=>h=[.ref p,.ref a,.int r]/\μ T.Web H p m t i g/\ϑ K c H a (e.map V.int)/\e.length<=1000/\(b6 m e=true->0<=r->r<m->∃d f,ε m g r d f/\∀l b,H l=none->δ H b->b l=some (.lst ((rK m g r d f (λv=>e.getD v.toNat 0) (ned g d)).map V.int))->Q (.ref l) b)/\(b6 m e=false->∀b,δ H b->E (.ref T.BadWish) none b)/\(b6 m e=true->¬(0<=r/\r<m)->∀b,δ H b->E (.ref T.NoPlace) none b)
abbrev Ai:Stmt:=top 40
theorem Sm:ζ ["web","wish","r","found","place","front"] ["web","wish","r"] (aG Ai):=.of
abbrev ru(P w base)(T:Txt K L):=Cb P w K L base "wish_of" pj ["web","numbers"] 2 (uw T)
theorem RU(T:Txt K L)(hq:bZ (ψ P w))(eY:i7 P w base T)(dG:i5 P w base T)(mK:ru P w base T):Ok P w K L base "needs" Ai ["web","wish","r"] 8 (GW T):=λ_ _ D=>by
 refine D.F.gT Sm (by walk_at "v") λρ A M s H vs Q E hr h=>?_;obtain⟨p,a,t,c,m,ps,y,xs,r,rfl,W,ha,hz,k,e,e'⟩:=h;have g:=W.go;have Ζ:=g.Ζ;refine⟨_,(aB (Η 3 (pct oX T.list (aa (Χ mK hr cR (aa (γ 0) (aa (γ 1) ax))) ax))) (aB (fq PassesOwn.leaving rfl (iB (Χ eY hr cR (aa (γ 0) (aa (γ 2) ax)))) (j1 (n:=2) rfl (cH (ϐ 4) (cH (ϐ 5) gX))) (aL (Ad (γ 3) (γ 5) xH (bh mD (Ο bX (γ 3) (γ 4)) (Χ dG hr cR (aa (γ 0) (aa (γ 5) (aa (γ 4) ax))))) tK iR))) (aL (bJ (γ 3))))),?_⟩;walk_at "s";walk_at "";refine⟨p,a,t,c,m,ps,y,xs,?_⟩;refine an6 rfl W ha hz (λfi l0 H0 s0 e0=>?_) e;have xl:(xs.length:Int)=m:=by
  unfold b6 at fi;rw[bK]at fi;exact bF fi.1
 refine⟨l0,rfl,_,.inr e0,λl n1=>?_⟩;have s1:=δ.new (.lst (xs.map V.int)) n1;have f:=s0.trans s1;have nl:=s0.free n1;have e1:upd H0 l (.lst (xs.map V.int)) l=some (.lst (xs.map V.int)):=aE;generalize upd H0 l (.lst (xs.map V.int))=H1 at s1 f e1 ⊢;refine⟨p,t,m,ps,y,r,?_⟩;refine an4 rfl (W.same f) (λr0 r1=>?_) (λz=>e' fi z H1 f);obtain⟨d,B,R,k⟩:=k fi r0 r1;refine⟨d,B,R,λY G J H2 _ n2 s2 e2 pa O=>?_⟩;have ae:Y≠l:=λz=>by rw[z,e1]at n2;cases n2
 refine⟨Y,rfl,⟨_,ν.of e2⟩,?_⟩;have ql:G.length=J.reverse.length:=Paired.length pa;refine j7 (K:=K) (xs:=G.map V.ref) (λi I j=>δ H j/\j Y=some (.lst (G.map V.ref))/\Α j d G J.reverse/\E3 λ(C:fc)(X Z:Option V)=>j l=some (.lst (C.map V.int))/\ϋ m y r d B (λv=>xs.getD v.toNat 0) (ned y d) (J.drop (J.length-i)) C/\I=[some (V.ref p),some (V.ref a),some (V.int r),some (V.ref l),X,Z]) ⟨f.trans s2,e2,pa,xs,_,_,s2 _ _ e1,by rw[eu,dh];exact ϋ.nil xl,rfl⟩ (λi I j _ z=>ν.of z.2.1) ?_ ?_
 .rintro i x I j N BB ϓ hN hx ⟨s3,e3,pa3,C,X,Z,c3,so,rfl⟩;refine ϓ _ _ ?_;obtain⟨q,v,rfl,hq,hv,eq⟩:=pa3.get hx;obtain⟨⟨o,vn⟩,ev,U⟩:=O.turn g R so hv;have u:=R.up v o.1 o.2 vn;obtain⟨kk,S,k0,k1⟩:=Aa g R o.1 o.2 vn;have cl:=so.len;walk_at "";refine⟨_,Ξ.of eq,rfl,_,_,rfl,_,_,rfl,rfl,?_⟩;refine Φ c3 (Ac u.1.1 (by lia)) (Φ c3 (Ac o.1 (by lia)) ?_);refine⟨p,t,m,ps,y,d v,v,rfl,W.same s3,λk' _ _ _ _ h=>?_,λz=>absurd ⟨u.1,o⟩ z,λ_ _ _ _ z=>by rw[S]at z;cases z⟩;rw[S]at h;cases h;refine⟨_,rfl,_,rfl,.inr ⟨by lia,by lia⟩,_,rfl,rE c3 u.1.1 (by rw[ah];lia) (hN _ _ ⟨s3.put nl _,?_,?_,qr d (ned y d) C v,_,_,?_,U,rfl⟩)⟩
  .rw[aN ae];exact e3
  .exact Paired.imp' (λa b h=>by rw[aN (fM h c3 (by intro z;cases z))];exact h) pa3
  .rw[aE,<-ee];unfold qr ned;rw[S]
   rfl
 .rintro BB I j ϓ ⟨s3,e3,pa3,C,X,Z,c3,so,rfl⟩;refine ϓ _ _ ?_;rw[ah,ql,aV,dD,fT]at so;rw[O.done g R so]at c3;walk_at "";exact k l j nl s3 c3
theorem ό.put{C O:Addr}{H:Hp}{o p t:Addr}{m:Int}{E:gf}{g:hD}{r:Int}{par:fm}{f:fv}{nd:fm}{j n b:Addr}{k:gf}{bs:List V}{S:Int->Prop}(h:ό C O H o p t m E g r par f nd j n b k bs S)(A:j≠b)(y:n≠b)(s:∀q∈k,q≠b)(hd:∀c,S c->0<=c/\∀a,Ϧ bs c=some (.ref a)->a≠b)(bl:bs.length=m.toNat){v:Int}(v0:0<=v)(v1:v<m)(F:∀c∈kd m g r par v,S c){l:Addr}(G:H l=some (.lst ((ύ m g r par f nd v).map V.int)))(nl:l≠b):ό C O (upd H b (.lst (bs.set v.toNat (.ref l)))) o p t m E g r par f nd j n b k (bs.set v.toNat (.ref l)) (λc=>c=v\/S c) where
 ob:=by
  obtain⟨i,q⟩:=h.ob;exact⟨i,by rw[aN (fM q h.hi (by intro z;cases z))];exact q⟩
 web:=by
  have W:=h.web;refine⟨?_,?_,?_,W.go⟩
  .obtain⟨i,q⟩:=W.ob;exact⟨i,by rw[aN (fM q h.hi (by intro z;cases z))];exact q⟩
  .rw[aN (fM W.tu h.hi (by intro z;cases z))];exact W.tu
  .exact Paired.imp' (λq x e=>by rw[aN (fM e h.hi (by intro z;cases z))];exact e) W.ro
 rt:=h.rt
 hn:=by rw[aN A];exact h.hn
 hk:=by rw[aN y];exact h.hk
 kp:=wH (λq x M e=>by rw[aN (s q M)];exact e) h.kp
 hi:=aE
 done:=λc d=>by
  by_cases e:c=v
  .subst e;refine⟨l,dj v0 ?_,by rw[aN nl];exact G⟩;rw[da (by lia)]
  .have d:=d.resolve_left e;obtain⟨a,D,J⟩:=h.done c d;obtain⟨B,I⟩:=hd c d;refine⟨a,dj B ?_,by rw[aN (I a D)];exact J⟩;rw[cT (by lia)];exact(wN B).symm.trans D
 cl:=λu u0 u1 hu c d=>by
  rcases hu with rfl|hu
  .exact .inr (F c d)
  .exact .inr (h.cl u u0 u1 hu c d)
theorem ό.sub{C O:Addr}{H:Hp}{o p t:Addr}{m:Int}{q:gf}{e:hD}{r:Int}{a:fm}{b:fv}{g:fm}{i l n:Addr}{j:gf}{k:List V}{S:Int->Prop}{d:Int->Prop}(h:ό C O H o p t m q e r a b g i l n j k S)(f:∀c,d c->S c)(s:∀u,0<=u->u<m->d u->∀c∈kd m e r a u,d c):ό C O H o p t m q e r a b g i l n j k d:=⟨h.ob,h.web,h.rt,h.hn,h.hk,h.kp,h.hi,λc v=>h.done c (f c v),s⟩
theorem μ.kpt{C O:Addr}{H c:Hp}{o p:Addr}{m:Int}{t b:Addr}{d:gf}{f:hD}(e:Kpt o H c)(a:H o=some (.ins O b []))(h:μ C H p m t d f):μ C c p m t d f:=⟨let ⟨b,q⟩:=h.ob;⟨b,e _ _ q (fM q a (by intro z;cases z))⟩,e _ _ h.tu (fM h.tu a (by intro z;cases z)),Paired.imp' (λq x z=>e _ _ z (fM z a (by intro z;cases z))) h.ro,h.go⟩
def rQ(T:Txt K L):Sp:=λk H Q _=>E11 λ(o j p a t:Addr)(c:Bool)(m:Int)(i:gf)(f:hD)(h:fc)(r:Int)=>k=[.ref o,.ref p,.ref a,.int r]/\H o=some (.ins T.Outlook j [])/\μ T.Web H p m t i f/\ϑ K c H a (h.map V.int)/\b6 m h=true/\(0<=r/\r<m)/\∃d e,ε m f r d e/\∀l s u n q g,ό T.Web T.Outlook g o p t m i f r d e (Ε m f r d e (λv=>h.getD v.toNat 0) (ned f d)) l s u n q (λv=>(0<=v/\v<m)/\v≠r)->(∀b x,H b=some x->b≠o->g b=some x)->Q .ο g
abbrev gn:Stmt:=EM (top 45) 0
theorem yF:ζ ["self","web","wish","r","place","front"] ["self","web","wish","r"] (aG gn):=.of
theorem rO:ώ (aG gn) "enumerate":=.of (by kernel_rfl)
theorem yE(T:Txt K L)(X:bZ (ψ P w)){f:Addr}{fd:FuncData}(F:Fun K "__init__" "Outlook.__init__" gn f fd)(mw:ix P w base T)(vX:Cb P w K L base "idle_load" sI ["outlook","place","front"] 55 (zy T))(eY:i7 P w base T)(jH:iv P w base T)(EE:Cb P w K L base "needs" Ai ["web","wish","r"] 8 (GW T)):Ψ P w K L base (ψ P w) 56 f fd ["self","web","wish","r"] (rQ T):=by
 refine F.ϖ yF (by walk_at "v") λρ A b2 s H vs Q E hr h=>?_;obtain⟨o,j,p,a,t,c,m,ps,S,xs,r,rfl,ho,W,ha,fi,rr,par,M,R,k⟩:=h;have g:=W.go;have Ζ:=g.Ζ;obtain⟨dw,wb⟩:=W.ob;refine⟨_,(aB (nQ (γ 0) (Ϩ 1) rfl) (aB (nQ (γ 0) (Μ EE hr X (aa (Ϩ 1) (aa (γ 2) (aa (γ 3) ax)))) rfl) (aB (nQ (γ 0) (kE rfl (clo ["place","front","web"] 2 [1]) (wP true rO.g T.enumerate (Μ mw hr X (aa (Ϩ 1) (aa (γ 3) ax)))) (λ_ _ _ _=>(zV K rfl (n:=2) rfl (cH (f9 (i:=0) (show(["place","front","web"]:gy).Nodup from by decide +kernel) rfl (Or.inl rfl)) (cH (f9 (i:=1) (show(["place","front","web"]:gy).Nodup from by decide +kernel) rfl (Or.inl rfl)) gX)))) (λ_ _ _ _=>kj) (λ_ _ _ _=>(ju jH.G (hr.mono (by decide)) (by rfl) jH.D.m jH.D.F.kp jH.D.b .nil (md X) (aa (pv 2) (aa (pv 0) (aa (pv 1) ax)))))) rfl) (aB (nQ (γ 0) (bh qf (gF (aa uP ax)) (cD (Ϩ 1) rfl)) rfl) (aL (fq PassesOwn.never rfl (iB (Μ eY hr X (aa (Ϩ 1) (aa (γ 3) ax)))) (j1 (n:=2) rfl (cH (ϐ 4) (cH (ϐ 5) gX))) (aL (nz (Μ vX hr X (aa (γ 0) (aa (γ 4) (aa (γ 5) ax)))) (oW (cD (γ 0) rfl) (γ 4) iR))))))))),?_⟩;walk_at "s";walk_at "";have xl:(xs.length:Int)=m:=by
  have fi:=fi;unfold b6 at fi;rw[bK]at fi;exact bF fi.1
 refine⟨T.Outlook,j,[],ho,T.gD,T.Θ,by decide,?_⟩;have k1:Kpt o H (upd H o (.ins T.Outlook j (bj "web" (.ref p) []))):=Kpt.refl.put _;have o1:upd H o (.ins T.Outlook j (bj "web" (.ref p) [])) o=some (.ins T.Outlook j (bj "web" (.ref p) [])):=aE;generalize upd H o (.ins T.Outlook j (bj "web" (.ref p) []))=H1 at k1 o1 ⊢;refine⟨p,a,t,c,m,ps,S,xs,r,rfl,W.kpt k1 ho,k1.gE ho ha,by lia,λ_ _ _=>⟨par,M,R,λB H2 n2 s2 e2=>?_⟩,λz=>(by rw[fi]at z;cases z),λ_ z=>absurd rr z⟩;have k2:=k1.then s2;refine⟨T.Outlook,j,_,s2 _ _ o1,T.gD,T.z3,by show 1<1000;decide,?_⟩;have ai:B≠o:=λz=>by rw[z,o1]at n2;cases n2
 have k3:=k2.put (.ins T.Outlook j (bj "needs" (.ref B) (bj "web" (.ref p) [])));have o3:upd H2 o (.ins T.Outlook j (bj "needs" (.ref B) (bj "web" (.ref p) []))) o=some (.ins T.Outlook j (bj "needs" (.ref B) (bj "web" (.ref p) []))):=aE;have e3:upd H2 o (.ins T.Outlook j (bj "needs" (.ref B) (bj "web" (.ref p) []))) B=_:=(aN ai).trans e2;generalize upd H2 o (.ins T.Outlook j (bj "needs" (.ref B) (bj "web" (.ref p) [])))=H3 at k3 o3 e3 ⊢;have W3:=W.kpt k3 ho;refine⟨p,t,m,ps,S,r,rfl,W3,λ_ _=>⟨par,M,R,λla H4 n4 s4 e4=>⟨la,rfl,⟨_,ν.of e4⟩,λC af=>?_⟩⟩,λz=>absurd rr z⟩;have ec:=s4.free af;refine FU (K:=K) (c:=true) (xs:=oz m r par) (λi ys σ Z=>δ H4 Z/\Z C=some (.lst ys)/\(∃U:List Addr,ys=U.map V.ref/\Paired (λa v=>Z a=some (.lst ((kd m S r par v).map V.int))) U ((bM m.toNat).take i)/\∀q∈U,q≠C)/\∃v w,σ=[v,w,some (V.ref p)]) ⟨δ.new _ af,aE,⟨[],rfl,.nil,by simp⟩,_,_,rfl⟩ (λi ys σ Z z=>ν.of (z.1 _ _ e4)) ?_ ?_
 .rintro i x ys σ Z q N hN hx ⟨s5,e5,⟨U,rfl,pk,hkq⟩,v,w,rfl⟩ nq;have il:i<m.toNat:=by
   have:=(aD.mp hx).1;unfold oz at this
   rwa [ah,cq]at this
  have ex:x=Pb.front r par (i:Int):=by
   have:=xA (m:=m) (r:=r) (par:=par) (v:=(i:Int)) (by lia) (by lia);rw[show((i:Int)).toNat=i from rfl,hx]at this;exact bu this
  have qe:=s5 _ _ e4;have s6:=δ.new (.tup [V.int i,x]) nq;have cz:=s5.trans s6;have et:(bM m.toNat).take (i+1)=(bM m.toNat).take i++[(i:Int)]:=by rw[bI,fy il];rfl
  have ea:U.length<=24:=by
   have:=Paired.length pk;rw[bE]at this
   lia
  walk_at "";refine⟨_,Ξ.of aE,rfl,_,_,rfl,_,_,rfl,rfl,?_⟩;refine⟨p,t,m,ps,S,i,x,rfl,W3.same (s4.trans cz),by lia,by lia,?_,λl6 H6 n6 s7 e7=>?_⟩
  .rw[ex];unfold Pb.front;split
   .exact .inl rfl
   .exact .inr ⟨_,rfl⟩
  have an:=s6.trans s7;refine⟨an _ _ e5,fV (by rw[ah];lia),hN _ _ _ ⟨(s5.trans an).put af _,aE,⟨U++[l6],by rw[aI];rfl,?_,λq X=>?_⟩,_,_,rfl⟩⟩;have nk:l6≠C:=λz=>by rw[z,s6 _ _ e5]at n6;cases n6
  rotate_left
  .rcases ba.mp X with h|h
   .exact hkq q h
   .rw[aK.mp h];exact λz=>by rw[z,s6 _ _ e5]at n6;cases n6
  rw[et];refine uT (by rw[aN nk,e7,ex]) (wH (λq v X h=>?_) pk);have e:q≠C:=λz=>hkq q X z;rw[aN e];exact an _ _ h
 .rintro ys σ Z ⟨s5,e5,⟨U,rfl,pk,hkq⟩,v,w,rfl⟩;rw[show(oz m r par).length=m.toNat by unfold oz;rw[ah,cq],cW (by rw[cq];exact az _)]at pk;have o5:=s5 _ _ (s4 _ _ o3);have k5:=(k3.then s4).then s5;have bV:=s5 _ _ (s4 _ _ e3);refine⟨T.Outlook,j,_,o5,T.gD,T.Ρ,by show 2<1000;decide,by decide,λl1 n1=>?_⟩;have a0:C≠o:=λz=>by rw[z,o5]at e5;cases e5
  have k6:=k5.put (.ins T.Outlook j (bj "kids" (.ref C) (bj "needs" (.ref B) (bj "web" (.ref p) []))));have o6:upd Z o (.ins T.Outlook j (bj "kids" (.ref C) (bj "needs" (.ref B) (bj "web" (.ref p) [])))) o=some (.ins T.Outlook j (bj "kids" (.ref C) (bj "needs" (.ref B) (bj "web" (.ref p) [])))):=aE;have e6:upd Z o (.ins T.Outlook j (bj "kids" (.ref C) (bj "needs" (.ref B) (bj "web" (.ref p) [])))) C=_:=(aN a0).trans e5;have ar:upd Z o (.ins T.Outlook j (bj "kids" (.ref C) (bj "needs" (.ref B) (bj "web" (.ref p) [])))) B=_:=(aN ai).trans bV;have al:Paired (λa v=>upd Z o (.ins T.Outlook j (bj "kids" (.ref C) (bj "needs" (.ref B) (bj "web" (.ref p) [])))) a=some (.lst ((kd m S r par v).map V.int))) U (bM m.toNat):=Paired.imp' (λq v h=>by rw[aN (fM h o5 (by intro z;cases z))];exact h) pk;generalize upd Z o (.ins T.Outlook j (bj "kids" (.ref C) (bj "needs" (.ref B) (bj "web" (.ref p) []))))=H6 at k6 o6 e6 ar al n1 ⊢;have s7:=δ.new (.lst [V.ο]) n1;obtain⟨cA,ca⟩:=(W.kpt k6 ho).ob;refine⟨T.Web,cA,_,s7 _ _ ca,T.iw,T.Κ,_,fU _ _,?_⟩;refine⟨l1,m,[V.ο],rfl,rfl,aE,by lia,by lia,dz (by simp;lia),λI a5=>?_⟩;rw[uN];have s8:=s7.trans (δ.new (.lst (List.replicate m.toNat V.ο)) a5);have i8:upd (upd H6 l1 (.lst [V.ο])) I (.lst (List.replicate m.toNat V.ο)) I=some (.lst (List.replicate m.toNat V.ο)):=aE;have J:=s7.free a5;generalize upd (upd H6 l1 (.lst [V.ο])) I (.lst (List.replicate m.toNat V.ο))=H8 at s8 i8 ⊢;have o8:=s8 _ _ o6;refine⟨T.Outlook,j,_,o8,T.gD,T.acy,by show 3<1000;decide,?_⟩;have k8:=(k6.then s8).put (.ins T.Outlook j (pM p B C I));have a2:I≠o:=λz=>by rw[z,o6]at J;cases J
  have O9:ό T.Web T.Outlook (upd H8 o (.ins T.Outlook j (pM p B C I))) o p t m ps S r par M (Ε m S r par M (λv=>xs.getD v.toNat 0) (ned S par)) B C I U (List.replicate m.toNat V.ο) (λ_=>False):=⟨⟨j,aE⟩,W.kpt k8 ho,R,(aN ai).trans (s8 _ _ ar),(aN a0).trans (s8 _ _ e6),Paired.imp' (λq v h=>by rw[aN (fM h o6 (by intro z;cases z))];exact s8 _ _ h) al,(aN a2).trans i8,λc z=>z.elim,λu _ _ z=>z.elim⟩
  have k9:=k8;show lH T [V.ref p,V.int r] (upd H8 o (.ins T.Outlook j (pM p B C I))) _ _;generalize upd H8 o (.ins T.Outlook j (pM p B C I))=H9 at O9 k9 ⊢;have co:H I=none:=by
   cases e:H I with
   | none=>rfl
   | some x=>rw[k6 _ _ e a2]at J;cases J
  have cm:B≠I:=λz=>by rw[<-z,ar]at J;cases J
  have cu:C≠I:=λz=>by rw[<-z,e6]at J;cases J
  have cf:∀q∈U,q≠I:=λq X z=>by
   obtain⟨v,hv⟩:=EX al X;rw[z,J]at hv;cases hv
  refine⟨p,t,m,ps,S,r,rfl,O9.web,λ_ _=>⟨par,M,R,λlq qs tl du et aC a7 aT pa Or=>⟨lq,rfl,⟨_,ν.of aT⟩,?_⟩⟩,λz=>absurd rr z⟩;have cx:lq≠I:=λz=>by rw[z,O9.hi]at aC;cases aC
  refine j7 (K:=K) (xs:=qs.map V.ref) (λi σ O=>Kpt o H O/\O lq=some (.lst (qs.map V.ref))/\Α O par qs tl.reverse/\E3 λ(bs:List V)(v4 v5:Option V)=>ό T.Web T.Outlook O o p t m ps S r par M (Ε m S r par M (λv=>xs.getD v.toNat 0) (ned S par)) B C I U bs (λc=>c∈tl.drop (tl.length-i))/\bs.length=m.toNat/\(∀c,c∈tl.drop (tl.length-i)->∀a,Ϧ bs c=some (.ref a)->a≠I)/\σ=[some (V.ref o),some (V.ref p),some (V.ref a),some (V.int r),v4,v5]) ⟨k9.then a7,aT,pa,List.replicate m.toNat V.ο,_,_,(O9.same a7).sub (λc d=>?_) (λu _ _ hu=>?_),cC,λc d=>?_,rfl⟩ (λi σ O _ z=>ν.of z.2.1) ?_ ?_
  .rw[eu,dh]at d;cases d
  .rw[eu,dh]at hu;cases hu
  .rw[eu,dh]at d;cases d
  .rintro i x σ O N BB ϓ hN hx ⟨k11,e11,aeW,bs,v4,v5,O11,bl,hda,rfl⟩;refine ϓ _ _ ?_;obtain⟨q,v,rfl,X,hv,eq⟩:=aeW.get hx;obtain⟨⟨vr,vn⟩,ed,_,aS,c1⟩:=Or.cut R hv;have hS:∀c∈kd m S r par v,c∈tl.drop (tl.length-i):=λc d=>by
    have w:=(bz g R vr.1 vr.2).mp d;exact c1 c w.1.1 w.1.2 w.2.1 w.2.2
   walk_at "";refine⟨_,Ξ.of eq,rfl,_,_,rfl,_,_,rfl,rfl,?_⟩;refine⟨o,p,t,m,ps,S,r,par,M,_,B,C,I,U,bs,_,v,rfl,O11,vr,vn,hS,λl d3 a3 Y cp=>?_⟩;have ab:=O11.same Y;obtain⟨bY,cs⟩:=ab.ob;have nl:l≠I:=λz=>by rw[z,O11.hi]at a3;cases a3
   refine⟨T.Outlook,bY,_,cs,T.gD,T.acy,_,CO _ _ _ _,rE ab.hi vr.1 (by lia) (hN _ _ ⟨?_,?_,?_,_,_,_,(ab.put cm cu cf (λc d=>⟨(aS c d).1.1,hda c d⟩) bl vr.1 vr.2 hS cp nl).sub (λc d=>?_) (λu u0 u1 hu c d=>?_),?_,?_,rfl⟩)⟩
   .exact λb y hb nb=>by rw[aN (cG hb co)];exact Y _ _ (k11 b y hb nb)
   .rw[aN cx];exact Y _ _ e11
   .exact Paired.imp' (λa b h=>by rw[aN (fM (Y _ _ h) ab.hi (by intro z;cases z))];exact Y _ _ h) aeW
   .rw[ed]at d;exact aw.mp d
   .rw[ed];rw[ed]at hu;rcases aw.mp hu with rfl|hu
    .exact ap _ (hS c d)
    .exact ap _ (O11.cl u u0 u1 hu c d)
   .rw[b4];exact bl
   .intro c d a' ha';rw[ed]at d;by_cases e:c=v
    .subst e;rw[wN vr.1,da (by lia)]at ha';cases ha';exact nl
    .have d:=(aw.mp d).resolve_left e;have c0:=(aS c d).1.1;rw[wN c0,cT (by lia),<-wN c0]at ha';exact hda c d a' ha'
  .rintro BB σ O ϓ ⟨k11,e11,aeW,bs,v4,v5,O11,bl,hda,rfl⟩;refine ϓ _ _ ?_;have ql:qs.length=tl.reverse.length:=Paired.length aeW;rw[ah,ql,aV,dD,fT]at O11;walk_at "";refine k B C I U bs O (O11.sub (λc d=>?_) (λu u0 u1 hu c d=>?_)) k11
   .exact(Or.all c d.1.1 d.1.2).resolve_left d.2
   .have w:=(bz g R u0 u1).mp d;exact⟨w.1,w.2.1⟩
def DW(T:Txt K L):Sp:=λi H Q _=>E9 λ(p a t:Addr)(c:Bool)(m:Int)(h:gf)(e:hD)(g:fc)(r:Int)=>i=[.ref p,.ref a,.int r]/\μ T.Web H p m t h e/\ϑ K c H a (g.map V.int)/\b6 m g=true/\(0<=r/\r<m)/\∃b d,ε m e r b d/\∀l f,H l=none->δ H f->f l=some (.tup ((nE m e r b d (zN m e r b d g) r (-1)).map V.int))->Q (.ref l) f
abbrev tx:Stmt:=top 44
theorem Nb:ζ ["web","wish","r"] ["web","wish","r"] (aG tx):=.of
theorem tf:ώ (aG tx) "Outlook":=.of (by kernel_rfl)
theorem On(T:Txt K L)(X:bZ (ψ P w)){u:Addr}{y:FuncData}(mz:Fun K "__init__" "Outlook.__init__" gn u y)(zJ:Binds K y ["self","web","wish","r"] [])(Y:Mk K T.Outlook u)(Z:Ψ P w K L base (ψ P w) 56 u y ["self","web","wish","r"] (rQ T)){M:Addr}{S:FuncData}(eK:Df K L "greatest_load" dC ["outlook","place","over"] M S)(gj:Ψ P w K L base (ψ P w) 54 M S ["outlook","place","over"] (qB T)):Ok P w K L base "failing" tx ["web","wish","r"] 58 (DW T):=λ_ _ D=>by
 refine D.F.ϖ Nb (by walk_at "v") λρ A z s H vs Q E N h=>?_;obtain⟨p,a,t,c,m,V,C,xs,r,rfl,W,ha,fi,j,f,e,R,k⟩:=h;have Ζ:=W.go.Ζ;refine⟨_,(aL (bJ (pct kO T.tuple (aa (pcq eK gj N X (aa (wU Y Z (N.mono (by decide)) tf.g T.OU zJ .nil (md X) (aa (γ 0) (aa (γ 1) (aa (γ 2) ax))) (hdb:=tf.d)) (aa (γ 2) (aa (Du zF aQ) ax)))) ax)))),?_⟩;walk_at "s";walk_at "";intro o i B v ne;have n:upd H i (.own o) o=none:=by rw[aN ne.symm];exact B
 have q:δ H (upd (upd H i (.own o)) o (.ins T.Outlook i [])):=(δ.new _ v).trans (δ.new _ n);refine⟨o,i,p,a,t,c,m,V,C,xs,r,rfl,aE,W.same q,δ.gE q ha,fi,j,f,e,R,λna ka ia kl bs H1 O kp=>?_⟩;have G:δ H H1:=λb x U=>kp b x (q b x U) (cG U B);refine⟨rfl,?_⟩;refine⟨o,p,t,m,V,C,r,f,e,_,na,ka,ia,kl,bs,_,r,_,rfl,O,j,by show m.toNat<=e r+1+24;lia,λc hc=>?_,λl H2 n2 I h2=>?_⟩
 .have w:=(bz W.go R j.1 j.2).mp hc;exact⟨w.1,w.2.1⟩
 .refine⟨l,rfl,_,.inl ⟨ν.of h2,λl3 J=>k l3 _ (G.free (I.free J)) ((G.trans I).trans (δ.new _ J)) aE⟩⟩
def xS(T:Txt K L):Sp:=λg H Q E=>E8 λ(p a t:Addr)(c:Bool)(m:Int)(e:gf)(f:hD)(d:fc)=>g=[.ref p,.ref a]/\μ T.Web H p m t e f/\ϑ K c H a (d.map V.int)/\d.length<=1000/\(b6 m d=true->∀b,δ H b->Q (.bl (decide (d.sum=0))) b)/\(b6 m d=false->∀b,δ H b->E (.ref T.BadWish) none b)
abbrev tL:Stmt:=top 43
theorem Mv:ζ ["web","wish"] ["web","wish"] (aG tL):=.of
theorem NF(T:Txt K L)(B:bZ (ψ P w))(v:ow P w base T)(g:ru P w base T):Ok P w K L base "is_idle" tL ["web","wish"] 3 (xS T):=λ_ _ D=>by
 refine D.F.gT Mv (by walk_at "v") λy A d s H x Q E f h=>?_;obtain⟨p,a,t,c,m,r,j,b,rfl,W,n,q,k,e⟩:=h;refine⟨_,(aL (bJ (nW kG (Χ v f cR (aa (Χ g f cR (aa (γ 0) (aa (γ 1) ax))) ax)) aQ (lY _)))),?_⟩;walk_at "s";walk_at "";refine⟨p,a,t,c,m,r,j,b,rfl,W,n,q,λfi l u i o=>?_,e⟩;refine⟨l,_,rfl,.inr o,?_⟩;refine⟨rfl,?_⟩;rw[show decide (V.int b.sum=V.int 0)=decide (b.sum=0) by by_cases z:b.sum=0<;>simp[z]];exact k fi u i
def Cc(T:Txt K L):Sp:=λi H Q E=>E8 λ(p a t:Addr)(c:Bool)(m:Int)(h:gf)(g:hD)(b:fc)=>i=[.ref p,.ref a]/\μ T.Web H p m t h g/\ϑ K c H a (b.map V.int)/\b.length<=1000/\(b6 m b=true->b.sum≠0->∃e f,ε m g (qA m b) e f/\∀l d,H l=none->δ H d->d l=some (.tup ((nE m g (qA m b) e f (zN m g (qA m b) e f b) (qA m b) (-1)).map V.int))->Q (.ref l) d)/\(b6 m b=false->∀d,δ H d->E (.ref T.BadWish) none d)/\(b6 m b=true->b.sum=0->∀d,δ H d->E (.ref T.NoWorst) none d)
abbrev qP:Stmt:=top 42
theorem HD:ζ ["web","wish","wanted_at"] ["web","wish"] (aG qP):=.of
theorem zC:NmL (aG qP) "wanted_at":=.of (by kernel_rfl)
theorem uU:ώ (aG qP) "NoWorst":=.of (by kernel_rfl)
theorem EK:ώ (aG qP) "range":=.of (by kernel_rfl)
theorem QW(T:Txt K L)(hq:bZ (ψ P w))(zo:Cb P w K L base "failing" tx ["web","wish","r"] 58 (DW T))(U:Cb P w K L base "is_idle" tL ["web","wish"] 3 (xS T)):Ok P w K L base "fails" qP ["web","wish"] 59 (Cc T):=λ_ _ D=>by
 refine D.F.gT HD (by walk_at "v") λρ A C s H vs Q E J h=>?_;obtain⟨p,a,t,c,m,M,I,f,rfl,W,u,hz,k,e,e'⟩:=h;have g:=W.go;have Ζ:=g.Ζ;obtain⟨dw,wb⟩:=W.ob;refine⟨_,(aB (dQ (kR (Χ U J cR (aa (γ 0) (aa (Ϩ 1) ax)))) (aL (nM T.zt rfl pK uU.g T.OV (aa rh ax) (hdb:=uU.d))) cY) (aB (xR (i:=2) HD.nd rfl zC.l rfl (clo ["place","wish"] 1 [1]) (lD EK.g T.range (aa (cD (γ 0) rfl) ax)) (λ_ _ _ _=>(f9 (i:=0) (show(["place","wish"]:gy).Nodup from by decide +kernel) rfl (Or.inl rfl))) (λ_ _ _ _=>(Eu (Ϭ zK (Ο (Vq c K rfl) (pv 1) (pv 0)) aQ))) (λ_ _ _ _=>(pv 0))) (aL (bJ (Χ zo J cR (aa (γ 0) (aa (Ϩ 1) (aa (Ο bX (γ 2) aQ) ax)))))))),?_⟩;walk_at "s";walk_at "";refine⟨p,a,t,c,m,M,I,f,rfl,W,u,hz,λfi O n=>?_,e⟩;refine⟨_,rfl,?_⟩;by_cases z:f.sum=0
 .rw[aj (by simpa using z)];exact⟨by decide,e' fi z O n⟩
 .rw[ag (by simpa using z)];obtain⟨G,y,R,k⟩:=k fi z;have xl:=NK fi;have Z:=Fu fi;obtain⟨tl,x,rr,x0⟩:=K4 xl Z z;refine⟨T.Web,dw,_,n _ _ wb,T.iw,T.Κ,_,fU _ _,m,rfl,by lia,by lia,λpc j=>?_⟩;have X:=n.free j;refine nK (λi r B o=>δ O o/\o pc=some (.lst r)/\r=((bM i).filter λv=>decide (0<f.getD v.toNat 0)).map V.int/\∃v,B=[v,some (V.ref a)]) ⟨δ.new _ j,aE,rfl,_,rfl⟩ ?_ ?_
  .rintro i r B o N hN hi ⟨s3,e3,rfl,v,rfl⟩;have ll:((bM i).filter λv=>decide (0<f.getD v.toNat 0)).length<=24:=by
    have h1:=dq (λv=>decide (0<f.getD v.toNat 0)) (bM i);rw[cq]at h1
    lia
   walk_at "";rw[cM];refine ixX (δ.gE (n.trans s3) u) (Ac (by lia) (by lia)) ⟨_,rfl,?_⟩;rw[show((i:Int)).toNat=i from rfl];by_cases q:0<f.getD i 0
   .rw[aj q];refine⟨e3,fV (by rw[ah];lia),hN _ _ _ ⟨s3.put j _,aE,?_,_,rfl⟩⟩;rw[rj,cX,eV (by simpa using q),gW,aI]
    rfl
   .rw[ag q];refine hN _ _ _ ⟨s3,e3,?_,_,rfl⟩;rw[rj,cX,eW (by simpa using q),gW,b7]
  .rintro r B o ⟨s3,e3,rfl,v,rfl⟩;rw[x]at e3;have b:=n.trans s3;refine Φ (v:=V.int (qA m f)) e3 (dj (by decide) rfl) ?_;exact⟨p,a,t,c,m,M,I,f,_,rfl,W.same b,δ.gE b u,fi,rr,G,y,R,λl H4 S Y h4=>k l H4 (b.free S) (b.trans Y) h4⟩
def FH(T:Txt K L):Sp:=λi H Q E=>E8 λ(p a t:Addr)(c:Bool)(m:Int)(h:gf)(g:hD)(b:fc)=>i=[.ref p,.ref a]/\μ T.Web H p m t h g/\ϑ K c H a (b.map V.int)/\b.length<=1000/\(b6 m b=true->b.sum≠0->∃e f,ε m g (qA m b) e f/\∀d,δ H d->Q (.int ((nE m g (qA m b) e f (zN m g (qA m b) e f b) (qA m b) (-1)).sum+1)) d)/\(b6 m b=true->b.sum=0->∀d,δ H d->Q (.int 0) d)/\(b6 m b=false->∀d,δ H d->E (.ref T.BadWish) none d)
abbrev xQ:Stmt:=top 41
theorem P5:ζ ["web","wish"] ["web","wish"] (aG xQ):=.of
theorem PK(T:Txt K L)(S:bZ (ψ P w))(x:Cb P w K L base "fails" qP ["web","wish"] 59 (Cc T))(v:Cb P w K L base "is_idle" tL ["web","wish"] 3 (xS T))(J:ow P w base T):Ok P w K L base "always" xQ ["web","wish"] 60 (FH T):=λ_ _ D=>by
 refine D.F.gT P5 (by walk_at "v") λO A i s H M Q E f h=>?_;obtain⟨p,a,t,c,m,r,n,d,rfl,W,o,q,k,e,y⟩:=h;refine⟨_,(aB (dQ (kR (Χ v f cR (aa (γ 0) (aa (γ 1) ax)))) (aL (bJ aQ)) cY) (aL (bJ (bh gc (Χ J f cR (aa (Χ x f cR (aa (γ 0) (aa (γ 1) ax))) ax)) aQ)))),?_⟩;walk_at "s";walk_at "";refine⟨p,a,t,c,m,r,n,d,rfl,W,o,q,λfi I b=>?_,y⟩;refine⟨_,rfl,?_⟩;by_cases z:d.sum=0
 .rw[aj (by simpa using z)];exact e fi z I b
 .rw[ag (by simpa using z)];obtain⟨j,g,R,k⟩:=k fi z;refine⟨p,a,t,c,m,r,n,d,rfl,W.same b,δ.gE b o,q,λ_ _=>⟨j,g,R,λl G N u C=>?_⟩,λz=>(by rw[fi]at z;cases z),λ_ B=>absurd B z⟩;refine⟨l,_,rfl,.inr (Ξ.of C),_,rfl,k G (b.trans u)⟩
def zq(T:Txt K L):Sp:=λe H Q _=>E10 λ(p t:Addr)(m:Int)(d:gf)(c:hD)(x v u b a:Int)=>e=[.ref p,.int x,.int v,.int u]/\μ T.Web H p m t d c/\(0<=v/\v<m)/\(0<=u/\u<m)/\ce c v u=some b/\ce c u v=some a/\(2<=b/\b<=1000000)/\(2<=a/\a<=1000000)/\Q (.int (if 0<=x then x/b else x*a)) H
abbrev sS:Stmt:=top 36
theorem JC:ζ ["web","over","place","front"] ["web","over","place","front"] (aG sS):=.of
theorem Jd(T:Txt K L)(G:bZ (ψ P w))(f:i5 P w base T):Ok P w K L base "handed_on" sS ["web","over","place","front"] 4 (zq T):=λ_ _ D=>by
 refine D.F.gT JC (by walk_at "v") λy A a s H r Q E g h=>?_;obtain⟨p,t,m,l,d,x,v,u,C,B,rfl,W,e,b,i,j,o,n,k⟩:=h;refine⟨_,(aB (dQ (Ϭ GC (γ 1) aQ) (aL (bJ (bh i9 (γ 1) (Χ f g cR (aa (γ 0) (aa (γ 2) (aa (γ 3) ax))))))) cY) (aL (bJ (bh mD (γ 1) (Χ f g cR (aa (γ 0) (aa (γ 3) (aa (γ 2) ax)))))))),?_⟩;walk_at "s";walk_at "";by_cases c:0<=x
 .rw[aj c]at k ⊢;refine⟨p,t,m,l,d,v,u,rfl,W,λq _ _ _ _ h=>?_,λz=>absurd ⟨e,b⟩ z,λ_ _ _ _ z=>by rw[i]at z;cases z⟩;rw[i]at h;cases h;exact⟨_,rfl,⟨by lia,by lia⟩,k⟩
 .rw[ag c]at k ⊢;refine⟨p,t,m,l,d,u,v,rfl,W,λq _ _ _ _ h=>?_,λz=>absurd ⟨b,e⟩ z,λ_ _ _ _ z=>by rw[j]at z;cases z⟩;rw[j]at h;cases h;exact⟨_,rfl,.inr ⟨by lia,by lia⟩,k⟩
def zE(T:Txt K L):Sp:=λk H Q E=>E12 λ(p a b t:Addr)(c d:Bool)(m:Int)(n:gf)(j:hD)(f h:fc)(r:Int)=>k=[.ref p,.ref a,.ref b,.int r]/\μ T.Web H p m t n j/\ϑ K c H a (f.map V.int)/\f.length<=1000/\ϑ K d H b (h.map V.int)/\h.length<=1000/\(b6 m f=true->b6 m h=true->0<=r->r<m->∃g i,ε m j r g i/\∀l e,H l=none->δ H e->e l=some (.lst ((rK m j r g i (λv=>(fG m f h).getD v.toNat 0) (ϝ j g)).map V.int))->Q (.ref l) e)/\(b6 m f=false->∀e,δ H e->E (.ref T.BadLaying) none e)/\(b6 m f=true->b6 m h=false->∀e,δ H e->E (.ref T.BadWish) none e)/\(b6 m f=true->b6 m h=true->¬(0<=r/\r<m)->∀e,δ H e->E (.ref T.NoPlace) none e)
abbrev lI:Stmt:=top 35
theorem rJ:ζ ["web","laying","wish","r","has","wanted","over","place","front"] ["web","laying","wish","r"] (aG lI):=.of
theorem BS:NmC (aG lI) "has":=.of (by kernel_rfl)
theorem yH:NmC (aG lI) "wanted":=.of (by kernel_rfl)
theorem AA:NmL (aG lI) "over":=.of (by kernel_rfl)
theorem zG:ώ (aG lI) "range":=.of (by kernel_rfl)
theorem Jw(T:Txt K L)(hq:bZ (ψ P w))(vO:Cb P w K L base "handed_on" sS ["web","over","place","front"] 4 (zq T))(eY:i7 P w base T)(jZ:oe P w base T)(mK:ru P w base T):Ok P w K L base "standings" lI ["web","laying","wish","r"] 8 (zE T):=λ_ _ D=>by
 refine D.F.gT rJ (by walk_at "v") λρ A am s H vs Q E hr h=>?_;obtain⟨p,a,b,t,c,d,m,ps,J,xs,I,r,rfl,W,ha,hz,hb,hy,k,e1,e2,e3⟩:=h;have g:=W.go;have m1:=g.m1;have Ζ:=g.Ζ;refine⟨_,(aB (tG (i:=4) rJ.nd rfl (Or.inr BS.l) (Χ jZ hr cR (aa (γ 0) (aa (γ 1) ax)))) (aB (tG (i:=5) rJ.nd rfl (Or.inr yH.l) (Χ mK hr cR (aa (γ 0) (aa (γ 2) ax)))) (aB (xR (i:=6) rJ.nd rfl AA.l rfl (clo ["place","has","wanted"] 1 [4,5]) (lD zG.g T.range (aa (cD (γ 0) rfl) ax)) (λ_ _ _ _=>(f9 (i:=0) (show(["place","has","wanted"]:gy).Nodup from by decide +kernel) rfl (Or.inl rfl))) (λ_ _ _ _=>kj) (λ_ _ _ _=>(bh f8 (Ο (L6 K rfl) (pv 1) (pv 0)) (Ο (L6 K rfl) (pv 2) (pv 0))))) (aB (fq PassesOwn.leaving rfl (iB (Χ eY hr cR (aa (γ 0) (aa (γ 3) ax)))) (j1 (n:=2) rfl (cH (ϐ 7) (cH (ϐ 8) gX))) (aL (Ad (γ 6) (γ 8) xH (Χ vO hr cR (aa (γ 0) (aa (Ο bX (γ 6) (γ 7)) (aa (γ 7) (aa (γ 8) ax))))) tK iR))) (aL (bJ (γ 6))))))),?_⟩;walk_at "s";walk_at "";refine⟨p,a,t,c,m,ps,J,xs,rfl,W,ha,hz,λfi la H1 s1 _ ea=>?_,e1⟩;refine⟨p,b,t,d,m,ps,J,I,rfl,W.same s1,δ.gE s1 hb,hy,λS lb H2 s2 eb=>?_,λS H2 s2=>e2 fi S H2 (s1.trans s2)⟩;have Z:∀{o:fc},b6 m o=true->(o.length:Int)=m:=λ{o} f=>by
  unfold b6 at f;rw[bK]at f;exact bF f.1
 have xl:=Z fi;have yl:=Z S;have G:=s1.trans s2;have W2:=W.same G;obtain⟨dx,ob⟩:=W2.ob;refine⟨T.Web,dx,_,ob,T.iw,T.Κ,_,fU m t,m,rfl,by lia,by lia,λlo no=>?_⟩;have aS:=δ.tup s2 ea;refine nK (λi o B M=>δ H2 M/\M lo=some (.lst o)/\o=((List.range i).map λi=>xs.getD i 0-I.getD i 0).map V.int/\∃v,B=[v,some (V.ref la),some (V.ref lb)]) ⟨δ.new _ no,aE,rfl,_,rfl⟩ ?_ ?_
 .rintro i o B M N hN hi ⟨s3,e3',rfl,v,rfl⟩;rw[cM];have i0:(0:Int)<=(i:Int):=by lia
  have ga:=Ac (xs:=xs) i0 (by lia);have gb:=Ac (xs:=I) i0 (by lia);rw[bR]at ga gb;walk_at "";refine Zq (δ.tup s3 aS) ga (Zq (δ.tup s3 eb) gb ⟨_,rfl,_,rfl,e3',fV (by simp;lia),hN _ _ _ ⟨s3.put no _,aE,?_,_,rfl⟩⟩);rw[df,aI,aI]
  rfl
 .rintro o B M ⟨s3,e3',rfl,v,rfl⟩;have X:=G.free no;have C:=G.trans s3;have ol:=Qr (m:=m) (by lia) xs I;change M lo=some (.lst ((fG m xs I).map V.int))at e3';refine⟨p,t,m,ps,J,r,rfl,W.same C,λr0 r1=>?_,λz=>e3 fi S z M C⟩;obtain⟨e,U,R,k⟩:=k fi S r0 r1;refine⟨e,U,R,λl2 qs tl H4 _ n2 s4 e4 pa O=>?_⟩;have aT:l2≠lo:=λz=>by rw[z,e3']at n2;cases n2
  refine⟨l2,rfl,⟨_,ν.of e4⟩,?_⟩;have ql:qs.length=tl.reverse.length:=Paired.length pa;refine vw (K:=K) (xs:=qs.map V.ref) (λi B y=>δ H y/\y l2=some (.lst (qs.map V.ref))/\Α y e qs tl.reverse/\E3 λ(Y:fc)(v4 v5:Option V)=>y lo=some (.lst (Y.map V.int))/\ϋ m J r e U (λv=>(fG m xs I).getD v.toNat 0) (ϝ J e) (tl.drop (tl.length-i)) Y/\B=[some (V.ref p),some (V.ref a),some (V.ref b),some (V.int r),some (V.ref la),some (V.ref lb),some (V.ref lo),v4,v5]) ⟨C.trans s4,e4,pa,fG m xs I,_,_,s4 _ _ e3',by rw[eu,dh];exact ϋ.nil ol,rfl⟩ (λi B y _ z=>ν.of z.2.1) ?_ ?_
  .rintro i x B y N hN hx ⟨s5,e5,pa5,Y,v4,v5,c5,so,rfl⟩;obtain⟨q,v,rfl,hq,hv,eq⟩:=pa5.get hx;obtain⟨⟨j,vn⟩,ev,an⟩:=O.turn g R so hv;have u:=R.up v j.1 j.2 vn;obtain⟨kk,hk,k0,k1⟩:=kC g R j.1 j.2 vn;obtain⟨kd,hd,d0,d1⟩:=Aa g R j.1 j.2 vn;have cl:=so.len;walk_at "";refine⟨_,Ξ.of eq,rfl,_,_,rfl,_,_,rfl,rfl,?_⟩;refine Φ c5 (Ac u.1.1 (by lia)) (Φ c5 (Ac j.1 (by lia)) ?_);refine⟨p,t,m,ps,J,_,v,e v,kk,kd,rfl,W.same s5,j,u.1,hk,hd,⟨k0,k1⟩,⟨d0,d1⟩,?_⟩;refine⟨_,rfl,_,rfl,rE c5 u.1.1 (by rw[ah];lia) (hN _ _ ⟨s5.put X _,?_,?_,qr e (ϝ J e) Y v,_,_,?_,an,rfl⟩)⟩
   .rw[aN aT];exact e5
   .exact Paired.imp' (λa b h=>by rw[aN (fM h c5 (by intro z;cases z))];exact h) pa5
   .rw[aE,<-ee];unfold qr ϝ;rw[hk,hd]
    rfl
  .rintro B y ⟨s5,e5,pa5,Y,v4,v5,c5,so,rfl⟩;rw[ah,ql,aV,dD,fT]at so;rw[O.done g R so]at c5;walk_at "";exact k lo y X s5 c5
def Bl(T:Txt K L):Sp:=λk H Q E=>E12 λ(p a b t:Addr)(c d:Bool)(m:Int)(l:gf)(j:hD)(f h:fc)(r:Int)=>k=[.ref p,.ref a,.ref b,.int r]/\μ T.Web H p m t l j/\ϑ K c H a (f.map V.int)/\f.length<=1000/\ϑ K d H b (h.map V.int)/\h.length<=1000/\(b6 m f=true->b6 m h=true->0<=r->r<m->∃g i,ε m j r g i/\∀e,δ H e->Q (.int (Ε m j r g i (λv=>(fG m f h).getD v.toNat 0) (ϝ j g) r)) e)/\(b6 m f=false->∀e,δ H e->E (.ref T.BadLaying) none e)/\(b6 m f=true->b6 m h=false->∀e,δ H e->E (.ref T.BadWish) none e)/\(b6 m f=true->b6 m h=true->¬(0<=r/\r<m)->∀e,δ H e->E (.ref T.NoPlace) none e)
abbrev uv:Stmt:=top 37
theorem KF:ζ ["web","laying","wish","r"] ["web","laying","wish","r"] (aG uv):=.of
theorem Ku(T:Txt K L)(X:bZ (ψ P w))(o:Cb P w K L base "standings" lI ["web","laying","wish","r"] 8 (zE T)):Ok P w K L base "standing" uv ["web","laying","wish","r"] 9 (Bl T):=λ_ _ D=>by
 refine D.F.gT KF (by walk_at "v") λU A g s H S Q E z h=>?_;obtain⟨p,a,b,t,c,d,m,M,u,x,y,r,rfl,W,v,G,I,O,k,e,C,J⟩:=h;refine⟨_,(aL (bJ (oH bX (Χ o z cR (aa (γ 0) (aa (γ 1) (aa (γ 2) (aa (γ 3) ax))))) (γ 3) (λ_ _=>rfl)))),?_⟩;walk_at "s";walk_at "";refine⟨p,a,b,t,c,d,m,M,u,x,y,r,rfl,W,v,G,I,O,λfi B j n=>?_,e,C,J⟩;obtain⟨i,f,R,k⟩:=k fi B j n;refine⟨i,f,R,λl N V q e=>?_⟩;refine Φ e (Ac j ?_) ?_
 .unfold rK;rw[ah,cq];lia
 .rw[se j n];exact k N q
def Fi(T:Txt K L):Sp:=λk H Q E=>E11 λ(p a b t:Addr)(c d:Bool)(m:Int)(l:gf)(j:hD)(g h:fc)=>k=[.ref p,.ref a,.ref b]/\μ T.Web H p m t l j/\ϑ K c H a (g.map V.int)/\g.length<=1000/\ϑ K d H b (h.map V.int)/\h.length<=1000/\(b6 m g=true->b6 m h=true->∃f i,ε m j 0 f i/\∀e,δ H e->Q (.bl (decide (0<=Ε m j 0 f i (λv=>(fG m g h).getD v.toNat 0) (ϝ j f) 0))) e)/\(b6 m g=false->∀e,δ H e->E (.ref T.BadLaying) none e)/\(b6 m g=true->b6 m h=false->∀e,δ H e->E (.ref T.BadWish) none e)
abbrev xp:Stmt:=top 38
theorem Po:ζ ["web","laying","wish"] ["web","laying","wish"] (aG xp):=.of
theorem OX(T:Txt K L)(N:bZ (ψ P w))(j:Cb P w K L base "standing" uv ["web","laying","wish","r"] 9 (Bl T)):Ok P w K L base "is_met" xp ["web","laying","wish"] 10 (Fi T):=λ_ _ D=>by
 refine D.F.gT Po (by walk_at "v") λM A f s H J Q E v h=>?_;obtain⟨p,a,b,t,c,d,m,G,n,q,u,rfl,W,o,B,C,I,k,r,y⟩:=h;have m1:=W.go.m1;refine⟨_,(aL (bJ (nW GC (Χ j v cR (aa (γ 0) (aa (γ 1) (aa (γ 2) (aa aQ ax))))) aQ (lY _)))),?_⟩;walk_at "s";walk_at "";refine⟨p,a,b,t,c,d,m,G,n,q,u,0,rfl,W,o,B,C,I,λfi x _ _=>?_,r,y,λ_ _ z=>absurd ⟨bw _,by lia⟩ z⟩;obtain⟨g,e,R,k⟩:=k fi x;exact⟨g,e,R,λl i=>⟨_,rfl,k l i⟩⟩
def Hi(T:Txt K L):Sp:=λh H Q E=>E7 λ(p t:Addr)(m:Int)(g:gf)(c:hD)(r w:Int)=>h=[.ref p,.int r,.int w]/\μ T.Web H p m t g c/\(0<=r->r<m->1<=w->∃a b,ε m c r a b/\∀f d l e,cI m c r a b r=r::d->Order m r a d->Cnt m c r a (As m c r a b d) w f->H l=none->δ H e->e l=some (.tup (((bM m.toNat).map (mP (As m c r a b d) f)).map V.int))->Q (.ref l) e)/\(¬(0<=r/\r<m)->E (.ref T.NoPlace) none H)/\(0<=r->r<m->w<1->E (.ref T.BadWish) none H)
abbrev qG:Stmt:=top 57
theorem BG:ζ ["web","r","wanted","chosen","counts","place","front","given"] ["web","r","wanted"] (aG qG):=.of
theorem Cs:NmC (aG qG) "chosen":=.of (by kernel_rfl)
theorem DC:NmC (aG qG) "counts":=.of (by kernel_rfl)
theorem Ax:ώ (aG qG) "reversed":=.of (by kernel_rfl)
theorem EO:ώ (aG qG) "range":=.of (by kernel_rfl)
theorem Ro(T:Txt K L)(hq:bZ (ψ P w))(qQ:Cb P w K L base "bearers" qH ["web","r"] 9 (xX T))(ir:nH P w base T)(eY:i7 P w base T)(dG:i5 P w base T):Ok P w K L base "worst" qG ["web","r","wanted"] 10 (Hi T):=λ_ _ D=>by
 refine D.F.gT BG (by walk_at "v") λρ A a4 s H vs Q E hr h=>?_;obtain⟨p,t,m,ps,B,r,w,rfl,W,k,e,e'⟩:=h;have g:=W.go;have m1:=g.m1;have Ζ:=g.Ζ;obtain⟨dx,ob⟩:=W.ob;refine⟨_,(aB (eM (Χ ir hr cR (aa (γ 0) (aa (γ 1) (aa (γ 2) ax))))) (aB (tG (i:=3) BG.nd rfl (Or.inr Cs.l) (Χ qQ hr cR (aa (γ 0) (aa (γ 1) ax)))) (aB (tG (i:=4) BG.nd rfl (Or.inr DC.l) (bh qf (gF (aa aQ ax)) (cD (γ 0) rfl))) (aB (nz (bh f8 (γ 2) aQ) (oW (Ϩ 4) (γ 1) iR)) (aB (fq PassesOwn.leaving rfl (sY Ax.g T.reversed (Χ eY hr cR (aa (γ 0) (aa (γ 1) ax)))) (j1 (n:=2) rfl (cH (ϐ 5) (cH (ϐ 6) gX))) (aB (Η 7 (Hy (Ϭ kG (Ο bX (Ϩ 3) (γ 6)) (γ 5)) (Ο bX (Ϩ 4) (γ 6)) aQ)) (aL (nz (bh f8 (bh mD (bh gc (γ 7) aQ) (Χ dG hr cR (aa (γ 0) (aa (γ 5) (aa (γ 6) ax))))) aQ) (oW (Ϩ 4) (γ 5) iR))))) (aL (bJ (pct kO T.tuple (aa (kE rfl (clo ["place","counts","chosen"] 1 [4,3]) (lD EO.g T.range (aa (cD (γ 0) rfl) ax)) (λ_ _ _ _=>(f9 (i:=0) (show(["place","counts","chosen"]:gy).Nodup from by decide +kernel) rfl (Or.inl rfl))) (λ_ _ _ _=>kj) (λ_ _ _ _=>(Hy (De (Wt (Ο (pF K rfl) (pv 2) (pv 0)))) (Ο (pF K rfl) (pv 1) (pv 0)) aQ))) ax))))))))),?_⟩;walk_at "s";walk_at "";refine⟨p,t,m,ps,B,r,w,rfl,W,λr0 r1 w1=>?_,e,e'⟩;obtain⟨c,J,R,k⟩:=k r0 r1 w1;refine⟨p,t,m,ps,B,r,rfl,W,λ_ _=>⟨c,J,R,λY M H0 et O nc s0 ec=>?_⟩,λz=>absurd ⟨r0,r1⟩ z⟩;generalize af:As m B r c J Y=ch at ec k;refine⟨dz (by simp),λl0 n0=>?_⟩;have s1:=δ.new (.lst [V.int 0]) n0;refine⟨T.Web,dx,_,s1 _ _ (s0 _ _ ob),T.iw,T.Κ,_,fU m t,?_⟩;refine⟨l0,m,_,rfl,rfl,aE,by lia,by lia,dz (by simp;lia),λl n1=>?_⟩;rw[GF];have s2:=s1.trans (δ.new (.lst (List.replicate m.toNat (V.int 0))) n1);have nl:=(s0.trans s1).free n1;have am:M≠l:=λz=>by rw[<-z,s1 _ _ ec]at n1;cases n1
 have e1:upd (upd H0 l0 (.lst [V.int 0])) l (.lst (List.replicate m.toNat (V.int 0))) l=some (.lst ((List.replicate m.toNat (0:Int)).map V.int)):=by rw[aE,gU]
 generalize upd (upd H0 l0 (.lst [V.int 0])) l (.lst (List.replicate m.toNat (V.int 0)))=H1 at s2 e1 ⊢;refine rE e1 r0 (by rw[ah,cC];lia) ?_;rw[<-ee];have st:Soc m B r c ch w [] ((List.replicate m.toNat (0:Int)).set r.toNat (w-1)):=⟨by rw[b4,cC];lia,by rw[kK _ _ _ _ (by rw[cC];lia),aj rfl],λv hv=>by cases hv⟩;have I:=(s0.trans s2).put nl (.lst (((List.replicate m.toNat (0:Int)).set r.toNat (w-1)).map V.int));have e3:upd H1 l (.lst (((List.replicate m.toNat (0:Int)).set r.toNat (w-1)).map V.int)) l=some (.lst (((List.replicate m.toNat (0:Int)).set r.toNat (w-1)).map V.int)):=aE;have al:upd H1 l (.lst (((List.replicate m.toNat (0:Int)).set r.toNat (w-1)).map V.int)) M=some (.lst (chL m ch)):=by rw[aN am];exact s2 _ _ ec
 generalize upd H1 l (.lst (((List.replicate m.toNat (0:Int)).set r.toNat (w-1)).map V.int))=H3 at I e3 al ⊢;generalize (List.replicate m.toNat (0:Int)).set r.toNat (w-1)=a6 at st e3;refine⟨p,t,m,ps,B,r,?_⟩;refine an4 rfl (W.same I) (λ_ _=>⟨c,J,R,λl2 Z cf H4 o n2 s4 e4 pa _=>?_⟩) (λz=>absurd ⟨r0,r1⟩ z);rw[et]at o;injection o with _ o
 subst o;have bm:l2≠l:=λz=>by rw[z,e3]at n2;cases n2
 have ql:Z.length=Y.reverse.length:=Paired.length pa;rw[aV]at ql;refine⟨l2,rfl,_,ν.of e4,?_⟩;refine qy (K:=K) (xs:=Z.map V.ref) (λi C j=>δ H j/\j M=some (.lst (chL m ch))/\j l2=some (.lst (Z.map V.ref))/\Α j c Z Y.reverse/\E4 λ(f:fc)(v5 v6 U:Option V)=>j l=some (.lst (f.map V.int))/\Soc m B r c ch w (Y.take i) f/\C=[some (V.ref p),some (V.int r),some (V.int w),some (V.ref M),some (V.ref l),v5,v6,U]) ⟨I.trans s4,s4 _ _ al,e4,pa,a6,_,_,_,s4 _ _ e3,by rw[dY];exact st,rfl⟩ (λi C j _ z=>ν.of z.2.2.1) ?_ ?_
 .rintro i x C j N hN hx ⟨s5,ec5,e5,pa5,f,v5,v6,U,c5,S,rfl⟩;have il:=(aD.mp hx).1;rw[aV,ah]at il;rw[cw (by rw[ah];exact il),ah]at hx;obtain⟨q,v,rfl,cz,hv,eq⟩:=pa5.get hx;rw[cw (by lia),show Y.length-1-(Z.length-1-i)=i by lia]at hv;have vm:=aO hv;have G:=O.Ι v vm;have vn:=O.ne vm;have u:=R.up v G.1 G.2 vn;obtain⟨kk,hk,k0,k1⟩:=kC g R G.1 G.2 vn;have ek:tup B c v=kk:=by unfold tup;rw[hk];rfl
  have sl:=S.len;walk_at "";refine⟨_,Ξ.of eq,rfl,_,_,rfl,_,_,rfl,rfl,?_⟩;have sc:tV (chV (ch (c v))) (V.int v)=true:=by cases ch (c v)<;>rfl
  have d:∀(gv:Int)(U:Option V),gv=(if ch (c v)=some v then f.getD (c v).toNat 0 else 0)->adK (V.ref l) (V.int v) (V.int ((gv+1)*kk-1)) j λH3=>N [some (V.ref p),some (V.int r),some (V.int w),some (V.ref M),some (V.ref l),some (V.int v),some (V.int (c v)),U] H3:=λgv U hg=>by
   refine rE c5 G.1 (by rw[ah];lia) (hN _ _ ⟨s5.put nl _,by rw[aN am];exact ec5,by rw[aN bm];exact e5,Paired.imp' (λa b h=>by rw[aN (fM h c5 (by intro z;cases z))];exact h) pa5,_,_,_,_,by rw[aE,<-ee],S.step R O r0 hv (by rw[ek,hg]),rfl⟩)
  refine Φ ec5 (zZ u.1.1 u.1.2) ⟨sc,?_⟩;by_cases z:ch (c v)=some v
  .rw[z]at d ⊢;rw[aj (show chV (some v)=V.int v from rfl)];refine Φ c5 (Ac u.1.1 (by lia)) ⟨_,rfl,p,t,m,ps,B,v,c v,rfl,W.same s5,λk' _ _ _ _ h=>?_,λz=>absurd ⟨G,u.1⟩ z,λ_ _ _ _ z=>by rw[hk]at z;cases z⟩;rw[hk]at h;cases h;exact⟨_,rfl,.inr ⟨by lia,by lia⟩,d _ _ (by rw[aj rfl])⟩
  .rw[ag (λy=>z (by cases e:ch (c v)with|none=>rw[e]at y;cases y|some b=>rw[e]at y;cases y;rfl))];refine⟨p,t,m,ps,B,v,c v,rfl,W.same s5,λk' _ _ _ _ h=>?_,λz=>absurd ⟨G,u.1⟩ z,λ_ _ _ _ z=>by rw[hk]at z;cases z⟩;rw[hk]at h;cases h;exact⟨_,rfl,.inr ⟨by lia,by lia⟩,d 0 _ (by rw[ag z])⟩
 .rintro C j ⟨s5,ec5,e5,pa5,f,v5,v6,U,c5,S,rfl⟩;rw[ah,ql,bL]at S;have N:=S.done O;have sl:=S.len;have W5:=W.same s5;obtain⟨bl,bd⟩:=W5.ob;walk_at "";refine⟨T.Web,bl,_,bd,T.iw,T.Κ,_,fU m t,m,rfl,by lia,by lia,λpc ab=>?_⟩;refine nK (λi zs C X=>δ j X/\X pc=some (.lst zs)/\zs=((bM i).map (mP ch λv=>f.getD v.toNat 0)).map V.int/\∃v,C=[v,some (V.ref l),some (V.ref M)]) ⟨δ.new _ ab,aE,rfl,_,rfl⟩ ?_ ?_
  .rintro i zs C X N2 hN hi ⟨s6,e6,rfl,v,rfl⟩;rw[cM];have i0:(0:Int)<=(i:Int):=(by lia);have i1:(i:Int)<m:=(by lia);walk_at "";refine Φ (s6 _ _ ec5) (zZ i0 i1) ?_;have d:∀y:Int,y=mP ch (λv=>f.getD v.toNat 0) (i:Int)->X pc=some (.lst (((bM i).map (mP ch λv=>f.getD v.toNat 0)).map V.int))/\(((bM i).map (mP ch λv=>f.getD v.toNat 0)).map V.int).length<sizeLine/\N2 (((bM i).map (mP ch λv=>f.getD v.toNat 0)).map V.int++[V.int y]) [some (V.int (i:Int)),some (V.ref l),some (V.ref M)] (upd X pc (.lst (((bM i).map (mP ch λv=>f.getD v.toNat 0)).map V.int++[V.int y]))):=λy hy=>by
    refine⟨e6,fV (by rw[ah,ah,cq];lia),hN _ _ _ ⟨s6.put ab _,aE,?_,_,rfl⟩⟩;rw[rj,aI,aI,hy]
    rfl
   cases e:ch (i:Int)with
   | none=>
     rw[aj (show chV none=V.ο from rfl)];exact Φ (s6 _ _ c5) (Ac i0 (by lia)) (d _ (by unfold mP;rw[aj e]))
   | some b=>
     rw[ag (show ¬chV (some b)=V.ο from by intro z;cases z)];exact d 0 (by unfold mP;rw[ag (by rw[e];intro z;cases z)])
  .rintro zs C X ⟨s6,e6,rfl,v,rfl⟩;refine⟨pc,rfl,_,.inl ⟨ν.of e6,λlr nr=>?_⟩⟩;have ad:=s5.trans s6;exact k _ Y lr _ et O (by rw[af];exact N) (ad.free nr) (ad.trans (δ.new _ nr)) (by rw[aE,af])
def y9(T:Txt K L):Sp:=λe H Q _=>E8 λ(p t d:Addr)(m:Int)(c:gf)(b:hD)(r:Int)(n:Nat)=>e=[.ref p,.ref d,.int r,.int (n+1:Nat)]/\μ T.Web H p m t c b/\ϥ H d b/\(0<=r/\r<m)/\((n+1:Nat):Int)<=10^60/\∀a,δ H a->Q (.bl true) a
abbrev sP:Stmt:=top 99
theorem Jl:ζ ["web","tolls","r","wanted","wish","due","one","other","laying"] ["web","tolls","r","wanted"] (aG sP):=.of
theorem G0(T:Txt K L)(o:bZ (ψ P w))(xG:Cb P w K L base "_law_most" rC ["tolls","many","laying","r"] 2 (AK T))(om:Cb P w K L base "_law_numbers_right" me ["web","r","wanted","due"] 13 (rN T))(BF:Cb P w K L base "always" xQ ["web","wish"] 60 (FH T))(pV:nT P w base T)(nO:oq P w base T)(uB:Cb P w K L base "fails" qP ["web","wish"] 59 (Cc T))(BU:Cb P w K L base "is_met" xp ["web","laying","wish"] 10 (Fi T))(kX:p4 P w base T)(fD:jm P w base T)(D5:Cb P w K L base "worst" qG ["web","r","wanted"] 10 (Hi T)):Ok P w K L base "_law_right" sP ["web","tolls","r","wanted"] 61 (y9 T):=λ_ _ D=>by
 refine D.F.ϖ Jl (by walk_at "v") λρ A bk s H vs Q E i h=>?_;obtain⟨p,t,d,m,G,rs,r,n,rfl,W,ta,b,C,k⟩:=h;have g:=W.go;have hu:=sJ i;have m1:=g.m1;have Ζ:=g.Ζ;obtain⟨a,dep,R⟩:=zk g b.1 b.2;have w0:-(10^60)<=((n+1:Nat):Int):=by lia
 have w1:1<=((n+1:Nat):Int):=by lia
 have wz:¬((n+1:Nat):Int)<1:=by lia
 refine⟨_,(aB (Η 4 (bh qf (gF (aa aQ ax)) (cD (γ 0) rfl))) (aB (nz (γ 3) (oW (γ 4) (γ 2) iR)) (aB (Η 5 (Μ nO i o (aa (γ 0) (aa (γ 2) (aa (γ 3) ax))))) (aB (dQ (PW.pt (zT (Ϭ pW (Μ BF i o (aa (γ 0) (aa (γ 4) ax))) (γ 5)) (wj (wY pW (bh gc (Μ pV i o (aa (γ 0) (aa (γ 2) (aa (γ 3) (aa (Μ fD i o (aa (γ 0) (aa (γ 2) ax))) ax))))) aQ) (γ 5) (lY _))))) (aL (bJ sU)) cY) (aB (Η 6 (Μ D5 i o (aa (γ 0) (aa (γ 2) (aa (γ 3) ax))))) (aB (Η 7 (Μ uB i o (aa (γ 0) (aa (γ 4) ax)))) (aB (dQ (PW.pt (zT (kR (Μ BU i o (aa (γ 0) (aa (γ 6) (aa (γ 4) ax))))) (wj (lO (kR (Μ kX i o (aa (γ 0) (aa (γ 2) (aa (γ 3) (aa (γ 7) ax)))))))))) (aL (bJ sU)) cY) (aB (fq PassesOwn.never rfl (iB (gF (aa (γ 6) (aa (γ 7) ax)))) (ϐ 8) (aL (dQ (PW.pt (zT (Ϭ pW (pcb (xw rfl) T.sum (aa (γ 8) ax)) (bh f8 (γ 5) aQ)) (wj (wY pW (Μ xG i o (aa (γ 1) (aa (cD (γ 0) rfl) (aa (γ 8) (aa (γ 2) ax))))) (bh f8 (γ 3) aQ) (lY _))))) (aL (bJ sU)) cY))) (aL (bJ (Μ om i o (aa (γ 0) (aa (γ 2) (aa (γ 3) (aa (γ 5) ax))))))))))))))),?_⟩;walk_at "s";refine eZ λN1 h1=>?_;walk_at "";obtain⟨dw,wb⟩:=W.ob;refine⟨dz (by simp),λp0 b1=>?_⟩;have s0:=δ.new (HO.lst [V.int 0]) b1;have e0:upd H p0 (HO.lst [V.int 0]) p0=some (.lst [V.int 0]):=aE;generalize upd H p0 (HO.lst [V.int 0])=H0 at s0 e0 ⊢;refine⟨T.Web,dw,_,s0 _ _ wb,T.iw,T.Κ,_,fU _ _,p0,m,_,rfl,rfl,e0,by lia,by lia,dz (by simp;lia),λe ae=>h1 _ _ (eZ λN2 h2=>?_)⟩;rw[uN,<-Lm];have s1:=s0.trans (δ.new (.lst ((zrs m).map V.int)) ae);have e1:upd H0 e (.lst ((zrs m).map V.int)) e=some (.lst ((zrs m).map V.int)):=aE;have cf:=s0.free ae;generalize upd H0 e (.lst ((zrs m).map V.int))=H1 at s1 e1 ⊢;walk_at "";refine rE e1 b.1 (by rw[ah,uy];lia) (h2 _ _ (eZ λN3 h3=>?_));rw[<-ee];obtain⟨c,ey⟩:∃c,c=(zrs m).set r.toNat (n+1:Nat):=⟨_,rfl⟩;rw[<-ey];obtain⟨yl,y0,sn,fw,gr,go⟩:=Us b.1 b.2 w1 ey;have yk:c.length<=1000:=by lia
 have s2:=s1.put cf (.lst (c.map V.int));have e2:upd H1 e (.lst (c.map V.int)) e=some (.lst (c.map V.int)):=aE;generalize upd H1 e (.lst (c.map V.int))=H2 at s2 e2 ⊢;have U:=vz yl y0;obtain⟨tl,et,O⟩:=FJ g R b.1 b.2;have ea:=Nx g R (P4 g R y0) go b.1 b.2 (by show 1<=c.getD r.toNat 0;lia) O;rw[gr]at ea;have eb:=VO (rs:=rs) (dep:=dep) (w:=((n+1:Nat):Int)) b.1 b.2 O;obtain⟨Xl,X0,Xs⟩:=Pb.worst_at g R b.1 b.2 y0 (by lia) rfl;have Xg:=D9 g R X0 go _ r rfl b.1 b.2;generalize eX:nE m rs r a dep (zN m rs r a dep c) r (-1)=X at ea Xl X0 Xs Xg;generalize eD:lE m rs r a (dP m rs r a dep) (n+1:Nat)=D at eb;walk_at "";refine⟨p,t,m,G,rs,r,_,rfl,W.same s2,C,w0,λ_ _ _=>⟨a,dep,R,λH3 s3=>?_⟩,λz=>absurd b z,λ_ _ z=>absurd z wz⟩;rw[eD];refine h3 _ _ (eZ λN4 h4=>?_);have ak:=s2.trans s3;walk_at "";refine⟨p,e,t,true,m,G,rs,c,rfl,W.same ak,ν.of (s3 _ _ e2),yk,λ_ _=>?_,λ_ z=>absurd z sn,λz=>(by rw[U]at z;cases z)⟩;rw[fw];refine⟨a,dep,R,λH4 s4=>?_⟩;rw[eX];refine⟨rfl,?_⟩;rw[ag λz=>z (by rw[ea,eb];congr 1;lia)];have ab:=ak.trans s4;refine⟨p,t,m,G,rs,r,rfl,W.same ab,λ_ _=>⟨a,dep,R,λlw H5 ei s5 ew=>?_⟩,λz=>absurd b z⟩;have a2:=ab.trans s5;have ll:((dP m rs r a dep).length:Int)=m:=by rw[qK];lia
 refine⟨p,lw,t,true,m,G,rs,dP m rs r a dep,r,_,rfl,W.same a2,ν.of ew,ll,yS g R,Dy w0 C,λ_ _ _=>⟨a,dep,R,λH6 s6=>⟨_,rfl,?_⟩⟩,λz=>absurd b z,λ_ _ z=>absurd z wz⟩;rw[eD,ag λz=>z rfl];refine h4 _ _ (eZ λN5 h5=>?_);have al:=a2.trans s6;walk_at "";refine⟨p,t,m,G,rs,r,_,rfl,W.same al,λ_ _ _=>⟨a,dep,R,λcn ca lo H7 b3 O' CN ex s7 eo=>h5 _ _ (eZ λN6 h6=>?_)⟩,λz=>absurd b z,λ_ _ z=>absurd z wz⟩;have tt:tl=ca:=(f7 (et.symm.trans b3)).2;subst tt;have B:=Qt g R O;have ar:=CN.total g R B b.1 b.2 et O;obtain⟨xs,f⟩:∃xs,xs=(bM m.toNat).map (mP (As m rs r a dep tl) cn):=⟨_,rfl⟩;have xg:∀v,0<=v->v<m->xs.getD v.toNat 0=mP (As m rs r a dep tl) cn v:=λv v0 v1=>by
  rw[f,bo,aJ,fy (by lia),bA v0]
  rfl
 have og:=CN.Ε g R B xg _ r rfl b.1 b.2;rw[CN.rt]at og;have be:=CN.nn g R w1 b.1 b.2;rw[<-f,eD]at ar;rw[<-f]at eo;have xl:(xs.length:Int)=m:=by rw[f,ah,cq];lia
 have x0:∀x∈xs,0<=x:=λx hx=>by
  rw[f]at hx;obtain⟨v,hv,rfl⟩:=aU.mp hx;have vb:=fh.mp hv;unfold mP;split
  .exact be _ v rfl vb.1 (by lia)
  .exact bw _
 have bp:=vz xl x0;have xk:xs.length<=1000:=by lia
 have Xk:X.length<=1000:=by lia
 have an:=al.trans s7;have aS:H7 e=some (.lst (c.map V.int)):=(s3.trans (s4.trans (s5.trans (s6.trans s7)))) _ _ e2;walk_at "";refine⟨p,e,t,true,m,G,rs,c,rfl,W.same an,ν.of aS,yk,λ_ _=>?_,λz=>(by rw[U]at z;cases z),λ_ z=>absurd z sn⟩;rw[fw];refine⟨a,dep,R,λM H8 dL s8 ad=>h6 _ _ (eZ λN7 h7=>?_)⟩;rw[eX]at ad;have a1:=an.trans s8;have am:=s8 _ _ eo;have br:=s8 _ _ aS;have cd:=vz Xl X0;walk_at "";refine⟨p,lo,e,t,false,true,m,G,rs,xs,c,rfl,W.same a1,Ξ.of am,xk,ν.of br,yk,λ_ _=>?_,λz=>(by rw[bp]at z;cases z),λ_ z=>(by rw[U]at z;cases z)⟩;obtain⟨S,ai,R0⟩:=zk g (bw 0) (show(0:Int)<m by lia);refine⟨S,ai,R0,λH9 s9=>⟨_,rfl,?_⟩⟩;have nm:¬0<=Ε m rs 0 S ai (λv=>(fG m xs c).getD v.toNat 0) (ϝ rs S) 0:=λz=>by
  have:=Vu g R0 (bw 0) (by lia) R b.1 b.2 xl x0 y0 z;rw[D9 g R x0 go _ r rfl b.1 b.2]at this
  lia
 rw[b8 nm,ag (by decide)];have aT:=a1.trans s9;have af:=s9 _ _ ad;have XD:X.sum=D:=by lia
 have XG:Ε m rs r a dep (λv=>X.getD v.toNat 0) (ϛ rs a) r=n:=by lia
 refine⟨p,M,t,false,m,G,rs,X,r,_,rfl,W.same aT,Ξ.of af,Xk,C,w0,λ_ _ _=>⟨a,dep,R,λ_ I Y=>⟨_,rfl,?_⟩,λz=>(by rw[cd]at z;cases z)⟩,λz=>absurd b z,λ_ _ z=>absurd z wz⟩;rw[bq (show X.sum=lE m rs r a (dP m rs r a dep) (n+1:Nat) by rw[XD,eD]),bq (show Ε m rs r a dep (λv=>X.getD v.toNat 0) (ϛ rs a) r<(n+1:Nat) by lia),ag (by decide)];refine h7 _ _ (eZ λN8 h8=>?_);have a0:=aT.trans Y;have bV:=Y _ _ af;have bd:=Y _ _ (s9 _ _ am);walk_at "";refine⟨dz (by simp),λll co=>⟨⟨_,ν.of aE⟩,?_⟩⟩;have q:=δ.new (.lst [V.ref lo,V.ref M]) co;have el:upd I ll (.lst [V.ref lo,V.ref M]) ll=some (.lst [V.ref lo,V.ref M]):=aE;generalize upd I ll (.lst [V.ref lo,V.ref M])=bv at q el ⊢;refine j7 (K:=K) (xs:=[V.ref lo,V.ref M]) (λj σ u=>δ bv u/\∃v9,σ=[some (V.ref p),some (V.ref d),some (V.int r),some (V.int (n+1:Nat)),some (V.ref e),some (V.int (D+1)),some (V.ref lo),some (V.ref M),v9]) ⟨δ.refl _,_,rfl⟩ (λj σ u _ z=>ν.of (z.1 _ _ el)) ?_ ?_
 .rintro j y σ u N BB ϓ hN hy ⟨s12,v9,rfl⟩;obtain⟨la,Z,rfl,ez,zl,zD,zg⟩:∃(la:Addr)(Z:fc),y=.ref la/\I la=some (.tup (Z.map V.int))/\(Z.length:Int)=m/\Z.sum=D/\Ε m rs r a dep (λv=>Z.getD v.toNat 0) (ϛ rs a) r=n:=by
   match j,hy with
   | 0,hy=>cases hy;exact⟨_,xs,rfl,bd,xl,ar,by lia⟩
   | 1,hy=>cases hy;exact⟨_,X,rfl,bV,Xl,XD,XG⟩
   | j+2,hy=>cases hy
  have aC:=s12 _ _ (q _ _ ez);have l:=a0.trans (q.trans s12);refine ϓ _ _ ?_;walk_at "";refine⟨_,.inr (Ξ.of aC),?_⟩;rw[ag (by lia)];refine⟨T.Web,dw,_,l _ _ wb,T.iw,T.Κ,_,fU _ _,?_⟩;refine⟨d,la,false,rs,Z,m,r,rfl,ta.same l,g,b,Ξ.of aC,zl,a,dep,R,λau J=>⟨rfl,?_⟩⟩;rw[ag λz=>z (by rw[zg];congr 1;lia)];exact hN _ _ ⟨s12.trans J,_,rfl⟩
 .rintro BB σ u ϓ ⟨s12,v9,rfl⟩;refine ϓ _ _ (h8 _ _ ?_);have l:=a0.trans (q.trans s12);walk_at "";refine⟨p,t,m,G,rs,r,n,a,dep,by rw[eD],W.same l,b,C,R,λau J=>k au (l.trans J)⟩
def AJ(T:Txt K L):Sp:=λa H Q _=>∃(c:Int),a=[.int c]/\∀t,2<=t->t<=1000000->Q (.int t) H
abbrev ug:Stmt:=top 92
theorem KN:ζ ["part"] ["part"] (aG ug):=.of
theorem KW(T:Txt K L)(l:bZ (ψ P w)):Ok P w K L base "_law_toll" ug ["part"] 1 (AJ T):=λ_ _ D=>by
 refine D.F.ϖ KN (by walk_at "v") λf A a s H e Q E g h=>?_;obtain⟨c,rfl,k⟩:=h;refine⟨_,(aB (dQ (Ϭ kG (bh iz (γ 0) aQ) aQ) (aL (bJ (bh gc aQ (bh iz (bh i9 (γ 0) aQ) (bh f8 (bh rG aQ aQ) aQ))))) cY) (aL (bJ (bh gc aQ (bh iz (bh i9 (γ 0) aQ) aQ))))),?_⟩;walk_at "s";walk_at "";have b:(10:Int)^Int.toNat 6-1=999999:=by decide
 have d:=dA (c/8) (show(999999:Int)≠0 by decide);have j:=de (c/8) (show(0:Int)<999999 by decide);have i:=dA (c/8) (show(4:Int)≠0 by decide);have m:=de (c/8) (show(0:Int)<4 by decide);refine⟨by decide,?_⟩;by_cases z:c%8=7
 .rw[aj z];refine⟨⟨by decide,by decide⟩,⟨by decide,by decide,by decide⟩,by decide,?_⟩;rw[b];exact k _ (by lia) (by lia)
 .rw[ag z];exact⟨⟨by decide,by decide⟩,by decide,k _ (by lia) (by lia)⟩
def yY(T:Txt K L):Sp:=λf H Q _=>E4 λ(a:Addr)(e:fc)(m s:Int)=>f=[.ref a,.int m,.int s]/\ν K H a (e.map V.int)/\1<=m/\m<=24/\0<=s/\s<4/\∀(l:Addr)(c:gf)(d:hD)(b:Hp),H l=none->δ H b->b l=some (.lst (c.map V.ref))->π b c d->Good m d->Q (.ref l) b
abbrev qd:Stmt:=top 93
theorem IB:ζ ["script","many","shape","roads","k","part","to","there","back"] ["script","many","shape"] (aG qd):=.of
theorem yN:ώ (aG qd) "range":=.of (by kernel_rfl)
abbrev tM(P w base)(T:Txt K L):=Cb P w K L base "_law_drawn" nY ["script","k"] 1 (rp T)
theorem HP(T:Txt K L)(Y:bZ (ψ P w))(jY:tM P w base T)(ul:Cb P w K L base "_law_toll" ug ["part"] 1 (AJ T)):Ok P w K L base "_law_roads" qd ["script","many","shape"] 2 (yY T):=λ_ _ D=>by
 refine D.F.ϖ IB (by walk_at "v") λρ A aT s H vs Q E hr h=>?_;obtain⟨a,ns,m,M,rfl,ha,m1,Ζ,b2,bs,k⟩:=h;refine⟨_,(aB (Η 3 (gF ax)) (aB (fq PassesOwn.never rfl (OG yN.g T.range (aa aQ (aa (γ 1) ax))) (ϐ 4) (aB (Η 5 (Μ jY hr Y (aa (γ 0) (aa (γ 4) ax)))) (aB (Η 6 (oH bX (gF (aa (bh iz (γ 5) (γ 4)) (aa (bh f8 (γ 4) aQ) (aa aQ (aa (bh iz (γ 5) (γ 4)) ax))))) (γ 2) (λ_ _=>rfl))) (aB (Η 5 (bh i9 (γ 5) (γ 4))) (aB (Η 7 (Μ ul hr Y (aa (bh iz (γ 5) (bh rG aQ aQ)) ax))) (aB (Η 8 (Μ ul hr Y (aa (bh iz (bh i9 (γ 5) (bh rG aQ aQ)) (bh rG aQ aQ)) ax))) (aB (dQ (Ϭ kG (bh iz (bh GL (γ 5) (bh rG aQ aQ)) aQ) aQ) (aL (Η 8 (γ 7))) cY) (aL (dQ (Ϭ kG (bh iz (bh GL (γ 5) (bh rG aQ aQ)) aQ) aQ) (aL (eM (nN PySem.F.plainAttrs_list PySem.F.slot_list_append PySem.F.type_list_append ic (γ 3) (aa (m7 (aa (γ 6) (aa (γ 4) (aa (γ 7) (aa (γ 8) ax))))) ax)))) (aL (eM (nN PySem.F.plainAttrs_list mq PySem.F.type_list_insert Pg (γ 3) (aa aQ (aa (m7 (aa (γ 4) (aa (γ 6) (aa (γ 8) (aa (γ 7) ax))))) ax)))))))))))))) (aL (bJ (γ 3))))),?_⟩;walk_at "s";walk_at "";refine⟨by decide,λlo ad=>⟨1,m,⟨rfl,rfl⟩,⟨by decide,by decide,by lia,by lia⟩,?_⟩⟩;refine ux (λi σ O=>E8 λ(W:gf)(rs:hD)(v:List Row)(v4 t C o u:Option V)=>σ=[some (V.ref a),some (V.int m),some (V.int M),some (V.ref lo),v4,t,C,o,u]/\δ H O/\O lo=some (.lst (W.map V.ref))/\π O W rs/\Rows i v/\Put (bM m.toNat) v rs) ⟨[],[],[],_,_,_,_,_,rfl,δ.new _ ad,aE,.nil,⟨rfl,λi r h=>by cases h⟩,Put.nil _⟩ ?_ ?_
 .rintro i σ O N hN hi ⟨W,rs,v,v4,t,C,o,u,rfl,s3,hl3,ro3,R,P⟩;have k0:(1:Int)<=1+(i:Int):=by lia
  have k1:1+(i:Int)<m:=by lia
  generalize hk:(1:Int)+(i:Int)=f at k0 k1 ⊢;have ci:W.length=rs.length:=Paired.length ro3;have rl:=R.len;have pl:=P.len;walk_at "";refine⟨a,ns,f,rfl,δ.seq s3 ha,by lia,by lia,λc c0=>?_⟩;have em:∀(x n:Int),0<n->0<=x%n/\x%n<n:=λx n h=>⟨dA x (mH h),de x h⟩;have hg:=em c f (by lia);have ae:Y9 10 9:=⟨by decide,by decide,by decide⟩;have e9:(10:Int)^Int.toNat 9=1000000000:=by decide
  have aS:(10:Int)^Int.toNat 18=1000000000000000000:=by decide
  have a3:(10:Int)^Int.toNat 19=10000000000000000000:=by decide
  refine⟨c,rfl,by lia,c,rfl,by lia,dz (by simp),λq1 a7=>?_⟩;have s4:=δ.new (.lst [.int (c%f),.int (f-1),.int 0,.int (c%f)]) a7;obtain⟨l,a9,u0,u1⟩:∃l:Int,Ϧ [V.int (c%f),V.int (f-1),V.int 0,V.int (c%f)] M=some (.int l)/\0<=l/\l<f:=by
   rcases(show M=0\/M=1\/M=2\/M=3 by lia)with z|z|z|z
   .exact⟨_,by rw[z];rfl,hg.1,hg.2⟩
   .exact⟨_,by rw[z];rfl,by lia,by lia⟩
   .exact⟨_,by rw[z];rfl,by lia,by lia⟩
   .exact⟨_,by rw[z];rfl,hg.1,hg.2⟩
  refine Φ aE a9 ?_;generalize upd O q1 (.lst [.int (c%f),.int (f-1),.int 0,.int (c%f)])=H4 at s4 ⊢;rw[e9,aS,a3];refine⟨c,rfl,⟨by lia,by lia⟩,ae,by decide,_,rfl,λB X U=>⟨ae,⟨by decide,by decide⟩,ae,by decide,_,rfl,λJ b0 b1=>⟨⟨by decide,by decide,by decide⟩,⟨by decide,by decide⟩,by decide,?_⟩⟩⟩;have al:=s4 _ _ hl3;have bt:=π.same s4 ro3;have lu:=CQ (n:=m.toNat) u0 (by lia);have lk:=CQ (n:=m.toNat) (show 0<=f by lia) (by lia);have Z:∀{j:Hp}{zs:List V}{q:Addr}{r':Road},δ O j->j q=some (.tup (pI r'))->upd j lo (.lst zs) q=some (.tup (pI r')):=λ{j zs q r'} I h=>by rw[aN (fM h (I _ _ hl3) (by intro z;cases z))];exact h
  have ai:∀(j:Hp)(q:Addr)(e:Row)(n:Nat)(t C o u:Option V),δ O j->e.k=f->aaX e->j q=some (.tup (pI (nh (bM m.toNat) e)))->N [some (V.ref a),some (V.int m),some (V.int M),some (V.ref lo),some (V.int f),t,C,o,u] (upd j lo (.lst ((W.take n++q::W.drop n).map V.ref))):=by
   intro j q e n t C o u I rk S Y;refine hN _ _ ⟨_,rs.take n++nh (bM m.toNat) e::rs.drop n,v++[e],_,_,_,_,_,rfl,(s3.trans I).put ad _,aE,?_,Qw R (by lia) S,P.step e n⟩;exact WJ n (Paired.imp' (λp r h=>Z I h) (π.same I ro3)) (Z I Y)
  have a5:∀(j:Hp)(q:Addr)(e:Row)(t C o u:Option V),δ O j->e.k=f->aaX e->j q=some (.tup (pI (nh (bM m.toNat) e)))->iS (V.ref lo) [V.ref q] j λ_ H1=>N [some (V.ref a),some (V.int m),some (V.int M),some (V.ref lo),some (V.int f),t,C,o,u] H1:=λj q e t C o u I rk S Y=>by
   refine tX (I _ _ hl3) (fV (by rw[ah];lia)) ?_;have:=ai j q e W.length t C o u I rk S Y;rw[bL,dh,aI]at this;exact this
  have a1:∀(j:Hp)(q:Addr)(e:Row)(t C o u:Option V),δ O j->e.k=f->aaX e->j q=some (.tup (pI (nh (bM m.toNat) e)))->aaw (V.ref lo) [V.int 0,V.ref q] j λ_ H1=>N [some (V.ref a),some (V.int m),some (V.int M),some (V.ref lo),some (V.int f),t,C,o,u] H1:=λj q e t C o u I rk S Y=>by
   refine aKa (I _ _ hl3) (bw _) (by lia) (fV (by rw[ah];lia)) ?_;have:=ai j q e 0 t C o u I rk S Y;rw[dY,fT,iJ]at this;exact this
  have e1:∀x y:Int,pI (nh (bM m.toNat) ⟨f,l,x,y,1,0⟩)=[V.int l,V.int f,V.int x,V.int y]:=λx y=>by
   unfold nh;rw[aj rfl];show[V.int ((bM m.toNat).getD l.toNat 0),V.int ((bM m.toNat).getD f.toNat 0),V.int x,V.int y]=_;rw[lu,lk]
  have e2:∀x y:Int,pI (nh (bM m.toNat) ⟨f,l,x,y,0,0⟩)=[V.int f,V.int l,V.int x,V.int y]:=λx y=>by
   unfold nh;rw[ag (show ¬(0:Int)=1 by decide)];show[V.int ((bM m.toNat).getD f.toNat 0),V.int ((bM m.toNat).getD l.toNat 0),V.int x,V.int y]=_;rw[lu,lk]
  have an:∀(x y w:Int),2<=x->x<=1000000->2<=y->y<=1000000->aaX ⟨f,l,x,y,w,0⟩:=λx y w a b c d=>⟨u0,u1,a,b,c,d,bw _,by show(0:Int)<f;lia⟩;have G:∀(B J:Int)(t o u:Option V),2<=B->B<=1000000->2<=J->J<=1000000->(tyV K "list" (V.ref lo) H4/\[V.int l,V.int f,V.int B,V.int J].length<=sizeLine/\∀p,H4 p=none->iS (V.ref lo) [V.ref p] (upd H4 p (.tup [V.int l,V.int f,V.int B,V.int J])) λ_ H1=>N [some (V.ref a),some (V.int m),some (V.int M),some (V.ref lo),some (V.int f),t,some (V.int l),o,u] H1)/\(tyV K "list" (V.ref lo) H4/\[V.int f,V.int l,V.int J,V.int B].length<=sizeLine/\∀p,H4 p=none->aaw (V.ref lo) [V.int 0,V.ref p] (upd H4 p (.tup [V.int f,V.int l,V.int J,V.int B])) λ_ H1=>N [some (V.ref a),some (V.int m),some (V.int M),some (V.ref lo),some (V.int f),t,some (V.int l),o,u] H1):=λB J t o u X U b0 b1=>
   ⟨⟨tyL al,dz (by simp),λp hp=>a5 _ p ⟨f,l,B,J,1,0⟩ _ _ _ _ (s4.trans (δ.new _ hp)) rfl (an _ _ _ X U b0 b1) (by rw[aE,e1])⟩,⟨tyL al,dz (by simp),λp hp=>a1 _ p ⟨f,l,J,B,0,0⟩ _ _ _ _ (s4.trans (δ.new _ hp)) rfl (an _ _ _ b0 b1 X U) (by rw[aE,e2])⟩⟩
  by_cases y1:c/f/1000000000000000000%3=0
  .rw[aj y1];refine⟨⟨by decide,by decide,by decide⟩,⟨by decide,by decide⟩,by decide,?_⟩;by_cases y2:c/f/10000000000000000000%2=0
   .rw[aj y2];exact(G B B _ _ _ X U X U).1
   .rw[ag y2];exact(G B B _ _ _ X U X U).2
  .rw[ag y1];refine⟨⟨by decide,by decide,by decide⟩,⟨by decide,by decide⟩,by decide,?_⟩;by_cases y2:c/f/10000000000000000000%2=0
   .rw[aj y2];exact(G B J _ _ _ X U b0 b1).1
   .rw[ag y2];exact(G B J _ _ _ X U b0 b1).2
 .rintro σ O ⟨W,rs,v,v4,t,C,o,u,rfl,s3,hl3,ro3,R,P⟩;have g:=UN (n:=m.toNat) (by lia) (by lia) (IR _) (by rw[show m.toNat-1=(m-1).toNat by lia];exact R) P;rw[bA (by lia)]at g;walk_at "";exact k lo W rs O ad s3 hl3 ro3 g
def CD(T:Txt K L):Sp:=λf H Q _=>E3 λ(a:Addr)(e:fc)(z:Int)=>f=[.ref a,.int z]/\ν K H a (e.map V.int)/\1<=z/\z<=24/\∀(t l:Addr)(m:Int)(c:gf)(d:hD)(b:Hp),H t=none->H l=none->δ H b->b t=some (.tup [.int m,.ref l])->b l=some (.lst (c.map V.ref))->π b c d->Good m d->Q (.ref t) b
abbrev vy:Stmt:=top 94
theorem MA:ζ ["script","reach","head","many"] ["script","reach"] (aG vy):=.of
theorem Ml(T:Txt K L)(q:bZ (ψ P w))(C:tM P w base T)(G:Cb P w K L base "_law_roads" qd ["script","many","shape"] 2 (yY T)):Ok P w K L base "_law_web" vy ["script","reach"] 3 (CD T):=λ_ _ D=>by
 refine D.F.ϖ MA (by walk_at "v") λS A d s H R Q E j h=>?_;obtain⟨a,p,z,rfl,i,V,B,k⟩:=h;refine⟨_,(aB (Η 2 (bh i9 (Μ C j q (aa (γ 0) (aa aQ ax))) aQ)) (aB (Η 3 (bh gc aQ (bh iz (γ 2) (γ 1)))) (aB (dQ (Ϭ kG (bh iz (bh i9 (γ 2) (γ 1)) aQ) aQ) (aL (Η 3 (bh gc aQ (bh iz (bh i9 (γ 2) (bh mD aQ (γ 1))) aQ)))) cY) (aL (bJ (m7 (aa (γ 3) (aa (Μ G j q (aa (γ 0) (aa (γ 3) (aa (bh iz (bh i9 (γ 2) aQ) aQ) ax)))) ax)))))))),?_⟩;walk_at "s";have e:∀(x n:Int),0<n->0<=x%n/\x%n<n:=λx n h=>⟨dA x (mH h),de x h⟩;walk_at "";refine⟨a,p,0,rfl,i,by decide,by decide,λc O=>⟨c,rfl,⟨by decide,by decide⟩,by lia,⟨by lia,by lia⟩,by decide,?_⟩⟩;have U:=e (c/2) z (by lia);have W:=e (c/2/(12*z)) 24 (by decide);have o:=e (c/2/300) 4 (by decide);apply Vt (1+c/2/(12*z)%24) (1+c/2%z)
 .generalize 1+c/2%z=m;intro h;exact h
 .exact λh=>⟨.inl ⟨by decide,by decide⟩,⟨by lia,by lia⟩,by decide,h⟩
 intro m v;have u:1<=m:=by lia
 have I:m<=24:=by lia
 clear v;refine⟨⟨by decide,by decide⟩,by decide,?_⟩;refine⟨a,p,m,_,rfl,i,u,I,o.1,o.2,λl N y X nl f J M g=>⟨dz (by simp),λt r=>?_⟩⟩;have b:=δ.new (.tup [.int m,.ref l]) r;exact k t l m N y _ (f.free r) nl (f.trans b) aE (b _ _ J) (π.same b M) g
def GD(K:f3):Sp:=λd H Q _=>∃(a:Addr)(b:fc),d=[.ref a]/\ν K H a (b.map V.int)/\b.length<=63/\∀c,Q (.bl true) c
def XM(T:Txt K L):Sp:=GD K
abbrev qw:Stmt:=top 100
theorem VW:ζ ["script","many","roads","web","tolls","k","part","wanted"] ["script"] (aG qw):=.of
theorem CL:ώ (aG qw) "Web":=.of (by kernel_rfl)
theorem Il:ώ (aG qw) "range":=.of (by kernel_rfl)
theorem WL(T:Txt K L)(q:bZ (ψ P w)){f:Addr}{fd:FuncData}(D:Df K L "law" qw ["script"] f fd){O:Addr}{C:FuncData}(pL:Fun K "__init__" "Web.__init__" jL O C)(Ox:Binds K C ["self","many","roads"] [])(Ow:Mk K T.Web O)(eQ:Ψ P w K L base (ψ P w) 3 O C ["self","many","roads"] (rz T))(jY:tM P w base T)(wf:Cb P w K L base "_law_right" sP ["web","tolls","r","wanted"] 61 (y9 T))(vZ:Cb P w K L base "_law_tolls" sK ["roads"] 1 (zf T))(yU:Cb P w K L base "_law_web" vy ["script","reach"] 3 (CD T)):Ψ P w K L base (ψ P w) 62 f fd ["script"] (XM T):=by
 refine D.F.ϖ VW (by walk_at "v") λρ A I s H vs Q E p h=>?_;obtain⟨a,ns,rfl,ha,hn,k⟩:=h;refine⟨_,(aB (nz (Μ yU p q (aa (γ 0) (aa aQ ax))) (j1 (n:=2) rfl (cH (ϐ 1) (cH (ϐ 2) gX)))) (aB (Η 3 (wU Ow eQ (p.mono (by decide)) CL.g T.Zu Ox .nil (md q) (aa (γ 1) (aa (pct oX T.list (aa (γ 2) ax)) ax)) (hdb:=CL.d))) (aB (Η 4 (Μ vZ p q (aa (γ 2) ax))) (aB (fq PassesOwn.never rfl (lD Il.g T.range (aa aQ ax)) (ϐ 5) (aB (Η 6 (Μ jY p q (aa (γ 0) (aa (γ 5) ax)))) (aB (Η 7 (oH bX (gF (aa (bh gc aQ (bh iz (bh i9 (γ 6) (γ 1)) aQ)) (aa (bh gc aQ (bh iz (bh i9 (γ 6) (γ 1)) (bh f8 (bh rG aQ aQ) aQ))) ax))) (pct OO T.int (aa (nW kG (γ 5) aQ (lY _)) ax)) (λ_ _=>rfl))) (aL (dQ (lO (kR (Μ wf p q (aa (γ 3) (aa (γ 4) (aa (bh iz (γ 6) (γ 1)) (aa (γ 7) ax))))))) (aL (bJ sU)) cY))))) (aL (bJ sU)))))),?_⟩;walk_at "s";refine eZ λN1 h1=>?_;walk_at "";refine⟨a,ns,7,rfl,ha,by decide,by decide,λt l m X rs H1 nt nl s1 et el ro g=>?_⟩;have m1:=g.m1;have Ζ:=g.Ζ;refine⟨t,rfl,_,Ξ.of et,rfl,_,_,rfl,_,_,rfl,rfl,h1 _ _ (eZ λN2 h2=>?_)⟩;walk_at "";refine⟨_,.inl (ν.of el),λlc y=>?_⟩;have r:=δ.new (.lst (X.map V.ref)) y;refine Ys T (c:=true) (ν.of aE) (π.same r ro) g λx tw H2 hx a4 R W=>?_;have B:=s1.trans (r.trans R);have v:=R _ _ (r _ _ el);have J:=π.same (r.trans R) ro;refine h2 _ _ (eZ λN4 h4=>?_);walk_at "";refine⟨l,X,m,rs,rfl,v,J,g,λd H3 nd s4 ta=>h4 _ _ ?_⟩;have M:=B.trans s4;have W3:=W.same s4;walk_at "";refine⟨by decide,by decide,?_⟩;refine ux (lo:=0) (λi S o=>δ H3 o/\∃G z U,S=[some (V.ref a),some (V.int m),some (V.ref l),some (V.ref x),some (V.ref d),G,z,U]) ⟨δ.refl _,_,_,_,rfl⟩ ?_ ?_
 .rintro i S o N hN i3 ⟨s8,G,z,U,rfl⟩;refine eZ λM1 k1=>?_;walk_at "";refine⟨a,ns,_,rfl,δ.seq (M.trans s8) ha,by lia,by lia,λb bY=>k1 _ _ (eZ λM2 k2=>?_)⟩;walk_at "";have p60:(0:Int)<10^Int.toNat 60-1:=by decide
  have q1:=dA (b/m) (show(9:Int)≠0 by decide);have q2:=de (b/m) (show(0:Int)<9 by decide);have q3:=dA (b/m) (mH p60);have q4:=de (b/m) p60;have q5:(10:Int)^Int.toNat 60=10^60:=rfl;have q6:(10:Int)<=10^60:=by decide
  have cd:QR b m:=⟨by lia,by lia⟩;refine⟨cd,by decide,cd,⟨by decide,by decide,by decide⟩,p60,dz (by simp),λZ nw=>?_⟩;obtain⟨e,e1,b1⟩:∃n:Nat,1+b/m%9=(n+1:Nat)/\((n+1:Nat):Int)<=10^60:=⟨(b/m%9).toNat,by lia,by lia⟩;obtain⟨j,e2,b2⟩:∃n:Nat,1+b/m%(10^Int.toNat 60-1)=(n+1:Nat)/\((n+1:Nat):Int)<=10^60:=⟨(b/m%(10^Int.toNat 60-1)).toNat,by lia,by lia⟩;rw[e1,e2];have u:=s8.trans (δ.new (.lst [V.int (e+1:Nat),V.int (j+1:Nat)]) nw);have ew:upd o Z (.lst [V.int (e+1:Nat),V.int (j+1:Nat)]) Z=some (.lst [V.int (e+1:Nat),V.int (j+1:Nat)]):=aE;generalize upd o Z (.lst [V.int (e+1:Nat),V.int (j+1:Nat)])=H9 at u ew ⊢;obtain⟨n,bn,gi⟩:∃n:Nat,((n+1:Nat):Int)<=10^60/\Ϧ [V.int (e+1:Nat),V.int (j+1:Nat)] (if 0+(i:Int)=2 then 1 else 0)=some (V.int (n+1:Nat)):=by
   split
   .exact⟨j,b2,rfl⟩
   .exact⟨e,b1,rfl⟩
  refine .inr (Φ ew gi (k2 _ _ ?_));walk_at "";have r0:=dA b (show m≠0 by lia);have r1:=de b (show 0<m by lia);refine⟨by lia,x,tw,d,m,X,rs,_,n,rfl,W3.same u,ta.same u,⟨r0,r1⟩,bn,λar Y=>⟨_,rfl,?_⟩⟩;rw[ag (by decide)];exact hN _ _ ⟨u.trans Y,_,_,_,rfl⟩
 .rintro S o ⟨s8,G,z,U,rfl⟩;walk_at "";exact k o
end
theorem aVa:bZ CX0:=λ_ _ _ _ _ h=>h
structure FI(K:f3)(x:Str)(st:Stmt)(f:Addr)(fd:FuncData):Prop where
 a:PySem.W.nsIn K mainGlobals x=some (some (.ref f))
 F:Fun K x x st f fd
theorem fi{K:f3}{x:Str}{st:Stmt}{f:Addr}{m:Value}{j h:Option Addr}{d:Array (Option Value)}{kV b i e g:Value}(a:PySem.W.nsIn K mainGlobals x=some (some (.ref f)):=by k_is)(l:K.lookup f=some ⟨m,j,.func (PySem.W.fnOf x x (jq st) (iE st) (aG st) .none kV b i h e g),d⟩:=by k_is)(c:PySem.W.codeIn K e x=true:=by k_is)(k:PySem.W.keepIn K (.ref f)=true:=by k_is):FI K x st f (PySem.W.fnOf x x (jq st) (iE st) (aG st) .none kV b i h e g):=⟨a,zw (st:=st) l c k⟩
theorem FI.df1{K:f3}{h:Heap}{m:gx}{x:Str}{st:Stmt}{f:Addr}{l:FuncData}(y:FI K x st f l)(X:K.In h)(G:h.Ns mainGlobals m)(k:gy)(p:k.length=1:=by rfl)(r:∀(kV j o:Value) (q:Option Addr) (s n i:Value),bindArgs (PySem.W.fnOf x x (jq st) (iE st) (aG st) .none kV j o q s n) ⟨[i],[]⟩=pure (k.zip [i]):=by intros;rfl):Df K m x st k f l:=⟨y.F,bN X G y.a,y.F.binds λa b c d e g t z=>by obtain⟨i,rfl⟩:=us1 (z.trans p);exact r a b c d e g i⟩
theorem FI.df2{K:f3}{h:Heap}{n:gx}{x:Str}{st:Stmt}{f:Addr}{m:FuncData}(y:FI K x st f m)(X:K.In h)(G:h.Ns mainGlobals n)(l:gy)(q:l.length=2:=by rfl)(s:∀(kV k p:Value) (r:Option Addr) (t o j i:Value),bindArgs (PySem.W.fnOf x x (jq st) (iE st) (aG st) .none kV k p r t o) ⟨[j,i],[]⟩=pure (l.zip [j,i]):=by intros;rfl):Df K n x st l f m:=⟨y.F,bN X G y.a,y.F.binds λa b c d e g u z=>by obtain⟨j,i,rfl⟩:=us2 (z.trans q);exact s a b c d e g j i⟩
theorem FI.df3{K:f3}{h:Heap}{o:gx}{x:Str}{st:Stmt}{f:Addr}{n:FuncData}(y:FI K x st f n)(X:K.In h)(G:h.Ns mainGlobals o)(m:gy)(r:m.length=3:=by rfl)(t:∀(kV l q:Value) (s:Option Addr) (u p k i j:Value),bindArgs (PySem.W.fnOf x x (jq st) (iE st) (aG st) .none kV l q s u p) ⟨[k,i,j],[]⟩=pure (m.zip [k,i,j]):=by intros;rfl):Df K o x st m f n:=⟨y.F,bN X G y.a,y.F.binds λa b c d e g v z=>by obtain⟨k,i,j,rfl⟩:=us3 (z.trans r);exact t a b c d e g k i j⟩
theorem FI.df4{K:f3}{h:Heap}{p:gx}{x:Str}{st:Stmt}{f:Addr}{o:FuncData}(y:FI K x st f o)(X:K.In h)(G:h.Ns mainGlobals p)(n:gy)(s:n.length=4:=by rfl)(u:∀(kV m r:Value) (t:Option Addr) (v q l i k j:Value),bindArgs (PySem.W.fnOf x x (jq st) (iE st) (aG st) .none kV m r t v q) ⟨[l,i,k,j],[]⟩=pure (n.zip [l,i,k,j]):=by intros;rfl):Df K p x st n f o:=⟨y.F,bN X G y.a,y.F.binds λa b c d e g w z=>by obtain⟨l,i,k,j,rfl⟩:=us4 (z.trans s);exact u a b c d e g l i k j⟩
theorem FI.df5{K:f3}{h:Heap}{q:gx}{x:Str}{st:Stmt}{f:Addr}{p:FuncData}(y:FI K x st f p)(X:K.In h)(G:h.Ns mainGlobals q)(o:gy)(t:o.length=5:=by rfl)(v:∀(kV n s:Value) (u:Option Addr) (w r m i l k j:Value),bindArgs (PySem.W.fnOf x x (jq st) (iE st) (aG st) .none kV n s u w r) ⟨[m,i,l,k,j],[]⟩=pure (o.zip [m,i,l,k,j]):=by intros;rfl):Df K q x st o f p:=⟨y.F,bN X G y.a,y.F.binds λa b c d e g A z=>by obtain⟨m,i,l,k,j,rfl⟩:=us5 (z.trans t);exact v a b c d e g m i l k j⟩
theorem all_mk{l:PySem.W.OpenLaw}{w:World}{K:f3}{h:Heap}{k:gx}{fa:Addr}{c:Addr}{B:Addr}{p:Addr}{q:Addr}{y:Addr}{o:Addr}{u:Addr}{t:Addr}{r:Addr}{d:Addr}{b:Addr}{a:Addr}{D1 Oj HF Jr ES Gh JR Go GP W6 UY Ye RS WU Vo M3 CY OT Gc Og EB Pn Kw Re Ny Qn Iv MH JV MQ M4 El MG Rc JN KM MU Wn UQ Ms GK Q4 Gs MB Gg Gi J4 MR GZ BH Ki Ea yw VG J0 tz gh JG PY UU PB O1 UP TF JM K3 Nt RL U9 J8 Oa K0 O8:Addr}{CK KJ Gd Gp DV EH HJ Ew F3 UD RD VI Qq Vs Rx KG Cj Mw EI KH Dq MM HZ Pi JK No F5 KL HY Kp JX DL KU OZ HG Hb Ko Vp Ug JH GA O5 D4 JT EN Ej IU Kn Gq AF Hs CI xF SY Im rb fY HS Mp Ss Ob NN QL Qv Hx Hv KD O3 TW GS Ky G9 Nd:FuncData}{n:Addr}{Y CF:Option Addr}{C0:Array (Option Value)}{a9 CC C2 Dt vh DN:Value}{z:Addr}{oR Aw:Option Addr}{Ao:Array (Option Value)}{rW Ay Am Az ud Au:Value}{m:Addr}{ϸ yy:Option Addr}{yx:Array (Option Value)}{Ϲ yC yz yD rP yt:Value}{NG:Addr}{ab Qg:Option Addr}{X3:Array (Option Value)}{ar QE QF Qo N Qs:Value}{aS:Tok}{bk:Tok}{ai:Tok}{S:Tok}(X:K.In h)(G:h.Ns mainGlobals k)(bs:k "law"=some (.ref fa))(HM:PySem.W.nsIn K mainGlobals "TollError"=some (some (.ref c)))(Ps:PySem.W.nsIn K mainGlobals "BadWeb"=some (some (.ref B)))(MO:PySem.W.nsIn K mainGlobals "NoPlace"=some (some (.ref p)))(OS:PySem.W.nsIn K mainGlobals "NoRoad"=some (some (.ref q)))(Jf:PySem.W.nsIn K mainGlobals "BadLaying"=some (some (.ref y)))(Ni:PySem.W.nsIn K mainGlobals "BadWish"=some (some (.ref o)))(MJ:PySem.W.nsIn K mainGlobals "TooMany"=some (some (.ref u)))(KB:PySem.W.nsIn K mainGlobals "NoNumber"=some (some (.ref t)))(NO:PySem.W.nsIn K mainGlobals "NoWorst"=some (some (.ref r)))(XC:PySem.W.nsIn K mainGlobals "Web"=some (some (.ref d)))(Mt:PySem.W.nsIn K mainGlobals "Outlook"=some (some (.ref b)))(Tk:PySem.W.nsIn K mainGlobals "Tally"=some (some (.ref a)))(Be:afW K c)(HW:ϱ K c B)(FT:ϱ K c p)(y7:p9 K p)(G1:ϱ K c q)(BA:p9 K q)(Bm:ϱ K c y)(vU:p9 K y)(Fc:ϱ K c o)(vJ:p9 K o)(Fg:ϱ K c u)(zi:p9 K u)(Cw:ϱ K c t)(ut:p9 K t)(Fm:ϱ K c r)(zt:p9 K r)(au:[c,B,p,q,y,o,u,t,r].Nodup)(Es:FI K "check_counts" ng D1 CK)(Ng:FI K "is_place" rc Oj KJ)(Jy:FI K "check_ends" rB HF Gd)(II:FI K "other_ends" oU Jr Gp)(Eg:FI K "check_joined" pQ ES DV)(Gj:FI K "check_tolls" my Gh EH)(Ed:PySem.W.findIn K (.ref d) "__init__"=some (some (.ref n)))(ET:PySem.W.isFn K (.ref n)=true)(ER:K.lookup n=some ⟨a9,Y,.func (PySem.W.fnOf "__init__" "Web.__init__" (jq jL) (iE jL) (aG jL) .none CC C2 Dt CF vh DN),C0⟩)(E2:PySem.W.codeIn K vh "Web.__init__"=true)(EJ:PySem.W.keepIn K (.ref n)=true)(J7:FI K "_law_tolls" sK JR HJ)(Gb:FI K "check_place" jw Go Ew)(Iu:FI K "neighbours" q8 GP F3)(WI:FI K "kids" uK W6 UD)(UG:FI K "ahead" sB UY RD)(Xz:FI K "down" wu Ye VI)(Sb:FI K "inward" jO RS Qq)(XJ:FI K "toll" kU WU Vs)(UI:FI K "borne" ww Vo Rx)(M5:FI K "is_heavy" q9 M3 KG)(CB:FI K "least_weights" jo CY Cj)(QC:FI K "bearers" qH OT Mw)(Gf:FI K "differences" kH Gc EI)(NA:FI K "value_at" iL Og KH)(EC:FI K "first_values" m8 EB Dq)(PN:FI K "is_free" qJ Pn MM)(JI:FI K "parted_at" qa Kw HZ)(Sz:FI K "parted" uF Re Pi)(Mm:FI K "held_for" qV Ny JK)(OI:FI K "ways_of" qE Qn No)(Jt:FI K "ways_given" oP Iv F5)(Oi:FI K "rests_of" jV MH KL)(BN:PySem.W.findIn K (.ref a) "__init__"=some (some (.ref z)))(Bu:PySem.W.isFn K (.ref z)=true)(Bq:K.lookup z=some ⟨rW,oR,.func (PySem.W.fnOf "__init__" "Tally.__init__" (jq fF) (iE fF) (aG fF) .none Ay Am Az Aw ud Au),Ao⟩)(B0:PySem.W.codeIn K ud "Tally.__init__"=true)(BL:PySem.W.keepIn K (.ref z)=true)(KI:FI K "_law_drawn" nY JV HY)(Mr:FI K "_law_down" rM MQ Kp)(NX:FI K "_law_most" rC M4 JX)(Ek:FI K "check_wanted" jN El DL)(M9:FI K "bound_by" pR MG KU)(QU:FI K "enough" si Rc OZ)(JS:FI K "is_filled" qj JN HG)(JP:FI K "laying_of" mN KM Hb)(Na:FI K "gathered" rd MU Ko)(XR:FI K "most" Dd Wn Vp)(UZ:FI K "total" qL UQ Ug)(Oo:FI K "is_worst" pX Ms JH)(IQ:FI K "check_told" lP GK GA)(RO:FI K "course" sy Q4 O5)(Gv:FI K "last_within" qv Gs D4)(NJ:FI K "given_by" ui MB JT)(F2:FI K "ways_before" nP Gg EN)(Gy:FI K "handed_down" kQ Gi Ej)(Kg:FI K "laying_at" sR J4 IU)(NP:FI K "worst_at" pO MR Kn)(G5:FI K "worst_many" pC GZ Gq)(B9:FI K "number_beneath" iT BH AF)(Ks:FI K "number_of" qk Ki Hs)(EZ:FI K "worst_number" lK Ea CI)(yB:FI K "_law_numbers_right" me yw xF)(Vc:FI K "added" qN VG SY)(JJ:FI K "idle_kids" mM J0 Im)(PD:FI K "load_by" mI tz rb)(DB:FI K "greatest_load" dC gh fY)(Kl:FI K "idle_load" sI JG HS)(P0:FI K "wish_of" pj PY Mp)(UW:FI K "needs" Ai UU Ss)(yJ:PySem.W.findIn K (.ref b) "__init__"=some (some (.ref m)))(zb:PySem.W.isFn K (.ref m)=true)(yM:K.lookup m=some ⟨Ϲ,ϸ,.func (PySem.W.fnOf "__init__" "Outlook.__init__" (jq gn) (iE gn) (aG gn) .none yC yz yD yy rP yt),yx⟩)(zB:PySem.W.codeIn K rP "Outlook.__init__"=true)(yT:PySem.W.keepIn K (.ref m)=true)(OW:FI K "failing" tx PB Ob)(OA:FI K "is_idle" tL O1 NN)(VM:FI K "fails" qP UP QL)(QV:FI K "always" xQ TF Qv)(Km:FI K "handed_on" sS JM Hx)(J6:FI K "standings" lI K3 Hv)(MS:FI K "standing" uv Nt KD)(Tg:FI K "is_met" xp RL O3)(VN:FI K "worst" qG U9 TW)(JF:FI K "_law_right" sP J8 GS)(Mx:FI K "_law_toll" ug Oa Ky)(Ke:FI K "_law_roads" qd K0 G9)(OF:FI K "_law_web" vy O8 Nd)(Uv:PySem.W.nsIn K mainGlobals "law"=some (some (.ref NG)))(ZE:K.lookup NG=some ⟨ar,ab,.func (PySem.W.fnOf "law" "law" (jq qw) (iE qw) (aG qw) .none QE QF Qo Qg N Qs),X3⟩)(ZF:PySem.W.codeIn K N "law"=true)(ZH:PySem.W.keepIn K (.ref NG)=true)(Xa:PySem.W.plainGet K d Str.empty=true)(Xh:PySem.W.hasDictIn K d=true)(Ww:PySem.W.plainOver K d=true)(V0:PySem.W.findIn K (.ref d) "__setattr__"=some (some (.builtin "object.__setattr__")))(V8:PySem.W.makesIn K d=true)(V2:PySem.W.keepIn K (.ref d)=true)(bp:PySem.W.findIn K (.ref d) "many"=some none)(bV:PySem.W.findIn K (.ref d) "roads"=some none)(MT:PySem.W.plainGet K b Str.empty=true)(MN:PySem.W.hasDictIn K b=true)(ND:PySem.W.plainOver K b=true)(MV:PySem.W.findIn K (.ref b) "__setattr__"=some (some (.builtin "object.__setattr__")))(Mn:PySem.W.makesIn K b=true)(MW:PySem.W.keepIn K (.ref b)=true)(Θ:PySem.W.findIn K (.ref b) "web"=some none)(V:PySem.W.findIn K (.ref b) "needs"=some none)(Ρ:PySem.W.findIn K (.ref b) "kids"=some none)(U:PySem.W.findIn K (.ref b) "idle"=some none)(RH:PySem.W.plainGet K a Str.empty=true)(To:PySem.W.hasDictIn K a=true)(RN:PySem.W.plainOver K a=true)(RK:PySem.W.findIn K (.ref a) "__setattr__"=some (some (.builtin "object.__setattr__")))(Q5:PySem.W.makesIn K a=true)(SL:PySem.W.keepIn K (.ref a)=true)(Δ:PySem.W.findIn K (.ref a) "web"=some none)(bt:PySem.W.findIn K (.ref a) "down"=some none)(al:PySem.W.findIn K (.ref a) "weights"=some none)(b1:PySem.W.findIn K (.ref a) "bearers"=some none)(χ:PySem.W.findIn K (.ref a) "kids"=some none)(a1:PySem.W.findIn K (.ref a) "rests"=some none)(a5:PySem.W.nsIn K mainGlobals "range"=some none)(I:PySem.W.nsIn K mainGlobals "zip"=some none)(a8:PySem.W.nsIn K mainGlobals "len"=some none)(ac:PySem.W.nsIn K mainGlobals "all"=some none)(bd:PySem.W.nsIn K mainGlobals "int"=some none)(Q:PySem.W.nsIn K mainGlobals "tuple"=some none)(a0:PySem.W.nsIn K mainGlobals "list"=some none)(J:PySem.W.nsIn K mainGlobals "reversed"=some none)(bY:PySem.W.nsIn K mainGlobals "sorted"=some none)(a6:PySem.W.nsIn K mainGlobals "min"=some none)(ad:PySem.W.nsIn K mainGlobals "max"=some none)(br:PySem.W.nsIn K mainGlobals "enumerate"=some none)(L:PySem.W.nsIn K mainGlobals "sum"=some none)(a2:PySem.W.nsIn K mainGlobals "str"=some none)(bm:PySem.W.nsIn K mainGlobals "set"=some none)(bv:PySem.W.nsIn K mainGlobals "MOST_PLACES"=some (some (.int 24 aS)))(R:PySem.W.nsIn K mainGlobals "LEAST_TOLL"=some (some (.int 2 bk)))(M:PySem.W.nsIn K mainGlobals "MOST_TOLL"=some (some (.int 1000000 ai)))(b0:PySem.W.nsIn K mainGlobals "MOST_PEBBLES"=some (some (.int 1000000000000 S))):∃fd:FuncData,(∀(s:Shared)(v:Value),BindsTo s fd ⟨[v],[]⟩ [("script",v)])/\∀base:Heap,K.In base->base.Ns mainGlobals k->Ψ l.prog w K k base (ψ l.prog w) 62 fa fd ["script"] (GD K):=by
 have e:=bs.symm.trans (bN X G Uv);cases e
 let T:Txt K k:=⟨c,bN X G HM,B,bN X G Ps,p,bN X G MO,q,bN X G OS,y,bN X G Jf,o,bN X G Ni,u,bN X G MJ,t,bN X G KB,r,bN X G NO,d,bN X G XC,b,bN X G Mt,a,bN X G Tk,Be,HW,FT,y7,G1,BA,Bm,vU,Fc,vJ,Fg,zi,Cw,ut,Fm,zt,au,PySem.W.mg_none_of X G a5,PySem.W.mg_none_of X G I,PySem.W.mg_none_of X G a8,PySem.W.mg_none_of X G ac,PySem.W.mg_none_of X G bd,PySem.W.mg_none_of X G Q,PySem.W.mg_none_of X G a0,PySem.W.mg_none_of X G J,PySem.W.mg_none_of X G bY,PySem.W.mg_none_of X G a6,PySem.W.mg_none_of X G ad,PySem.W.mg_none_of X G br,PySem.W.mg_none_of X G L,PySem.W.mg_none_of X G a2,PySem.W.mg_none_of X G bm,⟨_,bN X G bv⟩,⟨_,bN X G R⟩,⟨_,bN X G M⟩,⟨_,bN X G b0⟩,⟨Xa,Xh,Ww,V0⟩,bp,bV,⟨MT,MN,ND,MV⟩,Θ,V,Ρ,U,⟨RH,To,RN,RK⟩,Δ,bt,al,b1,χ,a1⟩
 have wO:=Es.df2 X G ["many","roads"];have Di:=Ng.df2 X G ["many","number"];have zd:=Jy.df2 X G ["many","road"];have yO:=II.df2 X G ["roads","place"];have wp:=Eg.df2 X G ["many","roads"];have yh:=Gj.df1 X G ["road"];have pL:=zw (st:=jL) ER E2 EJ;have Ox:=pL.binds (ps:=["self","many","roads"]) λ_ _ _ _ _ _ H i=>by obtain⟨O,u1,u2,rfl⟩:=us3 i;rfl
 have Bk:=J7.df1 X G ["roads"];have yc:=Gb.df2 X G ["web","number"];have yK:=Iu.df2 X G ["web","a"];have O0:=WI.df3 X G ["web","place","front"];have LA:=UG.df2 X G ["web","r"];have P6:=Xz.df2 X G ["web","r"];have HH:=Sb.df2 X G ["web","r"];have Qm:=XJ.df3 X G ["web","a","b"];have Lh:=UI.df4 X G ["web","weights","place","front"];have DX:=M5.df4 X G ["web","weights","place","front"];have vK:=CB.df2 X G ["web","r"];have Ff:=QC.df2 X G ["web","r"];have yf:=Gf.df1 X G ["values"];have DQ:=NA.df2 X G ["found","at"];have wD:=EC.df2 X G ["found","many"];have Fn:=PN.df3 X G ["tally","place","kid"];have Bf:=JI.df3 X G ["one","other","at"];have IE:=Sz.df2 X G ["one","other"];have C7:=Mm.df4 X G ["tally","place","kid","given"];have FL:=OI.df3 X G ["tally","place","held"];have zp:=Jt.df4 X G ["tally","place","kid","given"];have Dm:=Oi.df2 X G ["tally","place"];have x:=zw (st:=fF) Bq B0 BL;have pU:=x.binds (ps:=["self","web","r"]) λ_ _ _ _ _ _ H i=>by obtain⟨O,u1,u2,rfl⟩:=us3 i;rfl
 have Bc:=KI.df2 X G ["script","k"];have CV:=Mr.df3 X G ["tolls","many","r"];have DU:=NX.df4 X G ["tolls","many","laying","r"];have wA:=Ek.df3 X G ["web","r","wanted"];have Dx:=M9.df4 X G ["web","r","wanted","weights"];have He:=QU.df3 X G ["web","r","wanted"];have AN:=JS.df2 X G ["web","numbers"];have AY:=JP.df2 X G ["web","numbers"];have CU:=Na.df3 X G ["web","laying","r"];have Qa:=XR.df3 X G ["web","laying","r"];have K8:=UZ.df1 X G ["numbers"];have DS:=Oo.df4 X G ["web","r","wanted","laying"];have y6:=IQ.df3 X G ["web","r","wanted"];have Js:=RO.df4 X G ["tally","place","at","left"];have yd:=Gv.df3 X G ["before","top","number"];have C1:=NJ.df5 X G ["tally","place","at","left","number"];have yj:=F2.df5 X G ["tally","place","at","left","given"];have yo:=Gy.df4 X G ["tally","place","held","number"];have Bd:=Kg.df3 X G ["tally","held","number"];have Cp:=NP.df4 X G ["web","r","wanted","number"];have zx:=G5.df3 X G ["web","r","wanted"];have uZ:=B9.df4 X G ["tally","place","held","numbers"];have AV:=Ks.df2 X G ["tally","held"];have wL:=EZ.df4 X G ["web","r","wanted","laying"];have rT:=yB.df4 X G ["web","r","wanted","due"];have LN:=Vc.df2 X G ["one","other"];have Bn:=JJ.df3 X G ["outlook","place","left_out"];have nC:=PD.df4 X G ["outlook","place","kid","room"];have eK:=DB.df3 X G ["outlook","place","over"];have Bh:=Kl.df3 X G ["outlook","place","front"];have FA:=P0.df2 X G ["web","numbers"];have Mi:=UW.df3 X G ["web","wish","r"];have mz:=zw (st:=gn) yM zB yT;have zJ:=mz.binds (ps:=["self","web","wish","r"]) λ_ _ _ _ _ _ H i=>by obtain⟨O,u1,u2,u3,rfl⟩:=us4 i;rfl
 have Ft:=OW.df3 X G ["web","wish","r"];have Fs:=OA.df2 X G ["web","wish"];have LF:=VM.df2 X G ["web","wish"];have Ju:=QV.df2 X G ["web","wish"];have AR:=Km.df4 X G ["web","over","place","front"];have AG:=J6.df4 X G ["web","laying","wish","r"];have Dw:=MS.df4 X G ["web","laying","wish","r"];have Je:=Tg.df3 X G ["web","laying","wish"];have Mg:=VN.df3 X G ["web","r","wanted"];have AU:=JF.df4 X G ["web","tolls","r","wanted"];have C9:=Mx.df1 X G ["part"];have AQ:=Ke.df3 X G ["script","many","shape"];have Fo:=OF.df2 X G ["script","reach"];have UB:=zw (st:=qw) ZE ZF ZH;have ZG:=UB.binds (ps:=["script"]) λ_ _ _ _ _ _ H i=>by obtain⟨O,rfl⟩:=us1 i;rfl
 have Zt:Df K k "law" qw ["script"] fa _:=⟨UB,bN X G Uv,ZG⟩;refine⟨PySem.W.fnOf "law" "law" (jq qw) (iE qw) (aG qw) .none QE QF Qo Qg N Qs,λs v=>.of_eq rfl,λbase _ _=>?_⟩;have Ow:Mk K T.Web n:=⟨V8,Ed,ET,V2⟩;have zj:Mk K T.Outlook m:=⟨Mn,yJ,zb,MW⟩;have pP:Mk K T.Tally z:=⟨Q5,BN,Bu,SL⟩;have rY:=cb wO (Dp (P:=l.prog) (w:=w) (base:=base) T bP _ _ wO);have nJ:=cb Di (JZ (P:=l.prog) (w:=w) (base:=base) T bP _ _ Di);have u7:=cb zd (Gu T bP nJ _ _ zd);have m6:=cb yO (F8 (P:=l.prog) (w:=w) (base:=base) T bP _ _ yO);have rZ:=cb wp (DF T bP m6 _ _ wp);have tQ:=cb yh (Eh (P:=l.prog) (w:=w) (base:=base) T bP _ _ yh);have eQ:=Dk (P:=l.prog) (w:=w) (base:=base) T bP pL rY u7 rZ tQ;have vZ:=cb Bk (HL (P:=l.prog) (w:=w) (base:=base) T bP _ _ Bk);have C:=cb yc (D3 T bP nJ _ _ yc);have uM:=cb yK (Ga T bP C m6 _ _ yK);have D:=cb O0 (Vi T bP uM _ _ O0);have E:=cb LA (QI T bP C D _ _ LA);have wJ:=cb P6 (Vz T bP E D _ _ P6);have g:=cb HH (Pq T bP E wJ _ _ HH);have f:=cb Qm (VD T bP C _ _ Qm);have uA:=cb Lh (T6 T bP f _ _ Lh);have pS:=cb DX (Kx T bP uA _ _ DX);have A:=cb vK (B5 T bP uA g _ _ vK);have qQ:=cb Ff (Nv T bP g pS A _ _ Ff);have kP:=cb yf (EG (P:=l.prog) (w:=w) (base:=base) T bP _ _ yf);have j:=cb DQ (Kb (P:=l.prog) (w:=w) (base:=base) T bP _ _ DQ);have sF:=cb wD (Cu T bP j _ _ wD);have mE:=cb Fn (M7 T bP pS _ _ Fn);have nX:=cb Bf (G6 (P:=l.prog) (w:=w) (base:=base) T bP _ _ Bf);have BJ:=cb IE (Qz T bP nX _ _ IE);have pN:=cb C7 (J5 T bP f _ _ C7);have mJ:=cb FL (MI T bP j _ _ FL);have jh:=cb zp (GB T bP pN mJ _ _ zp);have xO:=cb Dm (JO T bP kP sF mE BJ jh _ _ Dm);have Γ:=Aq (P:=l.prog) (w:=w) (base:=base) T bP x E qQ wJ D A xO;have jY:=cb Bc (Hw (P:=l.prog) (w:=w) (base:=base) T bP _ _ Bc);have xK:=cb CV (JQ (P:=l.prog) (w:=w) (base:=base) T bP _ _ CV);have xG:=cb DU (KC T bP xK _ _ DU);have ir:=cb wA (CT T bP C _ _ wA);have pV:=cb Dx (J9 T bP ir g f _ _ Dx);have nO:=cb He (OH T bP pV A _ _ He);have nV:=cb AN (Iz (P:=l.prog) (w:=w) (base:=base) T bP _ _ AN);have jZ:=cb AY (Ij T bP nV _ _ AY);have pG:=cb CU (Kf T bP g jZ f _ _ CU);have G2:=cb Qa (UE T bP pG _ _ Qa);have F:=cb K8 (S5 (P:=l.prog) (w:=w) (base:=base) T bP _ _ K8);have Z:=cb DS (JL T bP nO jZ G2 F _ _ DS);have mZ:=cb y6 (Gk T bP nO _ _ y6);have sg:=cb Js (Qf T bP kP j jh _ _ Js);have tR:=cb yd (Em T bP j _ _ yd);have xq:=cb C1 (KY T bP sg mE tR _ _ C1);have ms:=cb yj (DY T bP sg mE j _ _ yj);have tU:=cb yo (Ef T bP xq pN j ms _ _ yo);have vQ:=cb Bd (Hq T bP tU _ _ Bd);have xM:=cb Cp (Kk T bP x pU pP Γ mZ vQ mJ _ _ Cp);have u8:=cb zx (F7 T bP x pU pP Γ ir mJ _ _ zx);have qD:=cb uZ (Ap T bP f j ms _ _ uZ);have wa:=cb AV (Hf T bP qD _ _ AV);have ss:=cb wL (Dr T bP x pU pP Γ mZ pG Z wa _ _ wL);have om:=cb rT (xt T bP Z xM u8 ss _ _ rT);have lL:=cb LN (Tl (P:=l.prog) (w:=w) (base:=base) T bP _ _ LN);have fx:=cb Bn (HB T bP lL _ _ Bn);have gj:=Ca (P:=l.prog) (w:=w) (base:=base) T bP eK nC lL fx f F;have vX:=cb Bh (Ix T bP eK gj fx f _ _ Bh);have mK:=cb FA (Oh T bP nV _ _ FA);have EE:=cb Mi (RU T bP g f mK _ _ Mi);have Ϛ:=yE (P:=l.prog) (w:=w) (base:=base) T bP mz E vX g D EE;have zo:=cb Ft (On (P:=l.prog) (w:=w) (base:=base) T bP mz zJ zj Ϛ eK gj _ _ Ft);have qT:=cb Fs (NF T bP F mK _ _ Fs);have uB:=cb LF (QW T bP zo qT _ _ LF);have BF:=cb Ju (PK T bP uB qT F _ _ Ju);have vO:=cb AR (Jd T bP f _ _ AR);have vR:=cb AG (Jw T bP vO g jZ mK _ _ AG);have xY:=cb Dw (Ku T bP vR _ _ Dw);have BU:=cb Je (OX T bP xY _ _ Je);have D5:=cb Mg (Ro T bP qQ ir g f _ _ Mg);have wf:=cb AU (G0 T bP xG om BF pV nO uB BU Z A D5 _ _ AU);have ul:=cb C9 (KW (P:=l.prog) (w:=w) (base:=base) T bP _ _ C9);have vV:=cb AQ (HP T bP jY ul _ _ AQ);have yU:=cb Fo (Ml T bP jY vV _ _ Fo);have ZI:=WL (P:=l.prog) (w:=w) (base:=base) T bP Zt pL Ox Ow eQ jY wf vZ yU;exact ZI
theorem walk{l:PySem.W.OpenLaw}{q:Program}{c:gy}{v:(Str->Option Value)->Heap->Prop}{i:World->Heap->Prop}{d:DefRec}{K:Params->PySem.W.Frag}(A:l.most=some 63)(g:d.params.defaults=[])(y:∀(w:World) (h:Heap),i w h->(K w.params).In h)(F:∀(w:World) (e:gx) (j:Addr) (h:Heap),(K w.params).In h->h.Ns mainGlobals e->e d.name=some (.ref j)->∃m:FuncData,(∀(s:Shared) (u:Value),BindsTo s m ⟨[u],[]⟩ [("script",u)])/\∀b:Heap,(K w.params).In b->b.Ns mainGlobals e->Ψ l.prog w (K w.params) e b (ψ l.prog w) 62 j m ["script"] (GD (K w.params))):PySem.W.WalkO q c v i l.row.toRowW d [] (λf p=>PySem.call f p):=L2.aey (n:=63) (k:=62) (x:="script") (CX:=λw=>(ψ l.prog w)) (sp:=λw=>GD (K w.params)) A (by decide) g ⟨rfl,by decide,by decide⟩ y F (λ_ _ a t r _ o=>⟨a,t,rfl,o,r,λ_=>rfl⟩) λ_ _ _ _ _ z=>bP _ _ _ _ _ z
end Pk
open L2
open PySem PySem.W PyProof.Rows
set_option maxRecDepth 100000 in
set_option maxHeartbeats 0 in
theorem PySem.Challenge.cw_pebbletoll_k67_whole_three_roads_to_enou_holds : PySem.Challenge.rw_pebbletoll_k67_whole_three_roads_to_enou.Holds := by
 w_on;refine PySem.W.holds_law Hd.ws λauX=>?_
 refine PySem.W.holds_open (q:=Hd.qq) (loose:=[]) (Xt:=(λs=>PySem.W.xlAt Hd.qq [] s&&PySem.W.recOk (PySem.W.RowW.records (PySem.W.OpenRow.toRowW (PySem.Challenge.rw_pebbletoll_k67_whole_three_roads_to_enou).row)) s)) (XP:=PySem.W.XL Hd.qq []) (Yf:=PySem.W.Hook.obs (PySem.W.kHook Hd.KK Hd.asK Hd.Ϣ)) (Ya:=PySem.W.Hook.val (PySem.W.kHook Hd.KK Hd.asK Hd.Ϣ)) (YP:=PySem.W.Hook.says (PySem.W.kHook Hd.KK Hd.asK Hd.Ϣ)) (N:=10186) Hd.left (PySem.W.Hook.of (PySem.W.kHook Hd.KK Hd.asK Hd.Ϣ)) (PySem.W.Hook.keeps (PySem.W.kHook Hd.KK Hd.asK Hd.Ϣ)) (λs e=>PySem.W.xl_of s (oJ.mp e).1) PySem.W.XL.keeps (by rfl) (by rfl) (by rfl) (λs e=>PySem.W.recFacts_of (oJ.mp e).2) (by rfl) (by assumption) (by decide +kernel) ⟨rfl,rfl,rfl,rfl,rfl,by decide +kernel⟩ ?hw ?hc
 (case hw=>w_witness2)
 k_fill
 refine Pk.walk (l:=PySem.Challenge.rw_pebbletoll_k67_whole_three_roads_to_enou) rfl rfl (λw h Y=>PySem.W.kIn_of Y) ?F
 case F=>
  intro w mg fa h KX G hmg;refine' Pk.all_mk KX G hmg ?_ ?_ ?_ ?_ ?_ ?_ ?_ ?_ ?_ ?_ ?_ ?_ ?_ ?_ ?_ ?_ ?_ ?_ ?_ ?_ ?_ ?_ ?_ ?_ ?_ ?_ ?_ ?_ ?_ ?_ ?_ ?_ ?_ ?_ ?_ ?_ ?_ ?_ ?_ ?_ ?_ ?_ ?_ ?_ ?_ ?_ ?_ ?_ ?_ ?_ ?_ ?_ ?_ ?_ ?_ ?_ ?_ ?_ ?_ ?_ ?_ ?_ ?_ ?_ ?_ ?_ ?_ ?_ ?_ ?_ ?_ ?_ ?_ ?_ ?_ ?_ ?_ ?_ ?_ ?_ ?_ ?_ ?_ ?_ ?_ ?_ ?_ ?_ ?_ ?_ ?_ ?_ ?_ ?_ ?_ ?_ ?_ ?_ ?_ ?_ ?_ ?_ ?_ ?_ ?_ ?_ ?_ ?_ ?_ ?_ ?_ ?_ ?_ ?_ ?_ ?_ ?_ ?_ ?_ ?_ ?_ ?_ ?_ ?_ ?_ ?_ ?_ ?_ ?_ ?_ ?_ ?_ ?_ ?_ ?_ ?_ ?_ ?_ ?_ ?_ ?_ ?_ ?_ ?_ ?_ ?_ ?_ ?_ ?_ ?_ ?_ ?_ ?_ ?_ ?_ ?_ ?_ ?_ ?_ ?_ ?_ ?_ ?_ ?_ ?_ ?_ ?_ ?_ ?_ ?_
  any_goals first|exact Vk (by k_is) (by k_is) (by k_is) (by k_is) (by k_is) (by k_is) (by k_is) (by k_is) (by rfl)|exact Vn (by k_is) (by k_is) (by k_is) (by k_is) (by k_is) (by k_is) (by k_is) (by k_is) (by rfl)|exact VE _ _ _ _ _ _ _ _ _ _ _ _ _ _ _ _ (by k_is) (by rfl) (by kernel_rfl) (by k_is) (by kernel_rfl)|exact Pk.fi|k_is|decide
#print axioms PySem.Challenge.cw_pebbletoll_k67_whole_three_roads_to_enou_holds