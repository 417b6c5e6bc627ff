import PyProof.Rows.All
import Wide.All
import OpenK.AllK
import Wide.FinOn
import Lean
import PyProof.EqAt
import PyProof.EqKinds
import PyProof.TupleCall
import PyProof.P3Eq
import PyProof.NeData
import PyProof.FitsBits
import PyProof.ZipIter
import PyProof.TupleIter
import KE.KRevIter
import PyProof.TupleOfGen
import PyProof.ListRange
import KE.KIsAll
import PyProof.ExcArgsOwn
import OpenK.KDescr
import PyProof.StationsW
import PyProof.ExcBaseAll.ValueError
import OpenK.KOwn
import PyProof.RulesAs
import PyProof.RulesDel
import PyProof.Rows.SortWalk
import PyProof.CompUse
import KE.KDictSum
import PyProof.WalkInts
import KE.KSortTup
import PyProof.Rows.TupDisplay
import KE.KIntText
import PyProof.JoinWalk
import PyProof.ExcInit
import PyProof.ExcClass2
import KE.KRevSl
import KE.KSetAt
import PyProof.DictUpdate
import PySem.Challenge.RW_pebbletoll_k44_counted_by_trying
set_option Elab.async false
set_option linter.all false
set_option maxRecDepth 100000
def fZ:=@Array.getD_eq_getD_getElem?
def f7:=@Array.getElem?_eq_some_iff
def nK:=@Array.length_toList
def kU:=@Array.perm_iff_toList_perm
def ce:=@Bool.and_eq_true
def nD:=@Bool.and_eq_true_iff
def dX:=@Bool.eq_iff_iff
def iY:=@Bool.false_and
def dL:=@Bool.false_eq_true
def bz:=@Bool.false_ne_true
def nh:=@Bool.false_or
def fW:=@Bool.not_eq_true'
def iZ:=@Bool.true_and
def kL:=@PySem.Calls.Name_function_global
def gG:=@PySem.Calls.spliced_cons
def gQ:=@PySem.Calls.spliced_nil
def jR:=@PySem.F.args_tuple_iterator_next_1
def kj:=@PySem.F.entry_tuple_iterator_next
def fY:=@PySem.F.slot_tuple_iterator_next
def jJ:=@PySem.F.slot_zip_next
def ar:=@PySem.Heap.get?_push_of_some
def bf:=@PySem.Heap.get?_push_size
def dq:=@PySem.Heap.get?_update_other
def fe:=@PySem.Heap.get?_update_self
def aG:=@PySem.Heap.lt_size
def de:=@PySem.Heap.size_push
def nJ:=@Int.add_comm
def eB:=@Int.add_mul
def jg:=@Int.add_mul_ediv_right
def lF:=@Int.add_zero
def jb:=@Int.ediv_eq_zero_of_lt
def ik:=@Int.ediv_nonneg
def mE:=@Int.emod_add_mul_ediv
def cN:=@Int.emod_lt_of_pos
def dG:=@Int.emod_nonneg
def kF:=@Int.fdiv_eq_ediv_of_nonneg
def lC:=@Int.le_of_lt
def b9:=@Int.le_refl
def bE:=@Int.le_trans
def cM:=@Int.mul_add
def gh:=@Int.mul_assoc
def fF:=@Int.mul_comm
def mI:=@Int.mul_ediv_add_emod
def df:=@Int.mul_le_mul
def cj:=@Int.mul_le_mul_of_nonneg_left
def bu:=@Int.mul_le_mul_of_nonneg_right
def cX:=@Int.mul_nonneg
def iM:=@Int.mul_one
def gS:=@Int.mul_sub
def lB:=@Int.mul_zero
def iU:=@Int.natAbs_add_le
def kb:=@Int.natAbs_mul
def kH:=@Int.natAbs_natCast
def dH:=@Int.natCast_add
def eX:=@Int.natCast_mul
def jG:=@Int.natCast_sub
def oG:=@Int.neg_mul
def dP:=@Int.one_mul
def lW:=@Int.pow_add
def nO:=@Int.sub_zero
def bJ:=@Int.toNat_natCast
def br:=@Int.toNat_of_nonneg
def cR:=@Int.zero_add
def gV:=@List.Perm.append_left
def mB:=@List.Perm.append_right
def iE:=@List.Perm.refl
def dQ:=@List.all_eq_true
def nj:=@List.any_cons
def lM:=@List.any_eq_true
def bX:=@List.append_assoc
def bH:=@List.append_nil
def ff:=@List.concat_eq_append
def d6:=@List.cons.inj
def fG:=@List.cons_append
def jI:=@List.drop_append_of_le_length
def ck:=@List.drop_eq_getElem_cons
def mC:=@List.drop_eq_nil_of_le
def f9:=@List.drop_length
def mr:=@List.drop_of_length_le
def nB:=@List.drop_succ_cons
def jW:=@List.drop_zero
def gJ:=@List.eq_nil_iff_forall_not_mem
def fh:=@List.eq_nil_or_concat
def iC:=@List.eq_of_mem_replicate
def lQ:=@List.ext_getElem
def eA:=@List.ext_getElem?
def ir:=@List.filterMap_cons
def b4:=@List.filter_append
def g9:=@List.filter_cons
def dF:=@List.filter_cons_of_neg
def eJ:=@List.filter_cons_of_pos
def jH:=@List.filter_nil
def gA:=@List.find?_cons
def ju:=@List.findSome?_append
def j0:=@List.findSome?_cons
def fJ:=@List.flatMap_append
def bC:=@List.flatMap_cons
def fu:=@List.flatten_cons
def mm:=@List.forIn_cons
def aX:=@List.getD_eq_getElem?_getD
def dh:=@List.getElem?_append_left
def da:=@List.getElem?_append_right
def iK:=@List.getElem?_cons_succ
def ao:=@List.getElem?_eq_getElem
def bI:=@List.getElem?_eq_none
def az:=@List.getElem?_eq_some_iff
def fS:=@List.getElem?_inj
def aA:=@List.getElem?_map
def cJ:=@List.getElem?_of_mem
def fA:=@List.getElem?_range
def fD:=@List.getElem?_replicate
def cB:=@List.getElem?_reverse
def dZ:=@List.getElem?_set_ne
def gC:=@List.getElem?_set_self
def iA:=@List.getElem?_take_of_lt
def lS:=@List.getElem_cons_drop
def iT:=@List.getElem_map
def dj:=@List.getElem_mem
def jP:=@List.getElem_of_mem
def jt:=@List.getLast?_append
def kE:=@List.getLast?_eq_none_iff
def aE:=@List.length_append
def aF:=@List.length_cons
def fx:=@List.length_drop
def lD:=@List.length_eq_zero_iff
def cC:=@List.length_filter_le
def aa:=@List.length_map
def dU:=@List.length_nil
def bD:=@List.length_range
def cV:=@List.length_replicate
def bc:=@List.length_reverse
def eR:=@List.length_set
def bq:=@List.length_take
def lK:=@List.length_zip
def cH:=@List.lookup_cons
def aw:=@List.map_append
def bZ:=@List.map_congr_left
def aq:=@List.map_cons
def jU:=@List.map_drop
def mU:=@List.map_eq_nil_iff
def cZ:=@List.map_map
def d7:=@List.map_nil
def iw:=@List.map_replicate
def d9:=@List.map_reverse
def gX:=@List.map_set
def mK:=@List.map_take
def aY:=@List.mem_append
def bo:=@List.mem_append_left
def aW:=@List.mem_append_right
def ax:=@List.mem_cons
def aH:=@List.mem_cons_of_mem
def aJ:=@List.mem_cons_self
def mF:=@List.mem_erase_of_ne
def bG:=@List.mem_filter
def dM:=@List.mem_flatMap
def aP:=@List.mem_map
def dI:=@List.mem_nil_iff
def aQ:=@List.mem_of_getElem?
def jC:=@List.mem_of_getLast?
def b5:=@List.mem_of_mem_drop
def fU:=@List.mem_of_mem_take
def kJ:=@List.mem_or_eq_of_mem_set
def bU:=@List.mem_range
def dJ:=@List.mem_reverse
def aI:=@List.mem_singleton
def ga:=@List.nil_append
def dC:=@List.nodup_append
def bg:=@List.nodup_cons
def mi:=@List.nodup_nil
def hG:=@List.of_mem_zip
def f6:=@List.pairwise_iff_getElem
def fP:=@List.pairwise_map
def mz:=@List.perm_append_comm
def hZ:=@List.perm_append_singleton
def c8:=@List.range_succ
def cw:=@List.replicate_succ
def ia:=@List.reverse_append
def dY:=@List.reverse_cons
def jw:=@List.reverse_reverse
def lU:=@List.reverse_singleton
def lZ:=@List.singleton_append
def aM:=@List.size_toArray
def c9:=@List.sum_append
def aN:=@List.sum_cons
def cz:=@List.take_add_one
def b8:=@List.take_append_drop
def bx:=@List.take_length
def dc:=@List.take_of_length_le
def bK:=@List.take_succ
def eY:=@List.take_zero
def gB:=@Nat.add_le_add
def eP:=@Nat.add_mul
def iV:=@Nat.le_add_right
def kO:=@Nat.le_of_eq
def i9:=@Nat.le_of_lt
def ap:=@Nat.le_refl
def fE:=@Nat.le_succ
def aL:=@Nat.le_trans
def cU:=@Nat.lt_irrefl
def gm:=@Nat.lt_of_le_of_lt
def aZ:=@Nat.lt_of_lt_of_le
def gI:=@Nat.lt_succ_of_lt
def fX:=@Nat.lt_succ_self
def iG:=@Nat.lt_trichotomy
def nN:=@Nat.mul_add
def gY:=@Nat.mul_comm
def bP:=@Nat.mul_le_mul
def jM:=@Nat.mul_le_mul_left
def cY:=@Nat.mul_le_mul_right
def eW:=@Nat.ne_of_gt
def aV:=@Nat.ne_of_lt
def ji:=@Nat.not_lt_zero
def jD:=@Nat.one_mul
def eO:=@Nat.pow_add
def fy:=@Nat.pow_le_pow_left
def bB:=@Nat.pow_le_pow_right
def mJ:=@Nat.pow_lt_pow_right
def nM:=@Nat.pow_mul
def eV:=@Nat.pow_succ
def d8:=@Nat.sub_self
def gZ:=@Nat.sub_zero
def kR:=@Nat.succ.inj
def iX:=@Nat.zero_add
def bj:=@Nat.zero_le
def eM:=@PySem.Obj.data_mapFields
def gL:=@PySem.Obj.isFreed_of_fields
def ft:=@Option.isSome_iff_exists
def gD:=@Option.isSome_map
def eI:=@Option.map_eq_some_iff
def jo:=@Option.map_some
def bi:=@Option.some.inj
def cG:=@PyProof.Rows.callWith_type1
def iz:=@PySem.F.slot_list_insert
def lR:=@PySem.W.cellsFrom_some
def c7:=@PySem.W.kia_one
def bT:=@PySem.W.mg_of
def dE:=@PySem.mem_of_lookup
def gR:=@beq_iff_eq
def kT:=@PySem.codeAny_mono
def kW:=@decide_eq_decide
def bA:=@decide_eq_false
def bh:=@decide_eq_true
def bM:=@decide_eq_true_eq
def fK:=@decide_eq_true_iff
def ag:=@if_neg
def aj:=@if_pos
def bN:=@of_decide_eq_true
def iu:=@PySem.wpAny_Call_Name_kw
def ak:=@PySem.wpAny_bind
def gP:=@PySem.wpAny_call_entry
def jk:=@PySem.wpAny_execs_nil
def cD:=@PySem.wpAny_field
def gM:=@PySem.wpAny_holding
def f8:=@PySem.wpAny_ite_split
def lA:=@PySem.wpAny_letGo
def hW:=@PySem.wpAny_loadPart'
def di:=@PySem.wpAny_mono
def gF:=@PySem.wpAny_newObj_type
def jV:=@PySem.wpAny_onRaise
def fH:=@PySem.wpAny_passesOwn
def ba:=@PySem.wpAny_pure
def iI:=@PySem.wpAny_pyIter_list
def jA:=@PySem.wpAny_pyIter_revIter
def kg:=@PySem.wpAny_pyIter_tuple
def d5:=@PySem.wpAny_seqItems
def im:=@PySem.wpAny_setField
def fI:=@PySem.wpAny_setField_rec
def lJ:=@PySem.wpAny_specialOf
def jZ:=@PySem.wpAny_standAt
def cQ:=@PySem.wpAny_truthy_bool
def jB:=@PySem.wpAny_updateSeq_pair
namespace Hd
open PySem
def top(i:Nat):Stmt:=PySem.Challenge.pw_pebbletoll_k44_counted_by_trying.main.body.getD i (.Pass ⟨0,0,0,0⟩)
def inC(s:Stmt)(j:Nat):Stmt:=match s with
 | .ClassDef _ _ _ b _ _ _ _ _ _ _=>b.getD j (.Pass ⟨0,0,0,0⟩)
 | _=>.Pass ⟨0,0,0,0⟩
def kA(s:Stmt):Arguments:=match s with
 | .FunctionDef _ a _ _ _ _ _ _ _ _=>a
 | _=>{ posonlyargs:=[],args:=[],vararg:=none,kwonlyargs:=[],kw_defaults:=[],kwarg:=none,defaults:=[] }
def kB(s:Stmt):List Stmt:=match s with
 | .FunctionDef _ _ b _ _ _ _ _ _ _=>b
 | _=>[]
def kS(s:Stmt):Scope:=match s with
 | .FunctionDef _ _ _ _ _ _ sc _ _ _=>sc
 | _=>{ kind:=.function,names:=[],isGenerator:=false,isCoroutine:=false }
theorem ws:(PySem.Challenge.rw_pebbletoll_k44_counted_by_trying).wellSaid=true:=by kernel_rfl
open PySem.W PySem.Calls PyProof.Rows
def en(P:Params)(s:Str)(t:Tok)(v:Value):DictEntry:=.mk (PyData.keyHash P s) (.str s t) v
def cO(a b:Str)(h i c:Tok)(g d s j n:Int)(o:Value)(t:Bool)(k:Int)(q u p r l:Value)(e f:Int)(m:Tok):Obj:=.mk (.type "code") none (.fields #[.str a h,.str b i,.str "/claim/cut.py" c,.int g 0,.int d 0,.int s 0,.int j 0,.int n 0,o,.bool t,.int k 0,q,u,p,r,l,.int e 0,.int f 0,.str "/claim/cut.py" m]) #[]
def fR(a b:Str)(s:Stmt):Obj:=.mk .none none (.func (.mk a b (kA s) (.stmts (kB s)) (kS s) 0 [] .none .none .none .none none .none .none 0)) #[]
def fO(a b:Str)(s:Stmt)(c d:Value):Obj:=.mk (.type "function") none (.func (PySem.W.fnOf a b (kA s) (kB s) (kS s) .none .none .none c none d .none)) #[]
def tO(a:Array Value):Obj:=.mk (.type "tuple") none (.seq a 0) #[]
def fr(a:Str)(s:Stmt):Obj:=fR a a s
def fo(a:Str)(s:Stmt)(c b:Value):Obj:=fO a a s c b
def cF(a:Str)(t:Nat)(i j k:Int)(n q:Nat):Obj:=cO a a t (t+1) (t+2) i j 0 0 k (.ref n) true 181 (.ref (n+1)) .none (.ref (n+2)) (.ref (n+3)) (.ref (n+4)) q i (q+1)
def sT(t:Nat):List Str->List Value
 | []=>[]
 | s::l=>.str s t::sT (t+1) l
def tS(t:Nat)(l:List Str):Obj:=tO (sT t l).toArray
def tF:List (Int×Nat)->List Value
 | []=>[]
 | (i,a)::l=>.int i 0::.int 0 0::.ref a::tF l
def x0:Obj:=(tO #[])
def x1:Obj:=(.mk .none none (.fields #[]) #[])
def x2:Obj:=(cO "<module>" "<module>" 182 183 184 1 0 0 0 0 (.ref 11) false 181 (.ref 12) .none .none .none .none 185 1 186)
def x3:Obj:=(.mk (.type "frame") none .plain #[(some (.ref 13)),(some (.ref 3)),(some (.ref 3)),none,(some (.str "__main__" 164)),none,(some (.ref 0))])
noncomputable def ha(P:Params):Heap:=.mk (.mk (boot_o_0 P::boot_o_1 P::boot_o_2 P::boot_o_3 P::boot_o_4 P::boot_o_5 P::boot_o_6 P::boot_o_7 P::boot_o_8 P::boot_o_9 P::boot_o_10 P::x0::x1::x2::x3::[])) (.mk [] [] [] 0 [] [] false #[] [] 0 false false false 0 [2000,10,10] false 0 true [] [] 0 false)
noncomputable def hb(P:Params):Heap:=ha P
abbrev st0:List Stmt:=[top 0,top 1,top 2,top 3,top 4,top 5,top 6,top 7,top 8,top 9,top 10,top 11,top 12,top 13,top 14]
abbrev st1:List Stmt:=[top 15,top 16,top 17,top 18,top 19,top 20,top 21,top 22,top 23,top 24,top 25,top 26,top 27,top 28,top 29,top 30,top 31,top 32,top 33,top 34,top 35,top 36,top 37,top 38,top 39,top 40,top 41,top 42,top 43,top 44,top 45,top 46,top 47,top 48,top 49,top 50,top 51,top 52,top 53,top 54,top 55,top 56,top 57,top 58,top 59,top 60,top 61,top 62,top 63,top 64,top 65,top 66,top 67,top 68,top 69,top 70,top 71,top 72,top 73,top 74,top 75,top 76,top 77]
abbrev YG:List Stmt:=[top 78,top 79,top 80,top 81,top 82,top 83,top 84]
abbrev bb:List Stmt:=st0++(st1++(YG++([])))
def env:Env:={ scope:=PySem.Challenge.pw_pebbletoll_k44_counted_by_trying.main.scope,locals:=mainNs,globals:=mainNs,cells:=[],code:=(.ref 13),frame:=some 14 }
abbrev cE:Code:=.body bb env
theorem VW(w:World)(os:OsState):topGo treeTable PySem.Challenge.pw_pebbletoll_k44_counted_by_trying w 11 (some (.ref 6)) 12 (Shared.mk (boot_heap w.params) (.mk []) boot_drawn boot_toks os) (topStub PySem.Challenge.pw_pebbletoll_k44_counted_by_trying)=some ((Shared.mk (ha w.params) (.mk []) (.mk 0 0 0 0) 187 os),Thread.mk (denote treeTable cE) cE (.mk 0 0 0 0) [topFrame (.mk 0 0 0 0)]):=by kernel_rfl
theorem V0(w:World)(os:OsState):segRun treeTable PySem.Challenge.pw_pebbletoll_k44_counted_by_trying w 11 (some (.ref 6)) 1 1 (Shared.mk (ha w.params) (.mk []) (.mk 0 0 0 0) 187 os) (blockOf bb env cE (.mk 0 0 0 0) [topFrame (.mk 0 0 0 0)])=some (.next,(Shared.mk (hb w.params) (.mk []) (.mk 0 0 0 0) 187 os),cE,(.mk 0 0 0 0)):=by kernel_rfl
def x4(P:Params):Obj:=(.mk (.type "dict") none (.dict #[(en P "__name__" 165 (.str "pebbletoll.webs" 319)),(en P "__doc__" 166 .none),(en P "__package__" 167 .none),(en P "__loader__" 168 (.builtin "__main__.__loader__#opaque")),(en P "__spec__" 169 .none),(en P "__annotations__" 170 (.ref 6)),(en P "__builtins__" 171 (.ref 4)),(en P "__file__" 173 (.str "/claim/cut.py" 172)),(en P "__cached__" 174 .none),(en P "TollError" 206 (.ref 24)),(en P "BadWeb" 222 (.ref 37)),(en P "NoPlace" 238 (.ref 49)),(en P "NoRoad" 254 (.ref 61)),(en P "BadLaying" 270 (.ref 73)),(en P "BadWish" 286 (.ref 85)),(en P "TooMany" 302 (.ref 97)),(en P "NoNumber" 318 (.ref 109)),(en P "MOST_PLACES" 322 (.int 24 321)),(en P "LEAST_TOLL" 324 (.int 2 323)),(en P "MOST_TOLL" 326 (.int 1000000 325)),(en P "Web" 354 (.ref 126)),(en P "toll" 367 (.ref 137))] 22) #[])
def x5:Obj:=(.mk .none none (.fields (tF [(2,20),(4,33),(6,45),(8,57),(10,69),(12,81),(14,93),(16,105),(22,117),(33,136)]).toArray) #[])
def x6:Obj:=(tO #[(.type "ValueError")])
def x7:Obj:=(.mk (.type "builtin_function_or_method") none (.fields #[(.builtin "type.__prepare__"),(.type "type")]) #[])
def x8(P:Params):Obj:=(.mk (.type "dict") none (.dict #[(en P "__module__" 196 (.str "pebbletoll.errors" 187)),(en P "__qualname__" 198 (.str "TollError" 197)),(en P "__firstlineno__" 200 (.int 2 199)),(en P "__static_attributes__" 201 (.ref 22))] 4) #[])
def x9:Obj:=(cO "TollError" "TollError" 191 192 193 2 0 0 0 0 (.ref 18) false 181 (.ref 19) .none .none .none .none 194 2 195)
def x10:Obj:=(.mk (.type "frame") none .plain #[(some (.ref 20)),(some (.ref 3)),(some (.ref 17)),none,(some (.str "pebbletoll.errors" 187)),none,(some (.ref 0))])
def x11(P:Params):Obj:=(.mk (.type "dict") none (.dict #[(en P "__module__" 196 (.str "pebbletoll.errors" 187)),(en P "__firstlineno__" 200 (.int 2 199)),(en P "__static_attributes__" 201 (.ref 22)),(en P "__weakref__" 203 (.ref 25)),(en P "__doc__" 204 .none)] 3) #[])
def x12:Obj:=(.mk (.type "type") none (.cls (.mk "TollError" [(.type "ValueError")] [(.ref 24),(.type "ValueError"),(.type "Exception"),(.type "BaseException"),(.type "object")] 23 "TollError" true [] [(.ref 37),(.ref 49),(.ref 61),(.ref 73),(.ref 85),(.ref 97),(.ref 109)] false none false)) #[(some (.ref 15)),none,(some (.str "TollError" 189)),(some (.str "TollError" 197)),(some (.builtin "ValueError.__new__")),(some (.bool true))])
def x13:Obj:=(.mk (.type "getset_descriptor") none (.fields #[(.str "__weakref__" 202),(.ref 24),(.builtin "ExceptionGroup.__weakref__"),.none]) #[])
def x14:Obj:=(.mk (.type "super") none (.fields #[(.ref 24),(.ref 24),(.ref 24)]) #[])
def x15:Obj:=(.mk (.type "builtin_function_or_method") none (.fields #[(.builtin "object.__init_subclass__"),(.ref 24)]) #[])
def WG:Obj:=(tO #[(.ref 24)])
def x17(P:Params):Obj:=(.mk (.type "dict") none (.dict #[(en P "__module__" 214 (.str "pebbletoll.errors" 187)),(en P "__qualname__" 216 (.str "BadWeb" 215)),(en P "__firstlineno__" 218 (.int 4 217)),(en P "__static_attributes__" 219 (.ref 35))] 4) #[])
def x18:Obj:=(cO "BadWeb" "BadWeb" 209 210 211 4 0 0 0 0 (.ref 31) false 181 (.ref 32) .none .none .none .none 212 4 213)
def x19:Obj:=(.mk (.type "frame") none .plain #[(some (.ref 33)),(some (.ref 3)),(some (.ref 30)),none,(some (.str "pebbletoll.errors" 187)),none,(some (.ref 0))])
def x20(P:Params):Obj:=(.mk (.type "dict") none (.dict #[(en P "__module__" 214 (.str "pebbletoll.errors" 187)),(en P "__firstlineno__" 218 (.int 4 217)),(en P "__static_attributes__" 219 (.ref 35)),(en P "__doc__" 220 .none)] 2) #[])
def x21:Obj:=(.mk (.type "type") none (.cls (.mk "BadWeb" [(.ref 24)] [(.ref 37),(.ref 24),(.type "ValueError"),(.type "Exception"),(.type "BaseException"),(.type "object")] 36 "BadWeb" true [] [] false none false)) #[(some (.ref 28)),none,(some (.str "BadWeb" 207)),(some (.str "BadWeb" 215)),(some (.builtin "ValueError.__new__")),(some (.bool true))])
def x22:Obj:=(.mk (.type "super") none (.fields #[(.ref 37),(.ref 37),(.ref 37)]) #[])
def x23:Obj:=(.mk (.type "builtin_function_or_method") none (.fields #[(.builtin "object.__init_subclass__"),(.ref 37)]) #[])
def x24(P:Params):Obj:=(.mk (.type "dict") none (.dict #[(en P "__module__" 230 (.str "pebbletoll.errors" 187)),(en P "__qualname__" 232 (.str "NoPlace" 231)),(en P "__firstlineno__" 234 (.int 6 233)),(en P "__static_attributes__" 235 (.ref 47))] 4) #[])
def x25:Obj:=(cO "NoPlace" "NoPlace" 225 226 227 6 0 0 0 0 (.ref 43) false 181 (.ref 44) .none .none .none .none 228 6 229)
def x26:Obj:=(.mk (.type "frame") none .plain #[(some (.ref 45)),(some (.ref 3)),(some (.ref 42)),none,(some (.str "pebbletoll.errors" 187)),none,(some (.ref 0))])
def x27(P:Params):Obj:=(.mk (.type "dict") none (.dict #[(en P "__module__" 230 (.str "pebbletoll.errors" 187)),(en P "__firstlineno__" 234 (.int 6 233)),(en P "__static_attributes__" 235 (.ref 47)),(en P "__doc__" 236 .none)] 2) #[])
def x28:Obj:=(.mk (.type "type") none (.cls (.mk "NoPlace" [(.ref 24)] [(.ref 49),(.ref 24),(.type "ValueError"),(.type "Exception"),(.type "BaseException"),(.type "object")] 48 "NoPlace" true [] [] false none false)) #[(some (.ref 40)),none,(some (.str "NoPlace" 223)),(some (.str "NoPlace" 231)),(some (.builtin "ValueError.__new__")),(some (.bool true))])
def x29:Obj:=(.mk (.type "super") none (.fields #[(.ref 49),(.ref 49),(.ref 49)]) #[])
def x30:Obj:=(.mk (.type "builtin_function_or_method") none (.fields #[(.builtin "object.__init_subclass__"),(.ref 49)]) #[])
def x31(P:Params):Obj:=(.mk (.type "dict") none (.dict #[(en P "__module__" 246 (.str "pebbletoll.errors" 187)),(en P "__qualname__" 248 (.str "NoRoad" 247)),(en P "__firstlineno__" 250 (.int 8 249)),(en P "__static_attributes__" 251 (.ref 59))] 4) #[])
def x32:Obj:=(cO "NoRoad" "NoRoad" 241 242 243 8 0 0 0 0 (.ref 55) false 181 (.ref 56) .none .none .none .none 244 8 245)
def x33:Obj:=(.mk (.type "frame") none .plain #[(some (.ref 57)),(some (.ref 3)),(some (.ref 54)),none,(some (.str "pebbletoll.errors" 187)),none,(some (.ref 0))])
def x34(P:Params):Obj:=(.mk (.type "dict") none (.dict #[(en P "__module__" 246 (.str "pebbletoll.errors" 187)),(en P "__firstlineno__" 250 (.int 8 249)),(en P "__static_attributes__" 251 (.ref 59)),(en P "__doc__" 252 .none)] 2) #[])
def x35:Obj:=(.mk (.type "type") none (.cls (.mk "NoRoad" [(.ref 24)] [(.ref 61),(.ref 24),(.type "ValueError"),(.type "Exception"),(.type "BaseException"),(.type "object")] 60 "NoRoad" true [] [] false none false)) #[(some (.ref 52)),none,(some (.str "NoRoad" 239)),(some (.str "NoRoad" 247)),(some (.builtin "ValueError.__new__")),(some (.bool true))])
def x36:Obj:=(.mk (.type "super") none (.fields #[(.ref 61),(.ref 61),(.ref 61)]) #[])
def x37:Obj:=(.mk (.type "builtin_function_or_method") none (.fields #[(.builtin "object.__init_subclass__"),(.ref 61)]) #[])
def x38(P:Params):Obj:=(.mk (.type "dict") none (.dict #[(en P "__module__" 262 (.str "pebbletoll.errors" 187)),(en P "__qualname__" 264 (.str "BadLaying" 263)),(en P "__firstlineno__" 266 (.int 10 265)),(en P "__static_attributes__" 267 (.ref 71))] 4) #[])
def x39:Obj:=(cO "BadLaying" "BadLaying" 257 258 259 10 0 0 0 0 (.ref 67) false 181 (.ref 68) .none .none .none .none 260 10 261)
def x40:Obj:=(.mk (.type "frame") none .plain #[(some (.ref 69)),(some (.ref 3)),(some (.ref 66)),none,(some (.str "pebbletoll.errors" 187)),none,(some (.ref 0))])
def x41(P:Params):Obj:=(.mk (.type "dict") none (.dict #[(en P "__module__" 262 (.str "pebbletoll.errors" 187)),(en P "__firstlineno__" 266 (.int 10 265)),(en P "__static_attributes__" 267 (.ref 71)),(en P "__doc__" 268 .none)] 2) #[])
def x42:Obj:=(.mk (.type "type") none (.cls (.mk "BadLaying" [(.ref 24)] [(.ref 73),(.ref 24),(.type "ValueError"),(.type "Exception"),(.type "BaseException"),(.type "object")] 72 "BadLaying" true [] [] false none false)) #[(some (.ref 64)),none,(some (.str "BadLaying" 255)),(some (.str "BadLaying" 263)),(some (.builtin "ValueError.__new__")),(some (.bool true))])
def x43:Obj:=(.mk (.type "super") none (.fields #[(.ref 73),(.ref 73),(.ref 73)]) #[])
def x44:Obj:=(.mk (.type "builtin_function_or_method") none (.fields #[(.builtin "object.__init_subclass__"),(.ref 73)]) #[])
def x45(P:Params):Obj:=(.mk (.type "dict") none (.dict #[(en P "__module__" 278 (.str "pebbletoll.errors" 187)),(en P "__qualname__" 280 (.str "BadWish" 279)),(en P "__firstlineno__" 282 (.int 12 281)),(en P "__static_attributes__" 283 (.ref 83))] 4) #[])
def x46:Obj:=(cO "BadWish" "BadWish" 273 274 275 12 0 0 0 0 (.ref 79) false 181 (.ref 80) .none .none .none .none 276 12 277)
def x47:Obj:=(.mk (.type "frame") none .plain #[(some (.ref 81)),(some (.ref 3)),(some (.ref 78)),none,(some (.str "pebbletoll.errors" 187)),none,(some (.ref 0))])
def x48(P:Params):Obj:=(.mk (.type "dict") none (.dict #[(en P "__module__" 278 (.str "pebbletoll.errors" 187)),(en P "__firstlineno__" 282 (.int 12 281)),(en P "__static_attributes__" 283 (.ref 83)),(en P "__doc__" 284 .none)] 2) #[])
def x49:Obj:=(.mk (.type "type") none (.cls (.mk "BadWish" [(.ref 24)] [(.ref 85),(.ref 24),(.type "ValueError"),(.type "Exception"),(.type "BaseException"),(.type "object")] 84 "BadWish" true [] [] false none false)) #[(some (.ref 76)),none,(some (.str "BadWish" 271)),(some (.str "BadWish" 279)),(some (.builtin "ValueError.__new__")),(some (.bool true))])
def x50:Obj:=(.mk (.type "super") none (.fields #[(.ref 85),(.ref 85),(.ref 85)]) #[])
def x51:Obj:=(.mk (.type "builtin_function_or_method") none (.fields #[(.builtin "object.__init_subclass__"),(.ref 85)]) #[])
def x52(P:Params):Obj:=(.mk (.type "dict") none (.dict #[(en P "__module__" 294 (.str "pebbletoll.errors" 187)),(en P "__qualname__" 296 (.str "TooMany" 295)),(en P "__firstlineno__" 298 (.int 14 297)),(en P "__static_attributes__" 299 (.ref 95))] 4) #[])
def x53:Obj:=(cO "TooMany" "TooMany" 289 290 291 14 0 0 0 0 (.ref 91) false 181 (.ref 92) .none .none .none .none 292 14 293)
def x54:Obj:=(.mk (.type "frame") none .plain #[(some (.ref 93)),(some (.ref 3)),(some (.ref 90)),none,(some (.str "pebbletoll.errors" 187)),none,(some (.ref 0))])
def x55(P:Params):Obj:=(.mk (.type "dict") none (.dict #[(en P "__module__" 294 (.str "pebbletoll.errors" 187)),(en P "__firstlineno__" 298 (.int 14 297)),(en P "__static_attributes__" 299 (.ref 95)),(en P "__doc__" 300 .none)] 2) #[])
def x56:Obj:=(.mk (.type "type") none (.cls (.mk "TooMany" [(.ref 24)] [(.ref 97),(.ref 24),(.type "ValueError"),(.type "Exception"),(.type "BaseException"),(.type "object")] 96 "TooMany" true [] [] false none false)) #[(some (.ref 88)),none,(some (.str "TooMany" 287)),(some (.str "TooMany" 295)),(some (.builtin "ValueError.__new__")),(some (.bool true))])
def x57:Obj:=(.mk (.type "super") none (.fields #[(.ref 97),(.ref 97),(.ref 97)]) #[])
def x58:Obj:=(.mk (.type "builtin_function_or_method") none (.fields #[(.builtin "object.__init_subclass__"),(.ref 97)]) #[])
def x59(P:Params):Obj:=(.mk (.type "dict") none (.dict #[(en P "__module__" 310 (.str "pebbletoll.errors" 187)),(en P "__qualname__" 312 (.str "NoNumber" 311)),(en P "__firstlineno__" 314 (.int 16 313)),(en P "__static_attributes__" 315 (.ref 107))] 4) #[])
def x60:Obj:=(cO "NoNumber" "NoNumber" 305 306 307 16 0 0 0 0 (.ref 103) false 181 (.ref 104) .none .none .none .none 308 16 309)
def x61:Obj:=(.mk (.type "frame") none .plain #[(some (.ref 105)),(some (.ref 3)),(some (.ref 102)),none,(some (.str "pebbletoll.errors" 187)),none,(some (.ref 0))])
def x62(P:Params):Obj:=(.mk (.type "dict") none (.dict #[(en P "__module__" 310 (.str "pebbletoll.errors" 187)),(en P "__firstlineno__" 314 (.int 16 313)),(en P "__static_attributes__" 315 (.ref 107)),(en P "__doc__" 316 .none)] 2) #[])
def x63:Obj:=(.mk (.type "type") none (.cls (.mk "NoNumber" [(.ref 24)] [(.ref 109),(.ref 24),(.type "ValueError"),(.type "Exception"),(.type "BaseException"),(.type "object")] 108 "NoNumber" true [] [] false none false)) #[(some (.ref 100)),none,(some (.str "NoNumber" 303)),(some (.str "NoNumber" 311)),(some (.builtin "ValueError.__new__")),(some (.bool true))])
def x64:Obj:=(.mk (.type "super") none (.fields #[(.ref 109),(.ref 109),(.ref 109)]) #[])
def x65:Obj:=(.mk (.type "builtin_function_or_method") none (.fields #[(.builtin "object.__init_subclass__"),(.ref 109)]) #[])
def x66(P:Params):Obj:=(.mk (.type "dict") none (.dict #[(en P "__module__" 334 (.str "pebbletoll.webs" 319)),(en P "__qualname__" 336 (.str "Web" 335)),(en P "__firstlineno__" 338 (.int 22 337)),(en P "__init__" 344 (.ref 123)),(en P "__static_attributes__" 347 (.ref 124))] 5) #[])
def x67:Obj:=(.mk .none none (.fields #[(.int 24 0),(.int 4 0),(.ref 122)]) #[])
def x68:Obj:=(cO "Web" "Web" 329 330 331 22 0 0 0 0 (.ref 115) false 181 (.ref 116) .none .none .none .none 332 22 333)
def x69:Obj:=(.mk (.type "frame") none .plain #[(some (.ref 117)),(some (.ref 3)),(some (.ref 114)),none,(some (.str "pebbletoll.webs" 319)),none,(some (.ref 0))])
def x70:Obj:=(fR "__init__" "Web.__init__" (inC (top 13) 0))
def x71:Obj:=(cO "__init__" "Web.__init__" 339 340 341 24 3 0 0 3 (.ref 119) true 181 (.ref 120) .none .none .none (.ref 121) 342 24 343)
def x72:Obj:=(fO "__init__" "Web.__init__" (inC (top 13) 0) (.str "pebbletoll.webs" 319) (.ref 122))
def x73:Obj:=(tS 345 ["many","roads"])
def x74(P:Params):Obj:=(.mk (.type "dict") none (.dict #[(en P "__module__" 334 (.str "pebbletoll.webs" 319)),(en P "__firstlineno__" 338 (.int 22 337)),(en P "__init__" 344 (.ref 123)),(en P "__static_attributes__" 347 (.ref 124)),(en P "__dict__" 349 (.ref 127)),(en P "__weakref__" 351 (.ref 128)),(en P "__doc__" 352 .none)] 4) #[])
def x75:Obj:=(.mk (.type "type") none (.cls (.mk "Web" [(.type "object")] [(.ref 126),(.type "object")] 125 "Web" true [] [] false none false)) #[none,none,(some (.str "Web" 327)),(some (.str "Web" 335)),(some (.builtin "object.__new__")),(some (.bool true))])
def x76:Obj:=(.mk (.type "getset_descriptor") none (.fields #[(.str "__dict__" 348),(.ref 126),(.builtin "function.__dict__"),(.builtin "function.__dict__#set")]) #[])
def x77:Obj:=(.mk (.type "getset_descriptor") none (.fields #[(.str "__weakref__" 350),(.ref 126),(.builtin "ExceptionGroup.__weakref__"),.none]) #[])
def x78:Obj:=(.mk (.type "super") none (.fields #[(.ref 126),(.ref 126),(.ref 126)]) #[])
def x79:Obj:=(.mk (.type "builtin_function_or_method") none (.fields #[(.builtin "object.__init_subclass__"),(.ref 126)]) #[])
def x80:Obj:=(tS 358 ["web","a","b","one","other","there","back"])
def x81:Obj:=(fr "toll" (top 14))
def x82:Obj:=(cF "toll" 355 33 3 3 131 365)
def x83:Obj:=(fo "toll" (top 14) (.str "pebbletoll.webs" 319) (.ref 136))
noncomputable def h0(P:Params):Heap:=.mk (.mk (boot_o_0 P::boot_o_1 P::boot_o_2 P::x4 P::boot_o_4 P::boot_o_5 P::boot_o_6 P::boot_o_7 P::boot_o_8 P::boot_o_9 P::boot_o_10 P::x0::x5::x2::x3::x6::x7::x8 P::x0::x1::x9::x10::x0::x11 P::x12::x13::x14::x15::WG::x7::x17 P::x0::x1::x18::x19::x0::x20 P::x21::x22::x23::WG::x7::x24 P::x0::x1::x25::x26::x0::x27 P::x28::x29::x30::WG::x7::x31 P::x0::x1::x32::x33::x0::x34 P::x35::x36::x37::WG::x7::x38 P::x0::x1::x39::x40::x0::x41 P::x42::x43::x44::WG::x7::x45 P::x0::x1::x46::x47::x0::x48 P::x49::x50::x51::WG::x7::x52 P::x0::x1::x53::x54::x0::x55 P::x56::x57::x58::WG::x7::x59 P::x0::x1::x60::x61::x0::x62 P::x63::x64::x65::x0::x7::x66 P::x0::x67::x68::x69::x0::x1::x70::x71::x72::x73::x74 P::x75::x76::x77::x78::x79::x0::x1::x80::x0::x81::x82::x83::[])) (.mk [] [] [] 0 [] [] false #[] [] 0 false false false 0 [2000,10,10] false 0 true [] [] 0 false)
theorem VZ(w:World)(os:OsState):segRun treeTable PySem.Challenge.pw_pebbletoll_k44_counted_by_trying w 11 (some (.ref 6)) 1 1977 (Shared.mk (hb w.params) (.mk []) (.mk 0 0 0 0) 187 os) (piecesOf st0 env cE (.mk 0 0 0 0) [topFrame (.mk 0 0 0 0)])=some (.next,(Shared.mk (h0 w.params) (.mk []) (.mk 0 0 0 0) 368 os),cE,(.mk 33 0 41 50)):=by kernel_rfl
def x84(P:Params):Obj:=(.mk (.type "dict") none (.dict #[(en P "__name__" 165 (.str "law_pebbletoll_k44_counted_by_trying" 872)),(en P "__doc__" 166 .none),(en P "__package__" 167 .none),(en P "__loader__" 168 (.builtin "__main__.__loader__#opaque")),(en P "__spec__" 169 .none),(en P "__annotations__" 170 (.ref 6)),(en P "__builtins__" 171 (.ref 4)),(en P "__file__" 173 (.str "/claim/cut.py" 172)),(en P "__cached__" 174 .none),(en P "TollError" 206 (.ref 24)),(en P "BadWeb" 222 (.ref 37)),(en P "NoPlace" 238 (.ref 49)),(en P "NoRoad" 254 (.ref 61)),(en P "BadLaying" 270 (.ref 73)),(en P "BadWish" 286 (.ref 85)),(en P "TooMany" 302 (.ref 97)),(en P "NoNumber" 318 (.ref 109)),(en P "MOST_PLACES" 322 (.int 24 321)),(en P "LEAST_TOLL" 324 (.int 2 323)),(en P "MOST_TOLL" 326 (.int 1000000 325)),(en P "Web" 354 (.ref 126)),(en P "toll" 367 (.ref 137)),(en P "neighbours" 375 (.ref 144)),(en P "check_place" 383 (.ref 151)),(en P "is_place" 391 (.ref 158)),(en P "check_counts" 399 (.ref 165)),(en P "check_ends" 407 (.ref 172)),(en P "check_tolls" 415 (.ref 179)),(en P "check_joined" 427 (.ref 186)),(en P "other_ends" 437 (.ref 193)),(en P "laying_of" 447 (.ref 200)),(en P "is_filled" 453 (.ref 205)),(en P "total" 460 (.ref 212)),(en P "ahead" 475 (.ref 219)),(en P "down" 488 (.ref 226)),(en P "kids" 494 (.ref 231)),(en P "inward" 500 (.ref 236)),(en P "gathered" 514 (.ref 243)),(en P "most" 523 (.ref 250)),(en P "borne" 535 (.ref 257)),(en P "bound_by" 548 (.ref 264)),(en P "check_wanted" 557 (.ref 271)),(en P "least_weights" 568 (.ref 278)),(en P "enough" 577 (.ref 285)),(en P "bearers" 589 (.ref 292)),(en P "is_heavy" 599 (.ref 299)),(en P "differences" 607 (.ref 304)),(en P "value_at" 619 (.ref 311)),(en P "first_values" 625 (.ref 316)),(en P "parted" 631 (.ref 321)),(en P "parted_at" 637 (.ref 326)),(en P "MOST_PEBBLES" 641 (.int 1000000000000 640)),(en P "is_worst" 653 (.ref 333)),(en P "worst_many" 662 (.ref 340)),(en P "worst_at" 673 (.ref 347)),(en P "worst_number" 683 (.ref 354)),(en P "check_told" 692 (.ref 361)),(en P "Tally" 724 (.ref 376)),(en P "rests_of" 730 (.ref 385)),(en P "is_free" 739 (.ref 392)),(en P "ways_of" 748 (.ref 399)),(en P "ways_given" 758 (.ref 406)),(en P "held_for" 768 (.ref 413)),(en P "laying_at" 781 (.ref 420)),(en P "handed_down" 797 (.ref 427)),(en P "given_by" 809 (.ref 434)),(en P "last_within" 821 (.ref 441)),(en P "ways_before" 832 (.ref 448)),(en P "course" 846 (.ref 455)),(en P "number_of" 856 (.ref 462)),(en P "number_beneath" 871 (.ref 469)),(en P "_law_cell" 881 (.ref 476)),(en P "_law_mixed" 890 (.ref 483)),(en P "_law_numbers" 901 (.ref 490)),(en P "_law_toll" 908 (.ref 497)),(en P "_law_web" 925 (.ref 504)),(en P "_law_tolls" 937 (.ref 511)),(en P "_law_down" 943 (.ref 516))] 78) #[])
def x85:Obj:=(.mk .none none (.fields (tF [(2,20),(4,33),(6,45),(8,57),(10,69),(12,81),(14,93),(16,105),(22,117),(33,136),(42,143),(45,150),(48,157),(50,164),(55,171),(60,178),(64,185),(75,192),(84,199),(88,204),(90,211),(93,218),(104,225),(114,230),(116,235),(120,242),(125,249),(128,256),(130,263),(136,270),(140,277),(145,284),(147,291),(154,298),(157,303),(164,310),(171,315),(173,320),(175,325),(179,332),(183,339),(186,346),(192,353),(197,360),(200,367),(211,384),(223,391),(225,398),(227,405),(229,412),(231,419),(240,426),(251,433),(258,440),(268,447),(272,454),(279,461),(284,468),(294,475),(298,482),(303,489),(313,496),(317,503),(340,510),(346,515)]).toArray) #[])
def x86:Obj:=(tS 371 ["web","a"])
def x87:Obj:=(fr "neighbours" (top 15))
def x88:Obj:=(cF "neighbours" 368 42 2 3 138 373)
def x89:Obj:=(fo "neighbours" (top 15) (.str "pebbletoll.webs" 319) (.ref 143))
def x90:Obj:=(tS 379 ["web","number"])
def x91:Obj:=(fr "check_place" (top 16))
def x92:Obj:=(cF "check_place" 376 45 2 3 145 381)
def x93:Obj:=(fo "check_place" (top 16) (.str "pebbletoll.webs" 319) (.ref 150))
def x94:Obj:=(tS 387 ["many","number"])
def x95:Obj:=(fr "is_place" (top 17))
def x96:Obj:=(cF "is_place" 384 48 2 3 152 389)
def x97:Obj:=(fo "is_place" (top 17) (.str "pebbletoll.webs" 319) (.ref 157))
def x98:Obj:=(tS 395 ["many","roads"])
def x99:Obj:=(fr "check_counts" (top 18))
def OH:Obj:=(cF "check_counts" 392 50 2 3 159 397)
def NH:Obj:=(fo "check_counts" (top 18) (.str "pebbletoll.webs" 319) (.ref 164))
def Ta:Obj:=(tS 403 ["many","road"])
def UT:Obj:=(fr "check_ends" (top 19))
def Py:Obj:=(cF "check_ends" 400 55 2 3 166 405)
def Pj:Obj:=(fo "check_ends" (top 19) (.str "pebbletoll.webs" 319) (.ref 171))
def Vs:Obj:=(tS 411 ["road","number"])
def UA:Obj:=(fr "check_tolls" (top 20))
def NU:Obj:=(cF "check_tolls" 408 60 1 3 173 413)
def QU:Obj:=(fo "check_tolls" (top 20) (.str "pebbletoll.webs" 319) (.ref 178))
def Tu:Obj:=(tS 419 ["many","roads","reached","waiting","place","end"])
def Ut:Obj:=(fr "check_joined" (top 21))
def ND:Obj:=(cF "check_joined" 416 64 2 3 180 425)
def Os:Obj:=(fo "check_joined" (top 21) (.str "pebbletoll.webs" 319) (.ref 185))
def SV:Obj:=(tS 431 ["roads","place","ends","road"])
def Si:Obj:=(fr "other_ends" (top 22))
def Nw:Obj:=(cF "other_ends" 428 75 2 3 187 435)
def PL:Obj:=(fo "other_ends" (top 22) (.str "pebbletoll.webs" 319) (.ref 192))
def SB:Obj:=(tS 443 ["web","numbers"])
def TY:Obj:=(fr "laying_of" (top 24))
def Oa:Obj:=(cF "laying_of" 440 84 2 3 194 445)
def OI:Obj:=(fo "laying_of" (top 24) (.str "pebbletoll.layings" 438) (.ref 199))
def Sr:Obj:=(fr "is_filled" (top 25))
def Of:Obj:=(cO "is_filled" "is_filled" 448 449 450 88 2 0 0 3 (.ref 201) true 181 (.ref 202) .none .none .none (.ref 203) 451 88 452)
def Qu:Obj:=(fo "is_filled" (top 25) (.str "pebbletoll.layings" 438) (.ref 204))
def Uj:Obj:=(tO #[(.str "numbers" 457)])
def Sz:Obj:=(fr "total" (top 26))
def Qz:Obj:=(cF "total" 454 90 1 3 206 458)
def Pw:Obj:=(fo "total" (top 26) (.str "pebbletoll.layings" 438) (.ref 211))
def Tp:Obj:=(tS 466 ["web","r","nearer","waiting","place","front","kid"])
def UC:Obj:=(fr "ahead" (top 28))
def Qo:Obj:=(cF "ahead" 463 93 2 3 213 473)
def QT:Obj:=(fo "ahead" (top 28) (.str "pebbletoll.ways" 461) (.ref 218))
def Ss:Obj:=(tS 479 ["web","r","nearer","places","waiting","place","kid"])
def TV:Obj:=(fr "down" (top 29))
def OT:Obj:=(cF "down" 476 104 2 3 220 486)
def Qe:Obj:=(fo "down" (top 29) (.str "pebbletoll.ways" 461) (.ref 225))
def Ti:Obj:=(fr "kids" (top 30))
def Oe:Obj:=(cO "kids" "kids" 489 490 491 114 3 0 0 3 (.ref 227) true 181 (.ref 228) .none .none .none (.ref 229) 492 114 493)
def QA:Obj:=(fo "kids" (top 30) (.str "pebbletoll.ways" 461) (.ref 230))
def Sq:Obj:=(fr "inward" (top 31))
def P7:Obj:=(cO "inward" "inward" 495 496 497 116 2 0 0 3 (.ref 232) true 181 (.ref 233) .none .none .none (.ref 234) 498 116 499)
def Qm:Obj:=(fo "inward" (top 31) (.str "pebbletoll.ways" 461) (.ref 235))
def SZ:Obj:=(tS 506 ["web","laying","r","counts","place","front"])
def UI:Obj:=(fr "gathered" (top 33))
def Pe:Obj:=(cF "gathered" 503 120 3 3 237 512)
def NQ:Obj:=(fo "gathered" (top 33) (.str "pebbletoll.bringing" 501) (.ref 242))
def SU:Obj:=(tS 518 ["web","laying","r"])
def UJ:Obj:=(fr "most" (top 34))
def Qt:Obj:=(cF "most" 515 125 3 3 244 521)
def OY:Obj:=(fo "most" (top 34) (.str "pebbletoll.bringing" 501) (.ref 249))
def U5:Obj:=(tS 529 ["web","weights","place","front"])
def Sv:Obj:=(fr "borne" (top 36))
def NA:Obj:=(cF "borne" 526 128 4 3 251 533)
def QO:Obj:=(fo "borne" (top 36) (.str "pebbletoll.enough" 524) (.ref 256))
def U4:Obj:=(tS 539 ["web","r","wanted","weights","bound","place","front"])
def Va:Obj:=(fr "bound_by" (top 37))
def NV:Obj:=(cF "bound_by" 536 130 4 3 258 546)
def Pp:Obj:=(fo "bound_by" (top 37) (.str "pebbletoll.enough" 524) (.ref 263))
def TL:Obj:=(tS 552 ["web","r","wanted"])
def Uf:Obj:=(fr "check_wanted" (top 38))
def OX:Obj:=(cF "check_wanted" 549 136 3 3 265 555)
def Qp:Obj:=(fo "check_wanted" (top 38) (.str "pebbletoll.enough" 524) (.ref 270))
def S7:Obj:=(tS 561 ["web","r","weights","place","front"])
def TX:Obj:=(fr "least_weights" (top 39))
def PV:Obj:=(cF "least_weights" 558 140 2 3 272 566)
def P6:Obj:=(fo "least_weights" (top 39) (.str "pebbletoll.enough" 524) (.ref 277))
def S6:Obj:=(tS 572 ["web","r","wanted"])
def TB:Obj:=(fr "enough" (top 40))
def QV:Obj:=(cF "enough" 569 145 3 3 279 575)
def O5:Obj:=(fo "enough" (top 40) (.str "pebbletoll.enough" 524) (.ref 284))
def Vl:Obj:=(tS 581 ["web","r","weights","chosen","place","front"])
def T3:Obj:=(fr "bearers" (top 41))
def Qw:Obj:=(cF "bearers" 578 147 2 3 286 587)
def Qr:Obj:=(fo "bearers" (top 41) (.str "pebbletoll.enough" 524) (.ref 291))
def Sl:Obj:=(tS 593 ["web","weights","place","front"])
def SQ:Obj:=(fr "is_heavy" (top 42))
def Qb:Obj:=(cF "is_heavy" 590 154 4 3 293 597)
def NT:Obj:=(fo "is_heavy" (top 42) (.str "pebbletoll.enough" 524) (.ref 298))
def So:Obj:=(fr "differences" (top 44))
def PY:Obj:=(cO "differences" "differences" 602 603 604 157 1 0 0 3 (.ref 300) true 181 (.ref 301) .none .none .none (.ref 302) 605 157 606)
def O6:Obj:=(fo "differences" (top 44) (.str "pebbletoll.polynomials" 600) (.ref 303))
def UZ:Obj:=(tS 611 ["found","at","value","choices","k","difference"])
def Uw:Obj:=(fr "value_at" (top 45))
def QX:Obj:=(cF "value_at" 608 164 2 3 305 617)
def PQ:Obj:=(fo "value_at" (top 45) (.str "pebbletoll.polynomials" 600) (.ref 310))
def S8:Obj:=(fr "first_values" (top 46))
def Qy:Obj:=(cO "first_values" "first_values" 620 621 622 171 2 0 0 3 (.ref 312) true 181 (.ref 313) .none .none .none (.ref 314) 623 171 624)
def OF:Obj:=(fo "first_values" (top 46) (.str "pebbletoll.polynomials" 600) (.ref 315))
def U1:Obj:=(fr "parted" (top 47))
def QR:Obj:=(cO "parted" "parted" 626 627 628 173 2 0 0 3 (.ref 317) true 181 (.ref 318) .none .none .none (.ref 319) 629 173 630)
def Pq:Obj:=(fo "parted" (top 47) (.str "pebbletoll.polynomials" 600) (.ref 320))
def Vf:Obj:=(fr "parted_at" (top 48))
def Oj:Obj:=(cO "parted_at" "parted_at" 632 633 634 175 3 0 0 3 (.ref 322) true 181 (.ref 323) .none .none .none (.ref 324) 635 175 636)
def Q0:Obj:=(fo "parted_at" (top 48) (.str "pebbletoll.polynomials" 600) (.ref 325))
def UH:Obj:=(tS 645 ["web","r","wanted","laying","least","counts"])
def TF:Obj:=(fr "is_worst" (top 51))
def Oi:Obj:=(cF "is_worst" 642 179 4 3 327 651)
def Oc:Obj:=(fo "is_worst" (top 51) (.str "pebbletoll.worsts" 638) (.ref 332))
def SL:Obj:=(tS 657 ["web","r","wanted"])
def SR:Obj:=(fr "worst_many" (top 52))
def PK:Obj:=(cF "worst_many" 654 183 3 3 334 660)
def O3:Obj:=(fo "worst_many" (top 52) (.str "pebbletoll.worsts" 638) (.ref 339))
def Tk:Obj:=(tS 666 ["web","r","wanted","number","tally"])
def Ub:Obj:=(fr "worst_at" (top 53))
def Nu:Obj:=(cF "worst_at" 663 186 4 3 341 671)
def NK:Obj:=(fo "worst_at" (top 53) (.str "pebbletoll.worsts" 638) (.ref 346))
def Sm:Obj:=(tS 677 ["web","r","wanted","laying"])
def To:Obj:=(fr "worst_number" (top 54))
def Pt:Obj:=(cF "worst_number" 674 192 4 3 348 681)
def OP:Obj:=(fo "worst_number" (top 54) (.str "pebbletoll.worsts" 638) (.ref 353))
def Um:Obj:=(tS 687 ["web","r","wanted"])
def TZ:Obj:=(fr "check_told" (top 55))
def P3:Obj:=(cF "check_told" 684 197 3 3 355 690)
def Nx:Obj:=(fo "check_told" (top 55) (.str "pebbletoll.worsts" 638) (.ref 360))
def Th(P:Params):Obj:=(.mk (.type "dict") none (.dict #[(en P "__module__" 700 (.str "pebbletoll.worsts" 638)),(en P "__qualname__" 702 (.str "Tally" 701)),(en P "__firstlineno__" 704 (.int 200 703)),(en P "__init__" 710 (.ref 373)),(en P "__static_attributes__" 717 (.ref 374))] 5) #[])
def Su:Obj:=(.mk .none none (.fields #[(.int 202 0),(.int 4 0),(.ref 372)]) #[])
def Ul:Obj:=(cO "Tally" "Tally" 695 696 697 200 0 0 0 0 (.ref 365) false 181 (.ref 366) .none .none .none .none 698 200 699)
def UR:Obj:=(.mk (.type "frame") none .plain #[(some (.ref 367)),(some (.ref 3)),(some (.ref 364)),none,(some (.str "pebbletoll.worsts" 638)),none,(some (.ref 0))])
def TM:Obj:=(fR "__init__" "Tally.__init__" (inC (top 56) 0))
def Pl:Obj:=(cO "__init__" "Tally.__init__" 705 706 707 202 3 0 0 3 (.ref 369) true 181 (.ref 370) .none .none .none (.ref 371) 708 202 709)
def QL:Obj:=(fO "__init__" "Tally.__init__" (inC (top 56) 0) (.str "pebbletoll.worsts" 638) (.ref 372))
def Uv:Obj:=(tS 711 ["bearers","down","kids","rests","web","weights"])
def PN(P:Params):Obj:=(.mk (.type "dict") none (.dict #[(en P "__module__" 700 (.str "pebbletoll.worsts" 638)),(en P "__firstlineno__" 704 (.int 200 703)),(en P "__init__" 710 (.ref 373)),(en P "__static_attributes__" 717 (.ref 374)),(en P "__dict__" 719 (.ref 377)),(en P "__weakref__" 721 (.ref 378)),(en P "__doc__" 722 .none)] 4) #[])
def Pr:Obj:=(.mk (.type "type") none (.cls (.mk "Tally" [(.type "object")] [(.ref 376),(.type "object")] 375 "Tally" true [] [] false none false)) #[none,none,(some (.str "Tally" 693)),(some (.str "Tally" 701)),(some (.builtin "object.__new__")),(some (.bool true))])
def No:Obj:=(.mk (.type "getset_descriptor") none (.fields #[(.str "__dict__" 718),(.ref 376),(.builtin "function.__dict__"),(.builtin "function.__dict__#set")]) #[])
def Ou:Obj:=(.mk (.type "getset_descriptor") none (.fields #[(.str "__weakref__" 720),(.ref 376),(.builtin "ExceptionGroup.__weakref__"),.none]) #[])
def U9:Obj:=(.mk (.type "super") none (.fields #[(.ref 376),(.ref 376),(.ref 376)]) #[])
def Tx:Obj:=(.mk (.type "builtin_function_or_method") none (.fields #[(.builtin "object.__init_subclass__"),(.ref 376)]) #[])
def Uq:Obj:=(fr "rests_of" (top 57))
def Ov:Obj:=(cO "rests_of" "rests_of" 725 726 727 211 2 0 0 3 (.ref 381) true 181 (.ref 382) .none .none .none (.ref 383) 728 211 729)
def NF:Obj:=(fo "rests_of" (top 57) (.str "pebbletoll.worsts" 638) (.ref 384))
def Vc:Obj:=(tS 734 ["tally","place","kid"])
def Vr:Obj:=(fr "is_free" (top 58))
def Ng:Obj:=(cF "is_free" 731 223 3 3 386 737)
def On:Obj:=(fo "is_free" (top 58) (.str "pebbletoll.worsts" 638) (.ref 391))
def SE:Obj:=(tS 743 ["tally","place","held"])
def Uy:Obj:=(fr "ways_of" (top 59))
def Qc:Obj:=(cF "ways_of" 740 225 3 3 393 746)
def QS:Obj:=(fo "ways_of" (top 59) (.str "pebbletoll.worsts" 638) (.ref 398))
def Vj:Obj:=(tS 752 ["tally","place","kid","given"])
def UD:Obj:=(fr "ways_given" (top 60))
def OG:Obj:=(cF "ways_given" 749 227 4 3 400 756)
def Nz:Obj:=(fo "ways_given" (top 60) (.str "pebbletoll.worsts" 638) (.ref 405))
def TQ:Obj:=(tS 762 ["tally","place","kid","given"])
def UO:Obj:=(fr "held_for" (top 61))
def Px:Obj:=(cF "held_for" 759 229 4 3 407 766)
def Qh:Obj:=(fo "held_for" (top 61) (.str "pebbletoll.worsts" 638) (.ref 412))
def Te:Obj:=(tS 772 ["tally","held","number","counts","waiting","place","own"])
def SN:Obj:=(fr "laying_at" (top 62))
def Qj:Obj:=(cF "laying_at" 769 231 3 3 414 779)
def Q1:Obj:=(fo "laying_at" (top 62) (.str "pebbletoll.worsts" 638) (.ref 419))
def SC:Obj:=(tS 785 ["tally","place","held","number","found","left","at","kid","given","ways_behind"])
def US:Obj:=(fr "handed_down" (top 63))
def Q2:Obj:=(cF "handed_down" 782 240 4 3 421 795)
def Ni:Obj:=(fo "handed_down" (top 63) (.str "pebbletoll.worsts" 638) (.ref 426))
def Ud:Obj:=(tS 801 ["tally","place","at","left","number","kid"])
def Tt:Obj:=(fr "given_by" (top 64))
def Ps:Obj:=(cF "given_by" 798 251 5 3 428 807)
def Nh:Obj:=(fo "given_by" (top 64) (.str "pebbletoll.worsts" 638) (.ref 433))
def Vq:Obj:=(tS 813 ["before","top","number","low","high","middle"])
def Ua:Obj:=(fr "last_within" (top 65))
def Pc:Obj:=(cF "last_within" 810 258 3 3 435 819)
def Pm:Obj:=(fo "last_within" (top 65) (.str "pebbletoll.worsts" 638) (.ref 440))
def Ux:Obj:=(tS 825 ["tally","place","at","left","given"])
def SJ:Obj:=(fr "ways_before" (top 66))
def Qg:Obj:=(cF "ways_before" 822 268 5 3 442 830)
def PM:Obj:=(fo "ways_before" (top 66) (.str "pebbletoll.worsts" 638) (.ref 447))
def Vn:Obj:=(tS 836 ["tally","place","at","left","kid","before","given","ways_behind"])
def Sj:Obj:=(fr "course" (top 67))
def Pi:Obj:=(cF "course" 833 272 4 3 449 844)
def Pa:Obj:=(fo "course" (top 67) (.str "pebbletoll.worsts" 638) (.ref 454))
def Vh:Obj:=(tS 850 ["tally","held","numbers","place"])
def UL:Obj:=(fr "number_of" (top 68))
def Ox:Obj:=(cF "number_of" 847 279 2 3 456 854)
def Om:Obj:=(fo "number_of" (top 68) (.str "pebbletoll.worsts" 638) (.ref 461))
def UK:Obj:=(tS 860 ["tally","place","held","numbers","number","left","at","kid","given"])
def U3:Obj:=(fr "number_beneath" (top 69))
def NB:Obj:=(cF "number_beneath" 857 284 4 3 463 869)
def OB:Obj:=(fo "number_beneath" (top 69) (.str "pebbletoll.worsts" 638) (.ref 468))
def Uc:Obj:=(tS 877 ["script","k"])
def UM:Obj:=(fr "_law_cell" (top 71))
def QW:Obj:=(cF "_law_cell" 874 294 2 3 470 879)
def Qk:Obj:=(fo "_law_cell" (top 71) (.str "law_pebbletoll_k44_counted_by_trying" 872) (.ref 475))
def UU:Obj:=(tS 885 ["cell","k","m"])
def S9:Obj:=(fr "_law_mixed" (top 72))
def NZ:Obj:=(cF "_law_mixed" 882 298 2 3 477 888)
def Qa:Obj:=(fo "_law_mixed" (top 72) (.str "law_pebbletoll_k44_counted_by_trying" 872) (.ref 482))
def SD:Obj:=(tS 894 ["script","many","rest","numbers","k"])
def U0:Obj:=(fr "_law_numbers" (top 73))
def QK:Obj:=(cF "_law_numbers" 891 303 2 3 484 899)
def Ol:Obj:=(fo "_law_numbers" (top 73) (.str "law_pebbletoll_k44_counted_by_trying" 872) (.ref 489))
def TN:Obj:=(tO #[(.str "rest" 905)])
def TK:Obj:=(fr "_law_toll" (top 74))
def PH:Obj:=(cF "_law_toll" 902 313 1 3 491 906)
def OL:Obj:=(fo "_law_toll" (top 74) (.str "law_pebbletoll_k44_counted_by_trying" 872) (.ref 496))
def UG:Obj:=(tS 912 ["numbers","head","many","names","k","roads","rest","near","there","back","road"])
def UW:Obj:=(fr "_law_web" (top 75))
def Oz:Obj:=(cF "_law_web" 909 317 1 3 498 923)
def QB:Obj:=(fo "_law_web" (top 75) (.str "law_pebbletoll_k44_counted_by_trying" 872) (.ref 503))
def TJ:Obj:=(tS 929 ["roads","tolls","one","other","there","back"])
def UV:Obj:=(fr "_law_tolls" (top 76))
def Qd:Obj:=(cF "_law_tolls" 926 340 1 3 505 935)
def PX:Obj:=(fo "_law_tolls" (top 76) (.str "law_pebbletoll_k44_counted_by_trying" 872) (.ref 510))
def U8:Obj:=(fr "_law_down" (top 77))
def Po:Obj:=(cO "_law_down" "_law_down" 938 939 940 346 3 0 0 3 (.ref 512) true 181 (.ref 513) .none .none .none (.ref 514) 941 346 942)
def P0:Obj:=(fo "_law_down" (top 77) (.str "law_pebbletoll_k44_counted_by_trying" 872) (.ref 515))
noncomputable def h1(P:Params):Heap:=.mk (.mk (boot_o_0 P::boot_o_1 P::boot_o_2 P::x84 P::boot_o_4 P::boot_o_5 P::boot_o_6 P::boot_o_7 P::boot_o_8 P::boot_o_9 P::boot_o_10 P::x0::x85::x2::x3::x6::x7::x8 P::x0::x1::x9::x10::x0::x11 P::x12::x13::x14::x15::WG::x7::x17 P::x0::x1::x18::x19::x0::x20 P::x21::x22::x23::WG::x7::x24 P::x0::x1::x25::x26::x0::x27 P::x28::x29::x30::WG::x7::x31 P::x0::x1::x32::x33::x0::x34 P::x35::x36::x37::WG::x7::x38 P::x0::x1::x39::x40::x0::x41 P::x42::x43::x44::WG::x7::x45 P::x0::x1::x46::x47::x0::x48 P::x49::x50::x51::WG::x7::x52 P::x0::x1::x53::x54::x0::x55 P::x56::x57::x58::WG::x7::x59 P::x0::x1::x60::x61::x0::x62 P::x63::x64::x65::x0::x7::x66 P::x0::x67::x68::x69::x0::x1::x70::x71::x72::x73::x74 P::x75::x76::x77::x78::x79::x0::x1::x80::x0::x81::x82::x83::x0::x1::x86::x0::x87::x88::x89::x0::x1::x90::x0::x91::x92::x93::x0::x1::x94::x0::x95::x96::x97::x0::x1::x98::x0::x99::OH::NH::x0::x1::Ta::x0::UT::Py::Pj::x0::x1::Vs::x0::UA::NU::QU::x0::x1::Tu::x0::Ut::ND::Os::x0::x1::SV::x0::Si::Nw::PL::x0::x1::SB::x0::TY::Oa::OI::x0::x1::Sr::Of::Qu::x0::x1::Uj::x0::Sz::Qz::Pw::x0::x1::Tp::x0::UC::Qo::QT::x0::x1::Ss::x0::TV::OT::Qe::x0::x1::Ti::Oe::QA::x0::x1::Sq::P7::Qm::x0::x1::SZ::x0::UI::Pe::NQ::x0::x1::SU::x0::UJ::Qt::OY::x0::x1::U5::x0::Sv::NA::QO::x0::x1::U4::x0::Va::NV::Pp::x0::x1::TL::x0::Uf::OX::Qp::x0::x1::S7::x0::TX::PV::P6::x0::x1::S6::x0::TB::QV::O5::x0::x1::Vl::x0::T3::Qw::Qr::x0::x1::Sl::x0::SQ::Qb::NT::x0::x1::So::PY::O6::x0::x1::UZ::x0::Uw::QX::PQ::x0::x1::S8::Qy::OF::x0::x1::U1::QR::Pq::x0::x1::Vf::Oj::Q0::x0::x1::UH::x0::TF::Oi::Oc::x0::x1::SL::x0::SR::PK::O3::x0::x1::Tk::x0::Ub::Nu::NK::x0::x1::Sm::x0::To::Pt::OP::x0::x1::Um::x0::TZ::P3::Nx::x0::x7::Th P::x0::Su::Ul::UR::x0::x1::TM::Pl::QL::Uv::PN P::Pr::No::Ou::U9::Tx::x0::x1::Uq::Ov::NF::x0::x1::Vc::x0::Vr::Ng::On::x0::x1::SE::x0::Uy::Qc::QS::x0::x1::Vj::x0::UD::OG::Nz::x0::x1::TQ::x0::UO::Px::Qh::x0::x1::Te::x0::SN::Qj::Q1::x0::x1::SC::x0::US::Q2::Ni::x0::x1::Ud::x0::Tt::Ps::Nh::x0::x1::Vq::x0::Ua::Pc::Pm::x0::x1::Ux::x0::SJ::Qg::PM::x0::x1::Vn::x0::Sj::Pi::Pa::x0::x1::Vh::x0::UL::Ox::Om::x0::x1::UK::x0::U3::NB::OB::x0::x1::Uc::x0::UM::QW::Qk::x0::x1::UU::x0::S9::NZ::Qa::x0::x1::SD::x0::U0::QK::Ol::x0::x1::TN::x0::TK::PH::OL::x0::x1::UG::x0::UW::Oz::QB::x0::x1::TJ::x0::UV::Qd::PX::x0::x1::U8::Po::P0::[])) (.mk [] [] [] 0 [] [] false #[] [] 0 false false false 0 [2000,10,10] false 0 true [] [] 0 false)
theorem VY(w:World)(os:OsState):segRun treeTable PySem.Challenge.pw_pebbletoll_k44_counted_by_trying w 11 (some (.ref 6)) 1 1994 (Shared.mk (h0 w.params) (.mk []) (.mk 0 0 0 0) 368 os) (piecesOf st1 env cE (.mk 33 0 41 50) [topFrame (.mk 0 0 0 0)])=some (.next,(Shared.mk (h1 w.params) (.mk []) (.mk 0 0 0 0) 944 os),cE,(.mk 346 0 353 16)):=by kernel_rfl
def SA(P:Params):Obj:=(.mk (.type "dict") none (.dict #[(en P "__name__" 165 (.str "law_pebbletoll_k44_counted_by_trying" 872)),(en P "__doc__" 166 .none),(en P "__package__" 167 .none),(en P "__loader__" 168 (.builtin "__main__.__loader__#opaque")),(en P "__spec__" 169 .none),(en P "__annotations__" 170 (.ref 6)),(en P "__builtins__" 171 (.ref 4)),(en P "__file__" 173 (.str "/claim/cut.py" 172)),(en P "__cached__" 174 .none),(en P "TollError" 206 (.ref 24)),(en P "BadWeb" 222 (.ref 37)),(en P "NoPlace" 238 (.ref 49)),(en P "NoRoad" 254 (.ref 61)),(en P "BadLaying" 270 (.ref 73)),(en P "BadWish" 286 (.ref 85)),(en P "TooMany" 302 (.ref 97)),(en P "NoNumber" 318 (.ref 109)),(en P "MOST_PLACES" 322 (.int 24 321)),(en P "LEAST_TOLL" 324 (.int 2 323)),(en P "MOST_TOLL" 326 (.int 1000000 325)),(en P "Web" 354 (.ref 126)),(en P "toll" 367 (.ref 137)),(en P "neighbours" 375 (.ref 144)),(en P "check_place" 383 (.ref 151)),(en P "is_place" 391 (.ref 158)),(en P "check_counts" 399 (.ref 165)),(en P "check_ends" 407 (.ref 172)),(en P "check_tolls" 415 (.ref 179)),(en P "check_joined" 427 (.ref 186)),(en P "other_ends" 437 (.ref 193)),(en P "laying_of" 447 (.ref 200)),(en P "is_filled" 453 (.ref 205)),(en P "total" 460 (.ref 212)),(en P "ahead" 475 (.ref 219)),(en P "down" 488 (.ref 226)),(en P "kids" 494 (.ref 231)),(en P "inward" 500 (.ref 236)),(en P "gathered" 514 (.ref 243)),(en P "most" 523 (.ref 250)),(en P "borne" 535 (.ref 257)),(en P "bound_by" 548 (.ref 264)),(en P "check_wanted" 557 (.ref 271)),(en P "least_weights" 568 (.ref 278)),(en P "enough" 577 (.ref 285)),(en P "bearers" 589 (.ref 292)),(en P "is_heavy" 599 (.ref 299)),(en P "differences" 607 (.ref 304)),(en P "value_at" 619 (.ref 311)),(en P "first_values" 625 (.ref 316)),(en P "parted" 631 (.ref 321)),(en P "parted_at" 637 (.ref 326)),(en P "MOST_PEBBLES" 641 (.int 1000000000000 640)),(en P "is_worst" 653 (.ref 333)),(en P "worst_many" 662 (.ref 340)),(en P "worst_at" 673 (.ref 347)),(en P "worst_number" 683 (.ref 354)),(en P "check_told" 692 (.ref 361)),(en P "Tally" 724 (.ref 376)),(en P "rests_of" 730 (.ref 385)),(en P "is_free" 739 (.ref 392)),(en P "ways_of" 748 (.ref 399)),(en P "ways_given" 758 (.ref 406)),(en P "held_for" 768 (.ref 413)),(en P "laying_at" 781 (.ref 420)),(en P "handed_down" 797 (.ref 427)),(en P "given_by" 809 (.ref 434)),(en P "last_within" 821 (.ref 441)),(en P "ways_before" 832 (.ref 448)),(en P "course" 846 (.ref 455)),(en P "number_of" 856 (.ref 462)),(en P "number_beneath" 871 (.ref 469)),(en P "_law_cell" 881 (.ref 476)),(en P "_law_mixed" 890 (.ref 483)),(en P "_law_numbers" 901 (.ref 490)),(en P "_law_toll" 908 (.ref 497)),(en P "_law_web" 925 (.ref 504)),(en P "_law_tolls" 937 (.ref 511)),(en P "_law_down" 943 (.ref 516)),(en P "_law_load" 955 (.ref 523)),(en P "_law_whole" 962 (.ref 530)),(en P "_law_rows_down" 968 (.ref 535)),(en P "_law_small" 983 (.ref 542)),(en P "_law_layings" 989 (.ref 547)),(en P "_law_due" 995 (.ref 552)),(en P "law" 1001 (.ref 557))] 85) #[])
def VO:Obj:=(.mk .none none (.fields (tF [(2,20),(4,33),(6,45),(8,57),(10,69),(12,81),(14,93),(16,105),(22,117),(33,136),(42,143),(45,150),(48,157),(50,164),(55,171),(60,178),(64,185),(75,192),(84,199),(88,204),(90,211),(93,218),(104,225),(114,230),(116,235),(120,242),(125,249),(128,256),(130,263),(136,270),(140,277),(145,284),(147,291),(154,298),(157,303),(164,310),(171,315),(173,320),(175,325),(179,332),(183,339),(186,346),(192,353),(197,360),(200,367),(211,384),(223,391),(225,398),(227,405),(229,412),(231,419),(240,426),(251,433),(258,440),(268,447),(272,454),(279,461),(284,468),(294,475),(298,482),(303,489),(313,496),(317,503),(340,510),(346,515),(354,522),(360,529),(362,534),(371,541),(378,546),(386,551),(394,556)]).toArray) #[])
def VX:Obj:=(tS 947 ["tolls","order","laying","have","place","near"])
def V3:Obj:=(fr "_law_load" (top 78))
def Tq:Obj:=(cF "_law_load" 944 354 3 3 517 953)
def TW:Obj:=(fo "_law_load" (top 78) (.str "law_pebbletoll_k44_counted_by_trying" 872) (.ref 522))
def VR:Obj:=(tO #[(.str "found" 959)])
def VM:Obj:=(fr "_law_whole" (top 79))
def Tg:Obj:=(cF "_law_whole" 956 360 1 3 524 960)
def Tl:Obj:=(fo "_law_whole" (top 79) (.str "law_pebbletoll_k44_counted_by_trying" 872) (.ref 529))
def V6:Obj:=(fr "_law_rows_down" (top 80))
def Tf:Obj:=(cO "_law_rows_down" "_law_rows_down" 963 964 965 362 1 0 0 3 (.ref 531) true 181 (.ref 532) .none .none .none (.ref 533) 966 362 967)
def S3:Obj:=(fo "_law_rows_down" (top 80) (.str "law_pebbletoll_k44_counted_by_trying" 872) (.ref 534))
def V5:Obj:=(tS 972 ["numbers","head","many","roads","told","one","other","there","back"])
def V9:Obj:=(fr "_law_small" (top 81))
def SI:Obj:=(cF "_law_small" 969 371 1 3 536 981)
def UY:Obj:=(fo "_law_small" (top 81) (.str "law_pebbletoll_k44_counted_by_trying" 872) (.ref 541))
def VU:Obj:=(fr "_law_layings" (top 82))
def Sn:Obj:=(cO "_law_layings" "_law_layings" 984 985 986 378 2 0 0 3 (.ref 543) true 181 (.ref 544) .none .none .none (.ref 545) 987 378 988)
def Vg:Obj:=(fo "_law_layings" (top 82) (.str "law_pebbletoll_k44_counted_by_trying" 872) (.ref 546))
def V2:Obj:=(fr "_law_due" (top 83))
def SH:Obj:=(cO "_law_due" "_law_due" 990 991 992 386 5 0 0 3 (.ref 548) true 181 (.ref 549) .none .none .none (.ref 550) 993 386 994)
def Vo:Obj:=(fo "_law_due" (top 83) (.str "law_pebbletoll_k44_counted_by_trying" 872) (.ref 551))
def VS:Obj:=(fr "law" (top 84))
def Sy:Obj:=(cO "law" "law" 996 997 998 394 1 0 0 3 (.ref 553) true 181 (.ref 554) .none .none .none (.ref 555) 999 394 1000)
def SW:Obj:=(fo "law" (top 84) (.str "law_pebbletoll_k44_counted_by_trying" 872) (.ref 556))
noncomputable def h2(P:Params):Heap:=.mk (.mk (boot_o_0 P::boot_o_1 P::boot_o_2 P::SA P::boot_o_4 P::boot_o_5 P::boot_o_6 P::boot_o_7 P::boot_o_8 P::boot_o_9 P::boot_o_10 P::x0::VO::x2::x3::x6::x7::x8 P::x0::x1::x9::x10::x0::x11 P::x12::x13::x14::x15::WG::x7::x17 P::x0::x1::x18::x19::x0::x20 P::x21::x22::x23::WG::x7::x24 P::x0::x1::x25::x26::x0::x27 P::x28::x29::x30::WG::x7::x31 P::x0::x1::x32::x33::x0::x34 P::x35::x36::x37::WG::x7::x38 P::x0::x1::x39::x40::x0::x41 P::x42::x43::x44::WG::x7::x45 P::x0::x1::x46::x47::x0::x48 P::x49::x50::x51::WG::x7::x52 P::x0::x1::x53::x54::x0::x55 P::x56::x57::x58::WG::x7::x59 P::x0::x1::x60::x61::x0::x62 P::x63::x64::x65::x0::x7::x66 P::x0::x67::x68::x69::x0::x1::x70::x71::x72::x73::x74 P::x75::x76::x77::x78::x79::x0::x1::x80::x0::x81::x82::x83::x0::x1::x86::x0::x87::x88::x89::x0::x1::x90::x0::x91::x92::x93::x0::x1::x94::x0::x95::x96::x97::x0::x1::x98::x0::x99::OH::NH::x0::x1::Ta::x0::UT::Py::Pj::x0::x1::Vs::x0::UA::NU::QU::x0::x1::Tu::x0::Ut::ND::Os::x0::x1::SV::x0::Si::Nw::PL::x0::x1::SB::x0::TY::Oa::OI::x0::x1::Sr::Of::Qu::x0::x1::Uj::x0::Sz::Qz::Pw::x0::x1::Tp::x0::UC::Qo::QT::x0::x1::Ss::x0::TV::OT::Qe::x0::x1::Ti::Oe::QA::x0::x1::Sq::P7::Qm::x0::x1::SZ::x0::UI::Pe::NQ::x0::x1::SU::x0::UJ::Qt::OY::x0::x1::U5::x0::Sv::NA::QO::x0::x1::U4::x0::Va::NV::Pp::x0::x1::TL::x0::Uf::OX::Qp::x0::x1::S7::x0::TX::PV::P6::x0::x1::S6::x0::TB::QV::O5::x0::x1::Vl::x0::T3::Qw::Qr::x0::x1::Sl::x0::SQ::Qb::NT::x0::x1::So::PY::O6::x0::x1::UZ::x0::Uw::QX::PQ::x0::x1::S8::Qy::OF::x0::x1::U1::QR::Pq::x0::x1::Vf::Oj::Q0::x0::x1::UH::x0::TF::Oi::Oc::x0::x1::SL::x0::SR::PK::O3::x0::x1::Tk::x0::Ub::Nu::NK::x0::x1::Sm::x0::To::Pt::OP::x0::x1::Um::x0::TZ::P3::Nx::x0::x7::Th P::x0::Su::Ul::UR::x0::x1::TM::Pl::QL::Uv::PN P::Pr::No::Ou::U9::Tx::x0::x1::Uq::Ov::NF::x0::x1::Vc::x0::Vr::Ng::On::x0::x1::SE::x0::Uy::Qc::QS::x0::x1::Vj::x0::UD::OG::Nz::x0::x1::TQ::x0::UO::Px::Qh::x0::x1::Te::x0::SN::Qj::Q1::x0::x1::SC::x0::US::Q2::Ni::x0::x1::Ud::x0::Tt::Ps::Nh::x0::x1::Vq::x0::Ua::Pc::Pm::x0::x1::Ux::x0::SJ::Qg::PM::x0::x1::Vn::x0::Sj::Pi::Pa::x0::x1::Vh::x0::UL::Ox::Om::x0::x1::UK::x0::U3::NB::OB::x0::x1::Uc::x0::UM::QW::Qk::x0::x1::UU::x0::S9::NZ::Qa::x0::x1::SD::x0::U0::QK::Ol::x0::x1::TN::x0::TK::PH::OL::x0::x1::UG::x0::UW::Oz::QB::x0::x1::TJ::x0::UV::Qd::PX::x0::x1::U8::Po::P0::x0::x1::VX::x0::V3::Tq::TW::x0::x1::VR::x0::VM::Tg::Tl::x0::x1::V6::Tf::S3::x0::x1::V5::x0::V9::SI::UY::x0::x1::VU::Sn::Vg::x0::x1::V2::SH::Vo::x0::x1::VS::Sy::SW::[])) (.mk [] [] [] 0 [] [] false #[] [] 0 false false false 0 [2000,10,10] false 0 true [] [] 0 false)
theorem V1(w:World)(os:OsState):segRun treeTable PySem.Challenge.pw_pebbletoll_k44_counted_by_trying w 11 (some (.ref 6)) 1 205 (Shared.mk (h1 w.params) (.mk []) (.mk 0 0 0 0) 944 os) (piecesOf YG env cE (.mk 346 0 353 16) [topFrame (.mk 0 0 0 0)])=some (.next,(Shared.mk (h2 w.params) (.mk []) (.mk 0 0 0 0) 1002 os),cE,(.mk 394 0 423 15)):=by kernel_rfl
noncomputable def hf(P:Params):Heap:=h2 P
theorem Wa(w:World)(os:OsState):topRun treeTable PySem.Challenge.pw_pebbletoll_k44_counted_by_trying w 11 (some (.ref 6)) 2 (Shared.mk (h2 w.params) (.mk []) (.mk 0 0 0 0) 1002 os) (restOf [] env cE (.mk 394 0 423 15) [topFrame (.mk 0 0 0 0)])=some (Shared.mk (hf w.params) (.mk []) (.mk 0 0 0 0) 1002 os):=by kernel_rfl
theorem run(w:World)(os:OsState):topRun treeTable PySem.Challenge.pw_pebbletoll_k44_counted_by_trying w 11 (some (.ref 6)) (12+(1+(1977+(1994+(205+(2)))))) (Shared.mk (boot_heap w.params) (.mk []) boot_drawn boot_toks os) (topStub PySem.Challenge.pw_pebbletoll_k44_counted_by_trying)=some (Shared.mk (hf w.params) (.mk []) (.mk 0 0 0 0) 1002 os):=go_top (VW w os) (piece_block (V0 w os) (piece_app (VZ w os) (piece_app (VY w os) (piece_app (V1 w os) (Wa w os)))))
theorem opn:∀w:World,(fencedOpening treeTable PySem.Challenge.pw_pebbletoll_k44_counted_by_trying w 8472).map (λs=>(s.heap,s.gens,s.drawn,s.toks))=some (boot_heap w.params,Array.mk [],boot_drawn,boot_toks):=boot_open (by kernel_rfl) (by decide) λs=>by kernel_rfl
theorem siz(w:World):((boot_heap w.params).isNs mainGlobals&&(Array.mk ([]:List GenState)).size==0,(boot_heap w.params).objs.size,(boot_heap w.params).nsMap mainGlobals "__annotations__")=(true,11,(some (.ref 6))):=by kernel_rfl
noncomputable def KK:Params->Frag:=λP=>
 (nat_lit 2,boot_o_2 P)::(nat_lit 3,SA P)::(nat_lit 23,x11 P)::(nat_lit 24,x12)::(nat_lit 25,x13)::(nat_lit 36,x20 P)::(nat_lit 37,x21)::(nat_lit 48,x27 P)::(nat_lit 49,x28)::(nat_lit 60,x34 P)::(nat_lit 61,x35)::(nat_lit 72,x41 P)::(nat_lit 73,x42)::(nat_lit 84,x48 P)::(nat_lit 85,x49)::(nat_lit 96,x55 P)::(nat_lit 97,x56)::(nat_lit 108,x62 P)::(nat_lit 109,x63)::(nat_lit 122,x71)::(nat_lit 123,x72)::(nat_lit 125,x74 P)::(nat_lit 126,x75)::(nat_lit 127,x76)::(nat_lit 128,x77)::(nat_lit 136,x82)::(nat_lit 137,x83)::(nat_lit 143,x88)::(nat_lit 144,x89)::(nat_lit 150,x92)::(nat_lit 151,x93)::(nat_lit 157,x96)::(nat_lit 158,x97)::(nat_lit 164,OH)::(nat_lit 165,NH)::(nat_lit 171,Py)::(nat_lit 172,Pj)::(nat_lit 178,NU)::(nat_lit 179,QU)::(nat_lit 185,ND)::(nat_lit 186,Os)::(nat_lit 192,Nw)::(nat_lit 193,PL)::(nat_lit 199,Oa)::(nat_lit 200,OI)::(nat_lit 204,Of)::(nat_lit 205,Qu)::(nat_lit 211,Qz)::(nat_lit 212,Pw)::(nat_lit 218,Qo)::(nat_lit 219,QT)::(nat_lit 225,OT)::(nat_lit 226,Qe)::(nat_lit 230,Oe)::(nat_lit 231,QA)::(nat_lit 235,P7)::(nat_lit 236,Qm)::(nat_lit 242,Pe)::(nat_lit 243,NQ)::(nat_lit 249,Qt)::(nat_lit 250,OY)::(nat_lit 256,NA)::(nat_lit 257,QO)::(nat_lit 263,NV)::(nat_lit 264,Pp)::(nat_lit 270,OX)::(nat_lit 271,Qp)::(nat_lit 277,PV)::(nat_lit 278,P6)::(nat_lit 284,QV)::(nat_lit 285,O5)::(nat_lit 291,Qw)::(nat_lit 292,Qr)::(nat_lit 298,Qb)::(nat_lit 299,NT)::(nat_lit 303,PY)::(nat_lit 304,O6)::(nat_lit 310,QX)::(nat_lit 311,PQ)::(nat_lit 315,Qy)::(nat_lit 316,OF)::(nat_lit 320,QR)::(nat_lit 321,Pq)::(nat_lit 325,Oj)::(nat_lit 326,Q0)::(nat_lit 332,Oi)::(nat_lit 333,Oc)::(nat_lit 339,PK)::(nat_lit 340,O3)::(nat_lit 346,Nu)::(nat_lit 347,NK)::(nat_lit 353,Pt)::(nat_lit 354,OP)::(nat_lit 360,P3)::(nat_lit 361,Nx)::(nat_lit 372,Pl)::(nat_lit 373,QL)::(nat_lit 375,PN P)::(nat_lit 376,Pr)::(nat_lit 377,No)::(nat_lit 378,Ou)::(nat_lit 384,Ov)::(nat_lit 385,NF)::(nat_lit 391,Ng)::(nat_lit 392,On)::(nat_lit 398,Qc)::(nat_lit 399,QS)::(nat_lit 405,OG)::(nat_lit 406,Nz)::(nat_lit 412,Px)::(nat_lit 413,Qh)::(nat_lit 419,Qj)::(nat_lit 420,Q1)::(nat_lit 426,Q2)::(nat_lit 427,Ni)::(nat_lit 433,Ps)::(nat_lit 434,Nh)::(nat_lit 440,Pc)::(nat_lit 441,Pm)::(nat_lit 447,Qg)::(nat_lit 448,PM)::(nat_lit 454,Pi)::(nat_lit 455,Pa)::(nat_lit 461,Ox)::(nat_lit 462,Om)::(nat_lit 468,NB)::(nat_lit 469,OB)::(nat_lit 475,QW)::(nat_lit 476,Qk)::(nat_lit 482,NZ)::(nat_lit 483,Qa)::(nat_lit 489,QK)::(nat_lit 490,Ol)::(nat_lit 496,PH)::(nat_lit 497,OL)::(nat_lit 503,Oz)::(nat_lit 504,QB)::(nat_lit 510,Qd)::(nat_lit 511,PX)::(nat_lit 515,Po)::(nat_lit 516,P0)::(nat_lit 522,Tq)::(nat_lit 523,TW)::(nat_lit 529,Tg)::(nat_lit 530,Tl)::(nat_lit 534,Tf)::(nat_lit 535,S3)::(nat_lit 541,SI)::(nat_lit 542,UY)::(nat_lit 546,Sn)::(nat_lit 547,Vg)::(nat_lit 551,SH)::(nat_lit 552,Vo)::(nat_lit 556,Sy)::(nat_lit 557,SW)::[]
abbrev qq:Program:=PySem.W.view PySem.Challenge.pw_pebbletoll_k44_counted_by_trying [1,2,3,4,5,6,7,8,10,11,12,13,14,15,16,17,18,19,20,21,22,24,25,26,28,29,30,31,33,34,36,37,38,39,40,41,42,44,45,46,47,48,50,51,52,53,54,55,56,57,58,59,60,61,62,63,64,65,66,67,68,69,71,72,73,74,75,76,77,78,79,80,81,82,83,84]
abbrev ZM:List Addr:=[2,3,23,24,25,36,37,48,49,60,61,72,73,84,85,96,97,108,109,122,123,125,126,127,128,136,137,143,144,150,151,157,158,164,165,171,172,178,179,185,186,192,193,199,200,204,205,211,212,218,219,225,226,230,231,235,236,242,243,249,250,256,257,263,264,270,271,277,278,284,285,291,292,298,299,303,304,310,311,315,316,320,321,325,326,332,333,339,340,346,347,353,354,360,361,372,373,375,376,377,378,384,385,391,392,398,399,405,406,412,413,419,420,426,427,433,434,440,441,447,448,454,455,461,462,468,469,475,476,482,483,489,490,496,497,503,504,510,511,515,516,522,523,529,530,534,535,541,542,546,547,551,552,556,557]
theorem Ϥ:∀P,ZM=(KK P).map (·.1):=λ_=>by kernel_rfl
theorem Vy(w:World):(λos=>((staticsOk (importedModules PySem.Challenge.pw_pebbletoll_k44_counted_by_trying.main.body) (boot_heap w.params) (hf w.params)&&namesBound PySem.Challenge.pw_pebbletoll_k44_counted_by_trying (hf w.params)&&gensDone (Shared.mk (Hd.hf w.params) (.mk []) (.mk 0 0 0 0) 1002 os)&&laidKept (boot_heap w.params) (hf w.params)),openSeen qq [] (importedModules PySem.Challenge.pw_pebbletoll_k44_counted_by_trying.main.body) (λs=>PySem.W.xlAt Hd.qq [] s&&PySem.W.recOk (PySem.W.RowW.records (PySem.W.OpenRow.toRowW (PySem.Challenge.rw_pebbletoll_k44_counted_by_trying).row)) s) true (Shared.mk (Hd.hf w.params) (.mk []) (.mk 0 0 0 0) 1002 os),Hook.obs (PySem.W.kHook Hd.KK Hd.ZM Hd.Ϥ) (Shared.mk (Hd.hf w.params) (.mk []) (.mk 0 0 0 0) 1002 os)))=λ_=>(true,openGood qq [],Hook.val (PySem.W.kHook Hd.KK Hd.ZM Hd.Ϥ) w):=by kernel_rfl
theorem left:PySem.W.LeftO (PySem.Challenge.rw_pebbletoll_k44_counted_by_trying).row.prog qq [] (λs=>PySem.W.xlAt Hd.qq [] s&&PySem.W.recOk (PySem.W.RowW.records (PySem.W.OpenRow.toRowW (PySem.Challenge.rw_pebbletoll_k44_counted_by_trying).row)) s) (PySem.W.Hook.obs (PySem.W.kHook Hd.KK Hd.ZM Hd.Ϥ)) (PySem.W.Hook.val (PySem.W.kHook Hd.KK Hd.ZM Hd.Ϥ)) 8472:=LeftO.of_pieces opn siz run (by decide) Vy
end Hd
abbrev hD:=Int->Int->Int
abbrev g8:=List (Int×Nat×Int)
abbrev gy:=List PySem.Str
abbrev gw:=PySem.Str->Option PySem.Value
abbrev gn:=List PySem.Value
abbrev gg:=List PySem.Addr
abbrev gf:=List (PySem.Addr×PySem.Obj)
abbrev f5:=PySem.W.Frag
abbrev f3:=PySem.Value->PySem.Shared->Prop
abbrev fz:=Int->Nat
abbrev d3:=Int->Int
abbrev d2:=List Int
namespace L2
open PySem PySem.Spec PyProof.Rows
abbrev Key:=Sum Int Str
def xQ:Key->Value->Bool
 | .inl k,v=>Value.isInt k v
 | .inr x,v=>Value.isStrOf x v
def VT(w:World):Key->Int
 | .inl k=>hashInt k
 | .inr x=>hashStr w x
theorem jp:∀{k:Key}{v:Value},xQ k v=true->(∃i t,k=Sum.inl i/\v=Value.int i t)\/(∃x t,k=Sum.inr x/\v=Value.str x t)
 | .inl i,v,h=>by
   obtain⟨t,e⟩:=Value.isInt_shape (k:=i) (v:=v) h;exact .inl ⟨i,t,rfl,e⟩
 | .inr x,v,h=>by
   obtain⟨t,e⟩:=Value.isStrOf_shape (x:=x) (v:=v) h;exact .inr ⟨x,t,rfl,e⟩
theorem MO(i:Int)(t:Tok):xQ (.inl i) (.int i t)=true:=by simp[xQ,Value.isInt]
theorem MG(x:Str)(t:Tok):xQ (.inr x) (.str x t)=true:=by simp[xQ,Value.isStrOf]
theorem UF(a b:Int):decide ((Sum.inl a:Key)=Sum.inl b)=(a==b):=by
 by_cases e:a=b
 .subst e;simp
 .have h:¬(Sum.inl a:Key)=Sum.inl b:=λq=>e (Sum.inl.inj q);rw[bA h];exact(beq_eq_false_iff_ne.mpr e).symm
theorem T8(a b:Str):decide ((Sum.inr a:Key)=Sum.inr b)=decide (a=b):=by
 by_cases e:a=b
 .subst e;simp
 .have h:¬(Sum.inr a:Key)=Sum.inr b:=λq=>e (Sum.inr.inj q);rw[bA h,bA e]
theorem Sw(a:Int)(b:Str):decide ((Sum.inl a:Key)=Sum.inr b)=false:=bA (λq=>nomatch q)
theorem U2(a:Str)(b:Int):decide ((Sum.inr a:Key)=Sum.inl b)=false:=bA (λq=>nomatch q)
def iq(prog:Program)(w:World):PySem.KeyKind prog w Key where
 is:=xQ
 hash:=VT w
 inj:=λv a b c hb=>by
  rcases jp c with⟨i,t,rfl,rfl⟩|⟨x,t,rfl,rfl⟩
  .rcases jp hb with⟨j,u,rfl,e⟩|⟨y,u,rfl,e⟩
   .injection e with e1 _;rw[e1]
   .exact nomatch e
  .rcases jp hb with⟨j,u,rfl,e⟩|⟨y,u,rfl,e⟩
   .exact nomatch e
   .injection e with e1 _;rw[e1]
 byValue:=λk v h=>by
  rcases jp h with⟨i,t,rfl,rfl⟩|⟨x,t,rfl,rfl⟩<;>rfl
 pyHash:=λhv h=>by
  rcases jp hv with⟨i,t,rfl,rfl⟩|⟨x,t,rfl,rfl⟩
  .exact wpAny_pyHash_int h
  .exact wpAny_pyHash_str h
 eqBool:=λd hv h=>by
  rcases jp d with⟨i,t,rfl,rfl⟩|⟨x,t,rfl,rfl⟩
  .rcases jp hv with⟨j,u,rfl,rfl⟩|⟨y,u,rfl,rfl⟩
   .rw[UF]at h;exact wpAny_eqBool_int h
   .rw[Sw]at h;exact SeqAt.EqAt.int_str i t y u _ _ _ _ h
  .rcases jp hv with⟨j,u,rfl,rfl⟩|⟨y,u,rfl,rfl⟩
   .rw[U2]at h;exact SeqAt.EqAt.str_int x t j u _ _ _ _ h
   .rw[T8]at h;exact wpAny_eqBool_str h
 «strs»:=λk x t v h=>by
  rcases jp h with⟨i,u,rfl,e⟩|⟨y,u,rfl,e⟩
  .exact nomatch e
  .injection e with e1 _
   subst e1;cases v<;>rfl
theorem HD(a:Program)(w:World)(i:Int)(t:Tok):(iq a w).is (.inl i) (.int i t)=true:=MO i t
theorem G4(a:Program)(w:World)(x:Str)(t:Tok):(iq a w).is (.inr x) (.str x t)=true:=MG x t
inductive V where
 | ω|bl (b:Bool)|int (i:Int)|str (x:Str)|X1 (b:Array UInt8)|flt (b:UInt64)|ref (a:Addr)|ty (n:String)
 deriving DecidableEq
def RelV:V->Value->Prop
 | .ω,u=>u=Value.none
 | .bl b,u=>u=Value.bool b
 | .int i,u=>∃t,u=Value.int i t
 | .str x,u=>∃t,u=Value.str x t
 | .X1 b,u=>∃t,u=Value.bytes b t
 | .flt b,u=>∃t,u=Value.float b t
 | .ref a,u=>u=Value.ref a
 | .ty n,u=>u=Value.type n
abbrev Vals:List V->List Value->Prop:=Paired RelV
theorem Vals.length{a:List V}{b:gn}(r:Vals a b):a.length=b.length:=Paired.length r
theorem Vals.get:∀{a:List V}{b:gn}{i:Nat}{x:V},Vals a b->a[i]?=some x->∃u,b[i]?=some u/\RelV x u
 | _,_,_,_,.nil,e=>by simp at e
 | _,_,0,_,.cons r _,e=>by simp at e;subst e;exact⟨_,rfl,r⟩
 | _,_,i+1,x,.cons _ t,e=>by
   obtain⟨u,d,c⟩:=Vals.get (i:=i) (x:=x) t (by simpa using e);exact⟨u,by simpa using d,c⟩
theorem Vals.set{x:V}{u:Value}(r:RelV x u):∀{a:List V}{b:gn}(i:Nat),Vals a b->Vals (a.set i x) (b.set i u)
 | _,_,_,.nil=>.nil
 | _,_,0,.cons _ t=>.cons r t
 | _,_,i+1,.cons q t=>.cons q (Vals.set r i t)
theorem Vals.append:∀{b c:List V}{d a:gn},Vals b d->Vals c a->Vals (b++c) (d++a)
 | _,_,_,_,.nil,s=>s
 | _,_,_,_,.cons r t,s=>.cons r (Vals.append t s)
theorem Vals.take:∀{a:List V}{b:gn}(n:Nat),Vals a b->Vals (a.take n) (b.take n)
 | _,_,0,_=>.nil
 | _,_,_+1,.nil=>.nil
 | _,_,n+1,.cons r t=>.cons r (Vals.take n t)
theorem Vals.drop:∀{a:List V}{b:gn}(n:Nat),Vals a b->Vals (a.drop n) (b.drop n)
 | _,_,0,r=>r
 | _,_,_+1,.nil=>.nil
 | _,_,n+1,.cons _ t=>Vals.drop n t
def oK:Option V->Option Value->Prop
 | some v,some u=>RelV v u
 | none,none=>True
 | _,_=>False
def KV{a:Type}:List (a×V)->List (a×Value)->Prop:=Paired λ(p:a×V)(q:a×Value)=>p.1=q.1/\RelV p.2 q.2
def kV:Key->V
 | .inl i=>.int i
 | .inr x=>.str x
inductive HO where
 /-- a list -/
 | lst (xs:List V)
 /-- a tuple (never changes) -/
 | tup (xs:List V)
 /-- a dict aaD keys are ints and texts;one aaD keys are tuples of ints and texts (Wo empty one is both) -/
 | dK (θ:List (Key×V))|dT (θ:List (List Key×V))
 /-- a set of ints: its members,its size -/
 | set (S:Int->Bool) (n:Nat)
 /-- an instance of Wo class at C,its dict at dx,its attributes -/
 | ins (C dx:Addr) (fs:List (Str×V))
 /-- Wo dict of Wo instance at x -/
 | own (x:Addr)
 /-- Wo dict of an exception -/
 | xd (fs:List (Str×V))
 /-- a bound method,f of x -/
 | met (f x:Addr)
 /-- a range object lo,lo+1,.. b6 hi -/
 | Χ (lo hi:Int)
 /-- a thing abj is known to Wo object (Wo script;a dict while a loop walks it): read,never written while it is so -/
 | X2 (o:Obj) (u:HO)
 /-- a code acT table -/
 | tbl (ps:Array Value)
 /-- any other thing,by X3 is true of its one object (a def of aky own: anj a S n:=HO.ext λh=>..) -/
 | ext (φ:Heap->Prop)
abbrev Hp:=Addr->Option HO
def upd(H:Hp)(a:Addr)(o:HO):Hp:=λb=>if b=a then some o else H b
theorem ay{H:Hp}{a:Addr}{o:HO}:upd H a o a=some o:=by unfold upd;rw[aj rfl]
theorem aR{H:Hp}{a b:Addr}{o:HO}(h:b≠a):upd H a o b=H b:=by unfold upd;rw[ag h]
theorem sB{H:Hp}{a:Addr}{o u:HO}:upd (upd H a o) a u=upd H a u:=by
 funext b;unfold upd;split<;>rfl
theorem gU{H:Hp}{a b:Addr}{o u:HO}(h:H a=some o)(c:H b=some u)(d:o≠u):a≠b:=by
 intro e;subst e;rw[h]at c;exact d (bi c)
theorem cq{H:Hp}{a b:Addr}{o:HO}(h:H a=some o)(c:H b=none):a≠b:=by
 intro e;subst e;rw[h]at c;cases c
section
variable(P:Program)(w:World)
def Γ(H:Hp)(h:Heap)(a:Addr):HO->Prop
 | .lst c=>c.length<=sizeLine/\∃(b:gn)(n:Nat),Vals c b/\h.get? a=some { cls:=.type "list",data:=.seq b.toArray n }
 | .tup c=>c.length<=sizeLine/\∃b:List Value,Vals c b/\IsTup h a b.toArray
 | .dK θ=>θ.length<=sizeLine/\(a==sysModules)=false/\∃i,KV θ i/\h.DictOf (iq P w) a i
 | .dT θ=>θ.length<=sizeLine/\(a==sysModules)=false/\∃c:List (List Key×Addr×Value),Paired (λ(p:List Key×V)(q:List Key×Addr×Value)=>p.1=q.1/\H q.2.1=some (.tup (p.1.map kV))/\RelV p.2 q.2.2) θ c/\∃o e k,h.get? a=some o/\o.ExactDict/\o.data=.dict e k/\e.toList=c.map (entryOfKey (tupleKind (iq P w)))/\(c.map (·.1)).Nodup
 | .set S n=>h.SetOf (intKind P w) a S n
 | .ins C dx fs=>H dx=some (.own a)/\fs.length<=1000/\dx≠a/\h.get? a=some (PySem.W.instObj C dx)/\∃d,h.Ns1 dx d/\(∀f,oK (fs.lookup f) (d f))/\PySem.Within d (fs.map (·.1))
 | .own _=>∃o,h.get? a=some o
 | .xd fs=>∃d,h.Ns1 a d/\∀f,oK (fs.lookup f) (d f)
 | .Χ lo hi=>∃t u v,h.get? a=some { cls:=.type "range",data:=.fields #[.int lo t,.int hi u,.int 1 v] }
 | .X2 o u=>h.get? a=some o/\Γ H h a u
 | .tbl ps=>h.get? a=some { cls:=.none,data:=.fields ps }
 | .met f x=>h.get? a=some (PySem.W.methodObj (.ref f) (.ref x))
 | .ext φ=>φ h/\(∃o,h.get? a=some o)/\∀j g:Heap,φ j->(∀o,j.get? a=some o->g.get? a=some o)->φ g
def Ϭ(H:Hp)(h:Heap):Prop:=∀a o,H a=some o->Γ P w H h a o
end
section
variable{P:Program}{w:World}{H g:Hp}{h h':Heap}{a:Addr}{o:HO}
theorem Γ.lt(x:Γ P w H h a o):a<h.objs.size:=by
 cases o with
 | lst xs=>obtain⟨_,_,_,_,e⟩:=x;exact aG e
 | tup xs=>obtain⟨_,_,_,p⟩:=x;exact p.lt
 | dK θ=>obtain⟨_,_,_,_,o,_,_,e,_⟩:=x;exact aG e
 | dT θ=>obtain⟨_,_,_,_,o,_,_,e,_⟩:=x;exact aG e
 | set S n=>obtain⟨o,_,_,_,e,_⟩:=x;exact aG e
 | ins C dx fs=>obtain⟨_,_,_,e,_⟩:=x;exact aG e
 | own y=>obtain⟨_,e⟩:=x;exact aG e
 | xd fs=>obtain⟨_,⟨_,_,_,e,_⟩,_⟩:=x;exact aG e
 | Χ lo hi=>obtain⟨_,_,_,e⟩:=x;exact aG e
 | X2 ob u=>obtain⟨e,_⟩:=x;exact aG e
 | tbl ps=>exact aG (show h.get? a=some _ from x)
 | met f y=>exact aG (show h.get? a=some _ from x)
 | ext φ=>obtain⟨_,⟨_,e⟩,_⟩:=x;exact aG e
theorem Paired.ZY{e i:Type}{F G:e->i->Prop}:∀{c:List e}{d:List i},Paired F c d->(∀a b,F a b->G a b)->Paired G c d
 | _,_,.nil,_=>.nil
 | _,_,.cons r t,f=>.cons (f _ _ r) (Paired.ZY t f)
theorem Paired.imp'{e i:Type}{F G:e->i->Prop}(f:∀a b,F a b->G a b){c:List e}{d:List i}(r:Paired F c d):Paired G c d:=Paired.ZY r f
theorem Γ.iF(x:Γ P w H h a o)(k:∀b u,(b=a\/H b=some (.own a))->h.get? b=some u->h'.get? b=some u)(E:∀b,H b=some (.own a)->g b=some (.own a))(G:∀b s,H b=some (.tup s)->g b=some (.tup s)):Γ P w g h' a o:=by
 induction o with
 | lst s=>obtain⟨z,m,n,r,e⟩:=x;exact⟨z,m,n,r,k _ _ (.inl rfl) e⟩
 | tup s=>obtain⟨z,m,r,i,e,c⟩:=x;exact⟨z,m,r,i,k _ _ (.inl rfl) e,c⟩
 | dK θ=>obtain⟨z,y,F,r,i,j,l,e,c⟩:=x;exact⟨z,y,F,r,i,j,l,k _ _ (.inl rfl) e,c⟩
 | dT θ=>
   obtain⟨z,y,s,r,i,j,l,e,c⟩:=x;exact⟨z,y,s,Paired.ZY r λp q z=>⟨z.1,G _ _ z.2.1,z.2.2⟩,i,j,l,k _ _ (.inl rfl) e,c⟩
 | set S n=>obtain⟨i,j,l,t,e,c⟩:=x;exact⟨i,j,l,t,k _ _ (.inl rfl) e,c⟩
 | ins C dx fs=>
   obtain⟨d,z,ne,e,B,⟨A,j,l,D,c⟩,r⟩:=x;exact⟨E _ d,z,ne,k _ _ (.inl rfl) e,B,⟨A,j,l,k _ _ (.inr d) D,c⟩,r⟩
 | own y=>obtain⟨i,e⟩:=x;exact⟨i,k _ _ (.inl rfl) e⟩
 | xd fs=>obtain⟨B,⟨A,j,l,e,c⟩,r⟩:=x;exact⟨B,⟨A,j,l,k _ _ (.inl rfl) e,c⟩,r⟩
 | Χ lo hi=>obtain⟨t,u,v,e⟩:=x;exact⟨t,u,v,k _ _ (.inl rfl) e⟩
 | X2 i u ih=>obtain⟨e,q⟩:=x;exact⟨k _ _ (.inl rfl) e,ih q⟩
 | tbl ps=>
   have e:h.get? a=some { cls:=.none,data:=.fields ps }:=x;show h'.get? a=some { cls:=.none,data:=.fields ps };exact k a _ (.inl rfl) e
 | met f y=>
   have e:h.get? a=some (PySem.W.methodObj (.ref f) (.ref y)):=x;show h'.get? a=some (PySem.W.methodObj (.ref f) (.ref y));exact k a _ (.inl rfl) e
 | ext φ=>obtain⟨p,⟨o,e⟩,st⟩:=x;exact⟨st _ _ p λo q=>k _ _ (.inl rfl) q,⟨o,k _ _ (.inl rfl) e⟩,st⟩
theorem Ϭ.lt(x:Ϭ P w H h)(e:H a=some o):a<h.objs.size:=(x a o e).lt
theorem Ϭ.fresh(x:Ϭ P w H h)(e:h.objs.size<=a):H a=none:=by
 cases q:H a with
 | none=>rfl
 | some u=>exact absurd (aZ (x.lt q) e) (cU _)
theorem Ϭ.kept(x:Ϭ P w H h)(k:∀b u,h.get? b=some u->h'.get? b=some u):Ϭ P w H h':=λa o e=>
 (x a o e).iF (λb u _ q=>k b u q) (λ_ q=>q) λ_ _ q=>q
theorem Ϭ.laid(x:Ϭ P w H h)(k:∀b u,h.get? b=some u->h'.get? b=some u)(j:h.objs.size<=a)(d:Γ P w (upd H a o) h' a o):Ϭ P w (upd H a o) h':=λb u e=>by
 have i:=x.fresh j;by_cases f:b=a
 .subst f;rw[ay]at e;cases e;exact d
 .rw[aR f]at e;exact(x b u e).iF (λc v _ q=>k c v q) (λc q=>by rw[aR (cq q i)];exact q) λc l q=>by rw[aR (cq q i)];exact q
end
def Rd(H:Hp)(a:Addr)(u:HO):Prop:=H a=some u\/∃o,H a=some (.X2 o u)
theorem Rd.ok{P:Program}{w:World}{H:Hp}{h:Heap}{a:Addr}{u:HO}(r:Rd H a u)(x:Ϭ P w H h):Γ P w H h a u:=by
 rcases r with r|⟨o,r⟩
 .exact x a u r
 .obtain⟨_,q⟩:=x a _ r;exact q
def Mut:Option HO->Prop
 | some (.lst _)=>True
 | some (.dK _)=>True
 | some (.dT _)=>True
 | some (.set _ _)=>True
 | some (.ins _ _ _)=>True
 | some (.ext _)=>True
 | _=>False
section
variable{P:Program}{w:World}{H:Hp}{h a:Heap}{x e:Addr}{d:HO}
theorem Ϭ.write(s:Ϭ P w H h)(j:Mut (H x))(p:e=x\/H e=some (.own x))(k:∀b u,b≠e->h.get? b=some u->a.get? b=some u)(n:∃u,a.get? e=some u)(m:Γ P w (upd H x d) a x d):Ϭ P w (upd H x d) a:=λb u q=>by
 have g:∀c y,H c=some (.own y)->c≠x:=λc y r z=>by subst z;rw[r]at j;exact j
 have o:∀c i,H c=some (.tup i)->c≠x:=λc i r z=>by subst z;rw[r]at j;exact j
 by_cases l:b=x
 .subst l;rw[ay]at q;cases q;exact m
 .rw[aR l]at q;by_cases f:b=e
  .have q':H b=some (.own x):=by
    rcases p with z|z
    .exact absurd (f.trans z) l
    .rw[f];exact z
   rw[q]at q';cases q';obtain⟨v,t⟩:=n;exact⟨v,by rw[f];exact t⟩
  .refine(s b u q).iF (λc v hc r=>k c v ?_ r) (λc r=>by rw[aR (g c b r)];exact r) λc i r=>by rw[aR (o c i r)];exact r
   rcases hc with rfl|hc
   .exact f
   .rintro rfl;rcases p with z|z
    .exact g c b hc z
    .rw[hc]at z;cases z;exact l rfl
end
structure Un(fs ex:gg)(H H':Hp)(h h':Heap):Prop where
 keep:∀b o,h.get? b=some o->H b=none->b∉fs->b∉ex->h'.get? b=some o
 slot:∀b o,h.get? b=some o->H b=none->b∈fs->b∉ex->∃sl,h'.get? b=some { o with slots:=sl }
 free:∀b o,h.get? b=some o->H b=none->b∉ex->H' b=none
 there:∀b o,h.get? b=some o->b∉ex->∃o',h'.get? b=some o'
 oR:∀b xs,H b=some (.tup xs)->H' b=some (.tup xs)
 iN:∀b o u,H b=some (.X2 o u)->H' b=some (.X2 o u)
 rW:∀b ps,H b=some (.tbl ps)->∃more,H' b=some (.tbl (ps++more))
section
variable{c j d i:gg}{H g l:Hp}{h f m h':Heap}{a x e:Addr}{o:HO}
theorem Un.any(u:Un c d H g h f){b:Addr}{k:Obj}(q:h.get? b=some k)(n:H b=none)(r:b∉d):∃s,f.get? b=some { k with slots:=s }:=by
 by_cases p:b∈c
 .exact u.slot b k q n p r
 .exact⟨k.slots,u.keep b k q n p r⟩
theorem Un.kept(k:∀b u,h.get? b=some u->h'.get? b=some u):Un c d H H h h':=⟨λb p q _ _ _=>k b p q,λb p q _ _ _=>⟨p.slots,k b p q⟩,λ_ _ _ n _=>n,λb p q _=>⟨p,k b p q⟩,λ_ _ q=>q,λ_ _ _ q=>q,λ_ r q=>⟨#[],by rw[q];simp⟩⟩
theorem Un.refl:Un c d H H h h:=Un.kept λ_ _ q=>q
theorem Un.laid(k:∀b u,h.get? b=some u->h'.get? b=some u)(s:h.objs.size<=a)(p:H a=none):Un c d H (upd H a o) h h' where
 keep:=λb u q _ _ _=>k b u q
 slot:=λb u q _ _ _=>⟨u.slots,k b u q⟩
 free:=λb u q n _=>by rw[aR (aV (aZ (aG q) s))];exact n
 there:=λb u q _=>⟨u,k b u q⟩
 oR:=λb r q=>by rw[aR (cq q p)];exact q
 iN:=λb u r q=>by rw[aR (cq q p)];exact q
 rW:=λb t q=>⟨#[],by rw[aR (cq q p),q];simp⟩
theorem Un.write(s:Mut (H x))(C:e=x\/H e=some (.own x))(k:∀b u,b≠e->h.get? b=some u->h'.get? b=some u)(t:∃u,h'.get? e=some u):Un c d H (upd H x o) h h':=by
 have y:∀b,H b=none->b≠x:=λb n z=>by subst z;rw[n]at s;exact s
 have w:∀b,H b=none->b≠e:=λb n z=>by
  subst z;rcases C with r|r
  .exact y b n r
  .rw[n]at r;cases r
 have v:∀b u,H b=some u->¬Mut (some u)->b≠x:=λb u q B z=>by subst z;rw[q]at s;exact B s
 refine⟨λb u q n _ _=>k b u (w b n) q,λb u q n _ _=>⟨u.slots,k b u (w b n) q⟩,λb u q n _=>by rw[aR (y b n)];exact n,λb u q _=>?_,λb A q=>by rw[aR (v b _ q λz=>z)];exact q,λb u A q=>by rw[aR (v b _ q λz=>z)];exact q,λb D q=>⟨#[],by rw[aR (v b _ q λz=>z),q];simp⟩⟩
 by_cases p:b=e
 .subst p;exact t
 .exact⟨u,k b u p q⟩
end
def trk(h:Heap)(H:Hp):List Addr:=(List.range h.objs.size).filter λa=>(H a).isSome
def vP(h:Heap)(H:Hp):Heap:=PySem.W.hideAll h (trk h H)
theorem MH(h:Heap)(H:Hp):(vP h H).objs.size=h.objs.size:=PySem.W.hideAll_size _ _
theorem QE{h:Heap}{H:Hp}{b:Addr}{o:Obj}(e:h.get? b=some o)(n:H b=none):(vP h H).get? b=some o:=PySem.W.hideAll_get _ e λa=>by
 have q:(H b).isSome=true:=(bG.mp a).2;rw[n]at q;simp at q
theorem RC{h:Heap}{H:Hp}{b:Addr}{o:Obj}(e:(vP h H).get? b=some o):h.get? b=some o/\H b=none:=by
 have a:h.get? b=some o:=PySem.W.of_hideAll (trk h H) e;refine⟨a,?_⟩;cases q:H b with
 | none=>rfl
 | some x=>
   have c:b∈trk h H:=bG.mpr ⟨bU.mpr (aG a),by simp[q]⟩;have z:(vP h H).get? b=none:=PySem.W.hideAll_none (trk h H) c;rw[z]at e;cases e
def Rx(g h:Heap)(L:Addr):List (Addr×Obj):=(List.range h.objs.size).filterMap λa=>if a=L\/(g.get? a).isSome=true then none else(h.get? a).map λo=>(a,o)
def rest(g h:Heap)(L d:Addr):List (Addr×Obj):=(Rx g h L).filter λp=>decide (p.1≠d)
structure Mod(K:f5)(mg:gw)(base:Heap):Prop where
 kin:K.In base
 glob:base.Ns mainGlobals mg
 blt:∃mb,base.Ns builtinsNs mb/\∀x:Str,x≠"__name__"->mb x=bootBuiltins x
 nolimit:base.NoLimit
structure Cx where
 prog:Program
 w:World
 K:PySem.W.Frag
 mg:Str->Option Value
 base:Heap
 A:Around
 N:List Str
 s₀:Shared
 H₀:Hp
 env:Env
 outer:List Env
 stack:List Env
 ex:List Addr
 fn:Str->Bool
 calm:Bool
 pn:List (Addr×Obj)
 xe:Value->Shared->Prop
def ϭ(l:List Env):List Addr:=l.filterMap (·.frame)
abbrev Cx.fs(X:Cx):List Addr:=ϭ X.outer
def Vis(a:Scope)(x:Str):Prop:=a.names.lookup x=some .local\/a.names.lookup x=some .cell\/a.names.lookup x=some .free
def Loc(a:Scope)(x:Str):Prop:=a.names.lookup x=some .local\/a.names.lookup x=some .cell
def V4(a:Env)(h:Heap)(m:gw)(x:Str)(u:Value):Prop:=(a.kindOf x=some .local/\m x=some u)\/((a.kindOf x=some .cell\/a.kindOf x=some .free)/\∃c,a.cells.lookup x=some c/\h.IsCell c (some u))
structure Cx.Ok(X:Cx):Prop where
 mod:Mod X.K X.mg X.base
 kind:X.env.scope.kind=.function
 glob:X.env.globals=mainGlobals
 blt:X.env.builtins=builtinsNs
 above:X.s₀.heap.objs.size<=X.env.locals
 inj:∀x y c,X.env.cells.lookup x=some c->X.env.cells.lookup y=some c->x=y
 has:∀x,(X.env.kindOf x=some .cell\/X.env.kindOf x=some .free)->∃c,X.env.cells.lookup x=some c
 cab:∀x c,X.fn x=true->X.env.cells.lookup x=some c->X.s₀.heap.objs.size<=c
 hd:X.calm=true->X.A.handled=none
 frames:X.A.frames=some X.stack
 stk:X.stack=X.outer\/(X.stack=X.env::X.outer/\X.env.frame=some X.env.locals)
 exf:∀b∈X.ex,b≠X.env.locals/\∀x c,X.env.cells.lookup x=some c->c≠b
 bs:∀b o,X.base.get? b=some o->X.s₀.heap.get? b=some o/\X.H₀ b=none
 ZZ:X.base.objs.size<=X.s₀.heap.objs.size
 YH:∀b o,X.base.get? b=some o->b∉X.ex
 X4:∀b∈X.ex,b∉X.fs
 Ac:X.s₀.heap.FunFrames X.base X.outer
 frf:∀b∈X.fs,X.H₀ b=none
structure Inv(X:Cx)(pins:gf)(σ:List (Option V))(H:Hp)(s:Shared):Prop where
 ok:X.Ok
 os:s.os=X.s₀.os
 bare:AllBare s.gens
 base:Un X.fs X.ex X.H₀ H X.s₀.heap s.heap
 loc:∃m,s.heap.Ns X.env.locals m/\∀(i:Nat)(x:Str)(v:V),X.N[i]?=some x->σ[i]?=some (some v)->Vis X.env.scope x->∃u,RelV v u/\V4 X.env s.heap m x u
 cell:∀x c,X.env.cells.lookup x=some c->∃v,s.heap.IsCell c v
 free:H X.env.locals=none
 Ϟ:∀x c,X.env.cells.lookup x=some c->H c=none
 pin:∀p∈X.pn++pins,s.heap.get? p.1=some p.2/\H p.1=none/\p.1≠X.env.locals/\p.1∉X.fs/\∀v,p.2.data≠.cell v
 ψ:Ϭ X.prog X.w H s.heap
 len:σ.length=X.N.length
section
variable{X:Cx}{f:gf}{g:List (Option V)}{H B:Hp}{s:Shared}{h':Heap}
theorem Cx.Ok.ahP(a:X.Ok){b:Addr}{o:Obj}(e:X.base.get? b=some o):b∉X.fs:=λc=>by
 have:=(a.Ac.mem c).1;rw[e]at this;cases this
theorem Inv.bs(I:Inv X f g H s):∀b o,X.base.get? b=some o->s.heap.get? b=some o/\H b=none:=λb o e=>
 ⟨I.base.keep b o (I.ok.bs b o e).1 (I.ok.bs b o e).2 (I.ok.ahP e) (I.ok.YH b o e),I.base.free b o (I.ok.bs b o e).1 (I.ok.bs b o e).2 (I.ok.YH b o e)⟩
theorem Inv.bk(I:Inv X f g H s):∀b o,X.base.get? b=some o->s.heap.get? b=some o:=λb o e=>(I.bs b o e).1
theorem Inv.mod(I:Inv X f g H s):Mod X.K X.mg X.base:=I.ok.mod
theorem Inv.WB(I:Inv X f g H s):X.K.In s.heap:=I.ok.mod.kin.keeps I.bk
theorem Inv.lt(I:Inv X f g H s):X.env.locals<s.heap.objs.size:=let ⟨_,hn,_⟩:=I.loc;hn.lt
theorem Inv.sz(I:Inv X f g H s):X.s₀.heap.objs.size<=s.heap.objs.size:=aL I.ok.above (i9 I.lt)
theorem Inv.ahQ(I:Inv X f g H s){a:Addr}(h:s.heap.objs.size<=a):a∉X.fs:=λc=>by
 obtain⟨_,o,b,_⟩:=I.ok.Ac.mem c;exact absurd (aZ (aG b) (aL I.sz h)) (cU _)
theorem Inv.cne(I:Inv X f g H s):∀x c,X.env.cells.lookup x=some c->c≠X.env.locals:=λx c e z=>by
 obtain⟨v,o,b,d⟩:=I.cell x c e;obtain⟨m,⟨j,i,k,h,a,_⟩,_⟩:=I.loc;rw[z,h]at b;cases b;rw[a]at d;cases d
theorem Inv.Ac(I:Inv X f g H s):s.heap.FunFrames X.base X.outer:=by
 have a:∀(l:List Env),(∀b∈ϭ l,b∈X.fs)->X.s₀.heap.FunFrames X.base l->s.heap.FunFrames X.base l:=by
  intro l
  induction l with
  | nil=>intro _ _;trivial
  | cons env r ih=>
    intro i q;obtain⟨n,⟨L,o,d,p,m,k⟩,j⟩:=q;have c:L∈X.fs:=i L (by unfold ϭ;rw[ir,d];exact aJ);obtain⟨t,e⟩:=I.base.slot L o m (I.ok.frf L c) c λz=>I.ok.X4 L z c;exact⟨n,⟨L,_,d,p,e,k⟩,ih (λb h=>i b (by unfold ϭ;rw[ir,d];exact aH _ h)) j⟩
 exact a X.outer (λ_ h=>h) I.ok.Ac
theorem Inv.stack(I:Inv X f g H s):s.heap.FunFrames X.base X.stack:=by
 rcases I.ok.stk with e|⟨e,b⟩
 .rw[e];exact I.Ac
 .rw[e];obtain⟨m,a,_⟩:=I.loc;refine .cons (by rw[I.ok.kind];decide) b a ?_ I.Ac;exact Heap.get?_none_of_le (aL I.ok.ZZ I.ok.above)
theorem Inv.X6(I:Inv X f g H s):∀b∈ϭ X.stack,b∈X.env.locals::X.fs:=λb a=>by
 rcases I.ok.stk with e|⟨e,c⟩
 .rw[e]at a;exact aH _ a
 .rw[e]at a;unfold ϭ at a;rw[ir,c]at a;exact a
theorem Inv.Wm(I:Inv X f g H s):∀b∈ϭ X.stack,H b=none:=λb hb=>by
 rcases ax.mp (I.X6 b hb)with e|hb
 .rw[e];exact I.free
 .obtain⟨_,o,ho,_⟩:=I.ok.Ac.mem hb;exact I.base.free b o ho (I.ok.frf b hb) λz=>I.ok.X4 b z hb
theorem Inv.step{g':Array GenState}{t':Nat}{d':Drawn}{ch:gg}(I:Inv X f g H s)(F:∀b∈ch,(b∈X.ex\/X.s₀.heap.objs.size<=b)/\b≠X.env.locals/\(∀x c,X.env.cells.lookup x=some c->c≠b)/\∀p∈X.pn++f,p.1≠b)(keep:∀b o,b≠X.env.locals->b∉X.fs->b∉ch->s.heap.get? b=some o->H b=none->h'.get? b=some o)(slot:∀b o,b≠X.env.locals->b∈X.fs->b∉ch->s.heap.get? b=some o->H b=none->∃N,h'.get? b=some { o with slots:=N })(free:∀b o,b∉ch->s.heap.get? b=some o->H b=none->B b=none)(there:∀b o,b∉ch->s.heap.get? b=some o->∃J,h'.get? b=some J)(oR:∀b A,H b=some (.tup A)->B b=some (.tup A))(iN:∀b o u,H b=some (.X2 o u)->B b=some (.X2 o u))(rW:∀b L,H b=some (.tbl L)->∃G,B b=some (.tbl (L++G)))(V:∀m,s.heap.Ns X.env.locals m->h'.Ns X.env.locals m)(U:Ϭ X.prog X.w B h')(S:AllBare g'):Inv X f g B { s with heap:=h',gens:=g',drawn:=d',toks:=t' }:=by
 have K:∀b o,X.s₀.heap.get? b=some o->b≠X.env.locals:=λb o e=>aV (aZ (aG e) I.ok.above);have y:∀b o,X.s₀.heap.get? b=some o->b∉X.ex->b∉ch:=λb o e a C=>by
  rcases(F b C).1 with z|z
  .exact a z
  .exact absurd (aZ (aG e) z) (cU _)
 have h:∀x c,X.env.cells.lookup x=some c->∀v,s.heap.IsCell c v->h'.IsCell c v:=λx c e v ⟨o,D,M⟩=>by
  have j:c∉ch:=λz=>(F c z).2.2.1 x c e rfl;by_cases Q:c∈X.fs
  .obtain⟨N,q⟩:=slot c o (I.cne x c e) Q j D (I.Ϟ x c e);exact⟨_,q,M⟩
  .exact⟨o,keep c o (I.cne x c e) Q j D (I.Ϟ x c e),M⟩
 refine⟨I.ok,I.os,S,⟨λb o e n C a=>?_,λb o e n C a=>?_,λb o e n a=>?_,λb o e a=>?_,λb A e=>oR b A (I.base.oR b A e),λb o A e=>iN b o A (I.base.iN b o A e),λb L e=>?_⟩,?_,λx c e=>?_,?_,λx c e=>?_,λp P=>?_,U,I.len⟩
 .exact keep b o (K b o e) C (y b o e a) (I.base.keep b o e n C a) (I.base.free b o e n a)
 .obtain⟨N,t⟩:=I.base.slot b o e n C a;obtain⟨O,E⟩:=slot b _ (K b o e) C (y b o e a) t (I.base.free b o e n a);exact⟨O,E⟩
 .obtain⟨J,t⟩:=I.base.there b o e a;exact free b J (y b o e a) t (I.base.free b o e n a)
 .obtain⟨J,t⟩:=I.base.there b o e a;exact there b J (y b o e a) t
 .obtain⟨m1,t⟩:=I.base.rW b L e;obtain⟨R,E⟩:=rW b _ t;exact⟨m1++R,by rw[E,Array.append_assoc]⟩
 .obtain⟨m,hn,hl⟩:=I.loc;refine⟨m,V m hn,λi x v t E T=>?_⟩;obtain⟨u,r,l⟩:=hl i x v t E T;refine⟨u,r,?_⟩;rcases l with l|⟨k,c,e,z⟩
  .exact .inl l
  .exact .inr ⟨k,c,e,h x c e _ z⟩
 .obtain⟨v,z⟩:=I.cell x c e;exact⟨v,h x c e v z⟩
 .obtain⟨m,⟨o,_,_,D,_⟩,_⟩:=I.loc;exact free _ o (λz=>(F _ z).2.1 rfl) D I.free
 .obtain⟨v,o,D,M⟩:=I.cell x c e;exact free c o (λz=>(F c z).2.2.1 x c e rfl) D (I.Ϟ x c e)
 .obtain⟨e,n,ne,nf,d⟩:=I.pin p P;have j:p.1∉ch:=λz=>(F p.1 z).2.2.2 p P rfl;exact⟨keep p.1 p.2 ne nf j e n,free p.1 p.2 j e n,ne,nf,d⟩
theorem Inv.un{t':Nat}(I:Inv X f g H s)(u:Un X.fs [] H B s.heap h')(l:Ϭ X.prog X.w B h'):Inv X f g B { s with heap:=h',toks:=t' }:=by
 obtain⟨m,⟨o,q,x,i,r⟩,_⟩:=id I.loc;obtain⟨t,j⟩:=u.any i I.free (by simp);exact I.step (g':=s.gens) (d':=s.drawn) (ch:=[]) (λ_ z=>nomatch z) (λb o _ d _ e n=>u.keep b o e n d (by simp)) (λb o _ d _ e n=>u.slot b o e n d (by simp)) (λb o _ e n=>u.free b o e n (by simp)) (λb o _ e=>u.there b o e (by simp)) u.oR u.iN u.rW (λy k=>by
  obtain⟨v,a,c,h,p⟩:=k;rw[i]at h;cases h;exact⟨_,a,c,j,p⟩) l I.bare
theorem Inv.call{g':Array GenState}{t':Nat}{d':Drawn}{ch:gg}(I:Inv X f g H s)(u:Un (ϭ X.stack) ch H B s.heap h')(y:Ϭ X.prog X.w B h')(v:AllBare g')(l:∀b∈ch,(b∈X.ex\/X.s₀.heap.objs.size<=b)/\b≠X.env.locals/\(∀x c,X.env.cells.lookup x=some c->c≠b)/\∀p∈X.pn++f,p.1≠b):Inv X f g B { s with heap:=h',gens:=g',drawn:=d',toks:=t' }:=by
 obtain⟨m,⟨o,C,F,k,r⟩,_⟩:=id I.loc;obtain⟨D,h⟩:=u.any k I.free λz=>(l _ z).2.1 rfl;exact I.step (ch:=ch) l (λb o h A a e n=>u.keep b o e n (λz=>(ax.mp (I.X6 b z)).elim h A) a) (λb o _ _ a e n=>u.any e n a) (λb o a e n=>u.free b o e n a) (λb o a e=>u.there b o e a) u.oR u.iN u.rW (λG t=>by
  obtain⟨E,d,i,j,q⟩:=t;rw[k]at j;cases j;exact⟨_,d,i,h,q⟩) y v
theorem Inv.turned{t':Nat}{it:Addr}(I:Inv X f g H s)(k:∀b o,b≠it->s.heap.get? b=some o->h'.get? b=some o)(t:H it=none)(h:it≠X.env.locals)(y:it∈X.ex\/X.s₀.heap.objs.size<=it)(i:∀x c,X.env.cells.lookup x=some c->c≠it)(l:∀p∈X.pn++f,p.1≠it):Inv X f g H { s with heap:=h',toks:=t' }:=by
 have d:∀b u,H b=some u->b≠it:=λb u e z=>by rw[z,t]at e;cases e
 refine I.step (g':=s.gens) (d':=s.drawn) (ch:=[it]) (λb w=>?_) (λb o _ _ a e _=>k b o (λz=>a (by simp[z])) e) (λb o _ _ a e _=>⟨o.slots,k b o (λz=>a (by simp[z])) e⟩) (λ_ _ _ _ n=>n)
  (λb o a e=>⟨o,k b o (λz=>a (by simp[z])) e⟩) (λ_ _ e=>e) (λ_ _ _ e=>e) (λb A e=>⟨#[],by rw[e];simp⟩) (λm j=>?_) (λb u e=>?_) I.bare
 .have e:b=it:=by simpa using w
  subst e;exact⟨y,h,i,l⟩
 .obtain⟨o,es,ep,ho,r⟩:=j;exact⟨o,es,ep,k _ o (Ne.symm h) ho,r⟩
 .refine(I.ψ b u e).iF (λc v a q=>k c v ?_ q) (λ_ q=>q) λ_ _ q=>q;rcases a with z|z
  .rw[z];exact d b u e
  .exact d c _ z
theorem Inv.tok(I:Inv X f g H s)(t:Nat):Inv X f g H { s with toks:=t }:=I.un (h':=s.heap) (t':=t) Un.refl I.ψ
theorem Inv.kept{t':Nat}(I:Inv X f g H s)(k:∀b u,s.heap.get? b=some u->h'.get? b=some u):Inv X f g H { s with heap:=h',toks:=t' }:=I.un (Un.kept k) (I.ψ.kept k)
theorem Inv.laid{a:Addr}{o:HO}{t':Nat}(I:Inv X f g H s)(k:∀b u,s.heap.get? b=some u->h'.get? b=some u)(c:s.heap.objs.size<=a)(d:Γ X.prog X.w (upd H a o) h' a o):Inv X f g (upd H a o) { s with heap:=h',toks:=t' }:=I.un (Un.laid k c (I.ψ.fresh c)) (I.ψ.laid k c d)
theorem Inv.write{x e:Addr}{o:HO}{i:Nat}(I:Inv X f g H s)(d:Mut (H x))(h:e=x\/H e=some (.own x))(k:∀b u,b≠e->s.heap.get? b=some u->h'.get? b=some u)(a:∃u,h'.get? e=some u)(c:Γ X.prog X.w (upd H x o) h' x o):Inv X f g (upd H x o) { s with heap:=h',toks:=i }:=I.un (Un.write d h k a) (I.ψ.write d h k a c)
theorem Inv.Yo{a:gf}(I:Inv X f g H s)(h:∀p∈a,s.heap.get? p.1=some p.2/\H p.1=none/\p.1≠X.env.locals/\p.1∉X.fs/\∀v,p.2.data≠.cell v):Inv X a g H s:=⟨I.ok,I.os,I.bare,I.base,I.loc,I.cell,I.free,I.Ϟ,λp b=>(aY.mp b).elim (λz=>I.pin p (bo _ z)) (h p),I.ψ,I.len⟩
theorem GM{N:gy}(c:N.Nodup){i j:Nat}{x:Str}(a:N[i]?=some x)(b:N[j]?=some x):i=j:=by
 obtain⟨k,d⟩:=az.mp a;obtain⟨h,e⟩:=az.mp b;exact(List.getElem_inj c).mp (d.trans e.symm)
theorem DI{M:Model}{A:Around}{E:f3}{i:Nat}{x:Str}{v:V}{u:Value}{Q:Unit->Shared->Prop}(I:Inv X f g H s)(hN:X.N.Nodup)(L:X.N[i]?=some x)(D:Loc X.env.scope x)(r:RelV v u)(h:∀s',Inv X f (g.set i (some v)) H s'->(∃a,Heap.SameBut a s.heap s'.heap/\(a=X.env.locals\/X.env.cells.lookup x=some a))->Q () s')(hf:X.fn x=true\/X.env.scope.names.lookup x=some .local:=by first|exact .inl rfl|exact .inr rfl|assumption):wpAny M A (storeName X.env x u) Q E s:=by
 obtain⟨m,Z,hl⟩:=id I.loc;have ab:(X.env.scope.kind==.class||(X.env.scope.kind==.module&&X.env.locals != X.env.globals))=false:=by rw[I.ok.kind];rfl
 have J:i<g.length:=by rw[I.len];exact(az.mp L).1
 have cne:=I.cne;have C:∀{a:Addr}{h':Heap},(∃o,s.heap.get? a=some o/\H a=none)->Heap.SameBut a s.heap h'->Ϭ X.prog X.w H h':=λ{a h'} ha l b ob e=>by
  obtain⟨_,_,Xw⟩:=ha;refine(I.ψ b ob e).iF (λc O hc q=>(l.2 c ?_).trans q) (λ_ q=>q) λ_ _ q=>q;rintro rfl;rcases hc with rfl|hc
  .rw[Xw]at e;cases e
  .rw[Xw]at hc;cases hc
 rcases D with hk|hk
 .refine wpAny_storeName_local hk Z (λh' S l=>?_) ab;obtain⟨oL,_,_,ac,_⟩:=id Z;refine h _ ⟨I.ok,I.os,I.bare,⟨λb o e n G D=>?_,λb o e n G D=>?_,I.base.free,λb o e D=>?_,I.base.oR,I.base.iN,I.base.rW⟩,⟨_,S,λj y T t F Y=>?_⟩,λy c e=>?_,I.free,I.Ϟ,λp W=>?_,C ⟨oL,ac,I.free⟩ l,by simpa using I.len⟩ ⟨_,l,.inl rfl⟩
  .exact(l.2 b (aV (aZ (aG e) I.ok.above))).trans (I.base.keep b o e n G D)
  .obtain⟨sl,t⟩:=I.base.slot b o e n G D;exact⟨sl,(l.2 b (aV (aZ (aG e) I.ok.above))).trans t⟩
  .obtain⟨o',t⟩:=I.base.there b o e D;exact⟨o',(l.2 b (aV (aZ (aG e) I.ok.above))).trans t⟩
  .by_cases hj:j=i
   .subst hj;rw[L]at t;cases t;rw[gC J]at F;cases F;exact⟨u,r,.inl ⟨hk,by simp⟩⟩
   .rw[dZ (Ne.symm hj)]at F;obtain⟨u',R,q⟩:=hl j y T t F Y;refine⟨u',R,?_⟩;rcases q with⟨k,e⟩|⟨k,c,e,z⟩
    .refine .inl ⟨k,?_⟩;have:y≠x:=λe=>hj (GM hN t (e▸L));simp[this,e]
    .exact .inr ⟨k,c,e,z.sameBut l (cne y c e)⟩
  .obtain⟨O,z⟩:=I.cell y c e;exact⟨O,z.sameBut l (cne y c e)⟩
  .obtain⟨e,n,ne,nf,d⟩:=I.pin p W;exact⟨(l.2 p.1 ne).trans e,n,ne,nf,d⟩
 .have hfn:X.fn x=true:=by
   rcases hf with z|z
   .exact z
   .rw[z]at hk;cases hk
  obtain⟨c,hc⟩:=I.ok.has x (.inl hk);obtain⟨O,z⟩:=I.cell x c hc;refine wpAny_storeName_cell I.ok.kind hk hc z (λh' YJ l=>?_);obtain⟨oc,K,U⟩:=id z;refine h { s with heap:=h' } ⟨I.ok,I.os,I.bare,⟨λb o e n G D=>?_,λb o e n G D=>?_,I.base.free,λb o e D=>?_,I.base.oR,I.base.iN,I.base.rW⟩,⟨m,Z.sameBut l (Ne.symm (cne x c hc)),λj y T t F Y=>?_⟩,λy P e=>?_,I.free,I.Ϟ,λp W=>?_,C ⟨oc,K,I.Ϟ x c hc⟩ l,by simpa using I.len⟩ ⟨c,l,.inr hc⟩
  .exact(l.2 b (aV (aZ (aG e) (I.ok.cab x c hfn hc)))).trans (I.base.keep b o e n G D)
  .obtain⟨sl,t⟩:=I.base.slot b o e n G D;exact⟨sl,(l.2 b (aV (aZ (aG e) (I.ok.cab x c hfn hc)))).trans t⟩
  .obtain⟨o',t⟩:=I.base.there b o e D;exact⟨o',(l.2 b (aV (aZ (aG e) (I.ok.cab x c hfn hc)))).trans t⟩
  .by_cases hj:j=i
   .subst hj;rw[L]at t;cases t;rw[gC J]at F;cases F;exact⟨u,r,.inr ⟨.inl hk,c,hc,YJ⟩⟩
   .rw[dZ (Ne.symm hj)]at F;obtain⟨u',R,q⟩:=hl j y T t F Y;refine⟨u',R,?_⟩;rcases q with q|⟨k,P,e,z'⟩
    .exact .inl q
    .refine .inr ⟨k,P,e,z'.sameBut l ?_⟩;rintro rfl;exact hj (GM hN t (I.ok.inj _ _ _ e hc▸L))
  .by_cases hcc:P=c
   .subst hcc;exact⟨_,YJ⟩
   .obtain⟨w2,z2⟩:=I.cell y P e;exact⟨w2,z2.sameBut l hcc⟩
  .obtain⟨e,n,ne,nf,d⟩:=I.pin p W;refine⟨(l.2 p.1 ?_).trans e,n,ne,nf,d⟩;intro q;rw[q,K]at e;have q':oc=p.2:=bi e;exact d O (by rw[<-q'];exact U)
theorem zV{M:Model}{A:Around}{E:f3}{i:Nat}{x:Str}{v:V}{u:Value}{Q:Unit->Shared->Prop}(I:Inv X f g H s)(b:X.N.Nodup)(d:X.N[i]?=some x)(e:Loc X.env.scope x)(r:RelV v u)(h:∀a,Inv X f (g.set i (some v)) H a->Q () a)(j:X.fn x=true\/X.env.scope.names.lookup x=some .local:=by first|exact .inl rfl|exact .inr rfl|assumption):wpAny M A (storeName X.env x u) Q E s:=DI I b d e r (λa c _=>h a c) j
theorem Inv.aaH{s':Shared}{ch:gg}(I:Inv X f g H s)(d:s'.os=s.os)(u:Un (ϭ X.stack) ch H B s.heap s'.heap)(a:Ϭ X.prog X.w B s'.heap)(i:AllBare s'.gens)(h:∀b∈ch,(b∈X.ex\/X.s₀.heap.objs.size<=b)/\b≠X.env.locals/\(∀x c,X.env.cells.lookup x=some c->c≠b)/\∀p∈X.pn++f,p.1≠b):Inv X f g B s':=by
 obtain⟨h',g',d',t',j⟩:=s';have e:j=s.os:=d;subst e;exact I.call (g':=g') (t':=t') (d':=d') u a i h
end
abbrev XK:=Value->Option Addr->Hp->Prop
abbrev St:=List (Option V)
abbrev VK:=V->Hp->Prop
abbrev TE:=St->Hp->VK->Prop
abbrev TT:=St->Hp->(Bool->Hp->Prop)->Prop
abbrev TA:=St->Hp->(List V->Hp->Prop)->Prop
structure Ends where
 nx:St->Hp->Prop
 rt:VK
 bk:St->Hp->Prop:=λ_ _=>False
 ct:St->Hp->Prop:=λ_ _=>False
abbrev TS:=Ends->St->Hp->Prop
def EP(X:Cx)(a:gf)(d:St)(Q:VK)(u:Value)(c:Shared):Prop:=∃v b,Inv X a d b c/\RelV v u/\Q v b
def TP(X:Cx)(a:gf)(e:St)(Q:Bool->Hp->Prop)(b:Bool)(d:Shared):Prop:=∃c,Inv X a e c d/\Q b c
def AP(X:Cx)(a:gf)(e:St)(Q:List V->Hp->Prop)(f:gn)(d:Shared):Prop:=∃b c,Inv X a e c d/\Vals b f/\Q b c
def SP(X:Cx)(b:gf)(D:Ends)(f:Flow)(d:Shared):Prop:=match f with
 | .next=>∃a c,Inv X b a c d/\D.nx a c
 | .brk=>∃a c,Inv X b a c d/\D.bk a c
 | .cont=>∃a c,Inv X b a c d/\D.ct a c
 | .ret u=>∃v a c,Inv X b a c d/\RelV v u/\D.rt v c
def PE(X:Cx)(e:Expr)(t:TE):Prop:=∀(a:gf)(s:Shared)(b:St)(H:Hp)(Q:VK),Inv X a b H s->t b H Q->wpAny (model X.prog X.w) X.A (eval e X.env) (EP X a b Q) X.xe s
def PT(X:Cx)(e:Expr)(t:TT):Prop:=∀(a:gf)(s:Shared)(b:St)(H:Hp)(Q:Bool->Hp->Prop),Inv X a b H s->t b H Q->wpAny (model X.prog X.w) X.A (isTrue e X.env (eval e X.env)) (TP X a b Q) X.xe s
def PW(X:Cx)(e:Expr)(t:TT):Prop:=∀(b:Sem Value)(a:gf)(s:Shared)(c:St)(H:Hp)(Q:Bool->Hp->Prop),Inv X a c H s->t c H Q->wpAny (model X.prog X.w) X.A (isTrue e X.env b) (TP X a c Q) X.xe s
theorem PW.pt{X:Cx}{e:Expr}{t:TT}(h:PW X e t):PT X e t:=h _
def PA(X:Cx)(d:List Expr)(t:TA):Prop:=∀(b:Pos)(a:gf)(s:Shared)(c:St)(H:Hp)(Q:List V->Hp->Prop),Inv X a c H s->t c H Q->wpAny (model X.prog X.w) X.A (spliced (backTo b (starEach d X.env))) (AP X a c Q) X.xe s
def PS(X:Cx)(st:Stmt)(t:TS):Prop:=∀(a:gf)(s:Shared)(b:St)(H:Hp)(D:Ends),Inv X a b H s->t D b H->wpAny (model X.prog X.w) X.A (exec st X.env) (SP X a D) X.xe s
def X7(X:Cx)(st:List Stmt)(t:TS):Prop:=∀(a:gf)(s:Shared)(b:St)(H:Hp)(D:Ends),Inv X a b H s->t D b H->wpAny (model X.prog X.w) X.A (execs st X.env) (SP X a D) X.xe s
theorem ϑ{c:Type}{t:Sem c}{Q b:c->Shared->Prop}{M:Model}{A:Around}{E:f3}{s:Shared}(h:wpAny M A t Q E s)(d:∀a s,Q a s->b a s):wpAny M A t b E s:=di h d λ_ _ x=>x
theorem dR{t:Sem Value}{X:Cx}{a:gf}{c:St}{Q:VK}{b:f3}{M:Model}{A:Around}{E:f3}{s:Shared}(h:wpAny M A t (EP X a c Q) E s)(d:∀u s v H,Inv X a c H s->RelV v u->Q v H->b u s):wpAny M A t b E s:=ϑ h λu s ⟨v,H,I,r,q⟩=>d u s v H I r q
theorem uh{t:Sem (List Value)}{X:Cx}{a:gf}{c:St}{Q:List V->Hp->Prop}{b:List Value->Shared->Prop}{M:Model}{A:Around}{E:f3}{s:Shared}(h:wpAny M A t (AP X a c Q) E s)(d:∀u s v H,Inv X a c H s->Vals v u->Q v H->b u s):wpAny M A t b E s:=ϑ h λu s ⟨v,H,I,r,q⟩=>d u s v H I r q
theorem Da{t:Sem Bool}{X:Cx}{a:gf}{c:St}{Q:Bool->Hp->Prop}{b:Bool->Shared->Prop}{M:Model}{A:Around}{E:f3}{s:Shared}(h:wpAny M A t (TP X a c Q) E s)(d:∀u s H,Inv X a c H s->Q u H->b u s):wpAny M A t b E s:=ϑ h λu s ⟨H,I,q⟩=>d u s H I q
section
variable{X:Cx}
def wD(i:Nat):TE:=λa H Q=>∃v,a[i]?=some (some v)/\Q v H
def tC(v:V):TE:=λ_ H Q=>Q v H
theorem FY{i:Nat}{x:Str}{f:Pos}(j:X.N[i]?=some x)(p:Vis X.env.scope x)(d:(x==("__debug__":Str))=false:=by decide)(g:(x==("__classdict__":Str))=false:=by decide):PE X (.Name x f) (wD i):=by
 intro b s o H Q I h;obtain⟨v,e,h⟩:=h;obtain⟨m,n,k⟩:=I.loc;obtain⟨u,r,l⟩:=k i x v j e p;have a:EP X b o Q u s:=⟨v,H,I,r,h⟩;rcases l with⟨hk,hm⟩|⟨hk,c,hc,ϸ⟩
 .exact wpAny_Name (wpAny_loadName_local I.ok.kind hk n hm a) d
 .rcases hk with hk|hk
  .exact wpAny_Name (wpAny_loadName_cell I.ok.kind hk hc ϸ a) d
  .exact wpAny_Name (wpAny_loadName_free I.ok.kind hk hc ϸ a g) d
theorem aU{i j pos}:PE X (.Constant (.int i) j pos) (tC (.int i)):=λ_ _ _ H _ I h=>wpAny_Constant_int ⟨.int i,H,I.tok _,⟨_,rfl⟩,h⟩
theorem rV{b j pos}:PE X (.Constant (.bool b) j pos) (tC (.bl b)):=λ_ _ _ H _ I h=>Constant_bool ⟨.bl b,H,I,rfl,h⟩
theorem Bx{j pos}:PE X (.Constant .none j pos) (tC .ω):=λ_ _ _ H _ I h=>Constant_none ⟨.ω,H,I,rfl,h⟩
theorem tD{x j pos}:PE X (.Constant (.str x) j pos) (tC (.str x)):=λ_ _ _ H _ I h=>Calls.Constant_str ⟨.str x,H,I.tok _,⟨_,rfl⟩,h⟩
def Gl(X:Cx)(x:Str):Prop:=X.env.kindOf x=some .globalImplicit
theorem xM{E:f3}{a:gf}{s:Shared}{f:St}{H:Hp}{x:Str}{u:Value}{b:Pos}{Q:f3}(I:Inv X a f H s)(c:Gl X x)(e:X.mg x=some u)(h:Q u s)(d:(x==("__debug__":Str))=false:=by decide):wpAny (model X.prog X.w) X.A (eval (.Name x b) X.env) Q E s:=kL I.ok.kind c (Calls.loadGlobal_global (by rw[I.ok.glob];exact I.mod.glob.keeps I.bk) e h) d
theorem oP{E:f3}{a:gf}{s:Shared}{j:St}{H:Hp}{x:Str}{u:Value}{b:Pos}{Q:f3}(I:Inv X a j H s)(f:Gl X x)(e:X.mg x=none)(k:bootBuiltins x=some u)(h:Q u s)(g:x≠"__name__":=by decide)(c:(x==("__debug__":Str))=false:=by decide):wpAny (model X.prog X.w) X.A (eval (.Name x b) X.env) Q E s:=by
 obtain⟨l,i,d⟩:=I.mod.blt;exact kL I.ok.kind f (Calls.loadGlobal_builtin (by rw[I.ok.glob];exact I.mod.glob.keeps I.bk) e (by rw[I.ok.blt];exact i.keeps I.bk) ((d x g).trans k) h) c
theorem Rb{x:Str}{v:V}{u:Value}{a:Pos}(b:Gl X x)(d:X.mg x=some u)(r:RelV v u)(c:(x==("__debug__":Str))=false:=by decide):PE X (.Name x a) (tC v):=λ_ _ _ H _ I h=>xM I b d ⟨v,H,I,r,h⟩ c
theorem Co{x:Str}{v:V}{u:Value}{a:Pos}(b:Gl X x)(c:X.mg x=none)(d:bootBuiltins x=some u)(r:RelV v u)(hn:x≠"__name__":=by decide)(hd:(x==("__debug__":Str))=false:=by decide):PE X (.Name x a) (tC v):=λ_ _ _ H _ I h=>oP I b c d ⟨v,H,I,r,h⟩ hn hd
variable{a b:Expr}{g o:TE}{pos:Pos}
def PC(X:Cx)(h:CmpOp)(a b:Expr)(t:TE):Prop:=∀(c:gf)(s:Shared)(f:St)(H:Hp)(Q:VK),Inv X c f H s->t f H Q->wpAny (model X.prog X.w) X.A (eval a X.env) (λv d=>wpAny (model X.prog X.w) X.A (eval b X.env) (λu e=>wpAny (model X.prog X.w) X.A (compareOp h v u) (EP X c f Q) X.xe e) X.xe d) X.xe s
theorem PP(b:Expr){c:CmpOp}(h:c≠.In)(e:c≠.NotIn):behindInMarks c b=false:=by
 have d:(c==CmpOp.In)=false:=by cases c<;>first|rfl|exact absurd rfl h
 have f:(c==CmpOp.NotIn)=false:=by cases c<;>first|rfl|exact absurd rfl e
 cases b<;>simp[behindInMarks,d,f]
def Lf(g:TE):TE:=λd H Q=>g d H λx c=>Q (.bl (!decide (x=.ω))) c
theorem RelV.Zd{x:V}{v:Value}(r:RelV x v):(v==Value.none)=decide (x=.ω):=by
 cases x with
 | ω=>cases r;rfl
 | bl _=>cases r;rfl
 | int _=>obtain⟨t,rfl⟩:=r;rfl
 | str _=>obtain⟨t,rfl⟩:=r;rfl
 | X1 _=>obtain⟨t,rfl⟩:=r;rfl
 | flt _=>obtain⟨t,rfl⟩:=r;rfl
 | ref _=>cases r;rfl
 | ty _=>cases r;rfl
theorem Ry{j pos'}(ha:PE X a g):PC X .IsNot a (.Constant .none j pos') (Lf g):=by
 intro c s i H Q I h;refine dR (ha c s i H _ I h) λv l x d e f k=>?_;exact Constant_none (isnot_none_gen ⟨.bl _,d,e,by rw[f.Zd];rfl,k⟩)
def tB(t:TE):TT:=λe H Q=>t e H λx d=>∃c,x=.bl c/\Q c d
theorem Fb{f:CmpOp}{t:TE}(h:PC X f a b t)(i:behindInMarks f b=false:=by first|exact PP _ (by decide) (by decide)|rfl):PT X (.Compare a [f] [b] pos) (tB t):=by
 intro e s r H Q I n;refine wpAny_isTrue_Compare1 (ϑ (h e s r H _ I n) λv z i=>ϑ i λu y k=>ϑ k λc w ⟨x,j,m,p,l⟩=>?_) i;obtain⟨d,rfl,q⟩:=l;cases p;exact cQ ⟨j,m,q⟩
theorem mq{e:Expr}{t:TE}(h:PE X e t)(n:∀c,isTrue e X.env c=(do let v <-c;standAt e.pos;holding [v] (truthy v)):=by intro _;rfl):PT X e (tB t):=by
 intro f s p H Q I l;refine isTrue_plain (dR (h f s p H _ I l) λv r x i k m j=>?_) (n _);obtain⟨d,rfl,q⟩:=j;cases m;exact cQ ⟨i,k,q⟩
variable{k n:TT}{f:List Expr}
def Nq(t u:TT):TT:=λe H Q=>t e H λc d=>if c=true then u e d Q else Q false d
def tOr(t u:TT):TT:=λe H Q=>t e H λc d=>if c=true then Q true d else u e d Q
def P5(t:TT):TT:=λe H Q=>t e H λc d=>Q (!c) d
theorem CN(i:PT X a k):PW X (.BoolOp .And [a] pos) k:=by
 intro m d s j H Q I h;refine isTrue_and (ϑ (i d s j H Q I h) λc l e=>?_);cases c with
 | true=>exact isTrue_and_nil e
 | false=>exact e
theorem wI(i:PT X a k):PW X (.BoolOp .Or [a] pos) k:=by
 intro m d s j H Q I h;refine isTrue_or (ϑ (i d s j H Q I h) λc l e=>?_);cases c with
 | false=>exact isTrue_or_nil e
 | true=>exact e
theorem Fq(r:PT X a k)(p:PW X (.BoolOp .And (b::f) pos) n):PW X (.BoolOp .And (a::b::f) pos) (Nq k n):=by
 intro q d s j H Q I h;refine isTrue_and (Da (r d s j H _ I h) λc m e i l=>?_);cases c with
 | true=>exact p q d m j e Q i l
 | false=>exact⟨e,i,l⟩
theorem BS(r:PT X a k)(p:PW X (.BoolOp .Or (b::f) pos) n):PW X (.BoolOp .Or (a::b::f) pos) (tOr k n):=by
 intro q d s j H Q I h;refine isTrue_or (Da (r d s j H _ I h) λc m e i l=>?_);cases c with
 | true=>exact⟨e,i,l⟩
 | false=>exact p q d m j e Q i l
theorem kK(i:PT X a k):PT X (.UnaryOp .Not a pos) (P5 k):=by
 intro d s j H Q I h;exact isTrue_not (i d s j H (λc e=>Q (!c) e) I h)
def Lb(g o:TE):TE:=λe H Q=>g e H λx d=>∃c,x=.bl c/\if c=true then o e d Q else Q (.bl false) d
def KR(g:TE):TE:=λe H Q=>g e H λx d=>∃c,x=.bl c/\Q (.bl (!c)) d
theorem Ar{op}{t:TE}(h:PE X a t):PE X (.BoolOp op [a] pos) t:=λc s e H Q I d=>BoolOp_one (h c s e H Q I d)
theorem Ah(r:PE X a g)(p:PE X (.BoolOp .And (b::f) pos) o):PE X (.BoolOp .And (a::b::f) pos) (Lb g o):=by
 intro d s l H Q I h;refine BoolOp_and (dR (r d s l H _ I h) λv m x i j q e=>?_);obtain⟨c,rfl,e⟩:=e;cases q;refine cQ ?_;cases c with
 | true=>exact p d m l i Q j e
 | false=>exact⟨.bl false,i,j,rfl,e⟩
theorem Up(m:PE X a g):PE X (.UnaryOp .Not a pos) (KR g):=by
 intro d s p H Q I h;refine UnaryOp_ (dR (m d s p H _ I h) λv q x i j l e=>?_);obtain⟨c,rfl,e⟩:=e;cases l;exact not_of (cQ ⟨.bl (!c),i,j,rfl,e⟩)
end
def ξ(K:f5)(H:Hp)(a:Addr)(xs:List V):Prop:=Rd H a (.lst xs)\/∃(o:Obj)(b:Array Value)(n:Nat),K.lookup a=some o/\o.cls=.type "list"/\o.dict=none/\o.data=.seq b n/\b.size<=sizeLine/\Vals xs b.toList
def Ξ(K:f5)(H:Hp)(a:Addr)(xs:List V):Prop:=Rd H a (.tup xs)\/∃(o:Obj)(b:Array Value)(n:Nat),K.lookup a=some o/\o.cls=.type "tuple"/\o.data=.seq b n/\b.size<=sizeLine/\Vals xs b.toList
def V7:Value->Option V
 | .none=>some .ω
 | .bool b=>some (.bl b)
 | .int i _=>some (.int i)
 | .str x _=>some (.str x)
 | .bytes b _=>some (.X1 b)
 | .float b _=>some (.flt b)
 | .ref a=>some (.ref a)
 | .type n=>some (.ty n)
 | _=>none
theorem RelV.abs{x:V}{u:Value}(r:RelV x u):V7 u=some x:=by
 cases x with
 | ω=>cases r;rfl
 | bl _=>cases r;rfl
 | int _=>obtain⟨t,rfl⟩:=r;rfl
 | str _=>obtain⟨t,rfl⟩:=r;rfl
 | X1 _=>obtain⟨t,rfl⟩:=r;rfl
 | flt _=>obtain⟨t,rfl⟩:=r;rfl
 | ref _=>cases r;rfl
 | ty _=>cases r;rfl
theorem RelV.inj{x y:V}{u:Value}(r:RelV x u)(q:RelV y u):x=y:=bi (r.abs.symm.trans q.abs)
theorem Vals.inj{b a:List V}{d:gn}(h:Vals b d)(c:Vals a d):b=a:=by
 induction h generalizing a with
 | nil=>cases c;rfl
 | cons r _ ih=>cases c with|cons r2 t2=>rw[r.inj r2,ih t2]
section
variable{X:Cx}{b:gf}{f:St}{H:Hp}{s:Shared}{a:Addr}{xs c:List V}
theorem ξ.of{K:f5}(h:H a=some (.lst xs)):ξ K H a xs:=.inl (.inl h)
theorem Ξ.of{K:f5}(h:H a=some (.tup xs)):Ξ K H a xs:=.inl (.inl h)
theorem Inv.list(I:Inv X b f H s)(h:ξ X.K H a xs):∃d:List Value,Vals xs d/\PlainL s.heap a d.toArray/\xs.length<=sizeLine:=by
 rcases h with h|⟨o,d,n,g,i,hd,j,k,r⟩
 .obtain⟨z,d,n,r,e⟩:=h.ok I.ψ;exact⟨d,r,⟨_,n,e,rfl,rfl,rfl⟩,z⟩
 .refine⟨d.toList,r,⟨o,n,I.WB a o g,i,hd,by simpa using j⟩,?_⟩;have e:=r.length;simp only[nK]at e
  lia
theorem Inv.tuple(I:Inv X b f H s)(h:Ξ X.K H a xs):∃d:List Value,Vals xs d/\IsTup s.heap a d.toArray/\xs.length<=sizeLine:=by
 rcases h with h|⟨o,d,n,g,i,j,k,r⟩
 .obtain⟨z,d,r,p⟩:=h.ok I.ψ;exact⟨d,r,p,z⟩
 .refine⟨d.toList,r,⟨o,I.WB a o g,i,n,by simpa using j⟩,?_⟩;have e:=r.length;simp only[nK]at e
  lia
theorem Inv.iO(I:Inv X b f H s)(h:ξ X.K H a xs)(m:ξ X.K H a c):xs=c:=by
 obtain⟨i,r,⟨o,n,e,_,_,d⟩,_⟩:=I.list h;obtain⟨g,l,⟨p,q,k,_,_,j⟩,_⟩:=I.list m;rw[e]at k;cases k;rw[d]at j;injection j with d1 _
 have:i=g:=by simpa using congrArg Array.toList d1
 subst this;exact r.inj l
theorem Inv.WV(I:Inv X b f H s)(h:Ξ X.K H a xs)(m:Ξ X.K H a c):xs=c:=by
 obtain⟨i,r,⟨o,e,_,n,d⟩,_⟩:=I.tuple h;obtain⟨g,l,⟨p,k,_,q,j⟩,_⟩:=I.tuple m;rw[e]at k;cases k;rw[d]at j;injection j with d1 _
 have:i=g:=by simpa using congrArg Array.toList d1
 subst this;exact r.inj l
end
abbrev Cx.wish(X:Cx)(E:f3):Cx:={ X with xe:=E }
abbrev Cx.nox(X:Cx):Cx:=X.wish λ_ _=>False
theorem Cx.Ok.wish{X:Cx}(a:X.Ok)(E:f3):(X.wish E).Ok:=⟨a.mod,a.kind,a.glob,a.blt,a.above,a.inj,a.has,a.cab,a.hd,a.frames,a.stk,a.exf,a.bs,a.ZZ,a.YH,a.X4,a.Ac,a.frf⟩
theorem Cx.Ok.Ϯ{X:Cx}{E:f3}(a:(X.wish E).Ok):X.Ok:=⟨a.mod,a.kind,a.glob,a.blt,a.above,a.inj,a.has,a.cab,a.hd,a.frames,a.stk,a.exf,a.bs,a.ZZ,a.YH,a.X4,a.Ac,a.frf⟩
section
variable{X:Cx}{a:gf}{b:St}{H:Hp}{s:Shared}{E:f3}
theorem Inv.wish(I:Inv X a b H s)(E:f3):Inv (X.wish E) a b H s:=⟨I.ok.wish E,I.os,I.bare,I.base,I.loc,I.cell,I.free,I.Ϟ,I.pin,I.ψ,I.len⟩
theorem Inv.Ϯ(I:Inv (X.wish E) a b H s):Inv X a b H s:=⟨I.ok.Ϯ,I.os,I.bare,I.base,I.loc,I.cell,I.free,I.Ϟ,I.pin,I.ψ,I.len⟩
theorem SP.Ϯ{D:Ends}{f:Flow}{e:Shared}(h:SP (X.wish E) a D f e):SP X a D f e:=by
 cases f with
 | next=>obtain⟨c,d,I,q⟩:=h;exact⟨c,d,I.Ϯ,q⟩
 | brk=>obtain⟨c,d,I,q⟩:=h;exact⟨c,d,I.Ϯ,q⟩
 | cont=>obtain⟨c,d,I,q⟩:=h;exact⟨c,d,I.Ϯ,q⟩
 | ret u=>obtain⟨v,c,d,I,r,q⟩:=h;exact⟨v,c,d,I.Ϯ,r,q⟩
theorem X7.nox{st:List Stmt}{t:TS}(h:X7 X.nox st t):X7 X st t:=λa s b H D I c=>
 di (h a s b H D (I.wish _) c) (λ_ _ q=>q.Ϯ) λ_ _ z=>False.elim z
end
section
variable{X:Cx}{k:Stmt}{j:List Stmt}{t u:TS}{e:Expr}{i:TE}{g:Pos}
def Ze:TS:=λD a H=>D.nx a H
def K6(t u:TS):TS:=λD a H=>t { D with nx:=u D } a H
theorem dy:X7 X [] Ze:=λ_ _ a H _ I h=>jk ⟨a,H,I,h⟩
theorem aD(m:PS X k t)(l:X7 X j u):X7 X (k::j) (K6 t u):=by
 intro a s o H D I h;refine wpAny_execs_cons (ϑ (m a s o H { D with nx:=u D } I h) λf c q=>?_);cases f with
 | next=>
   obtain⟨b,n,d,q⟩:=q;exact l a c b n D d q
 | ret v=>exact q
 | brk=>exact q
 | cont=>exact q
theorem aO(b:PS X k t):X7 X [k] t:=by
 intro a s c H D I h;refine wpAny_execs_cons (ϑ (b a s c H D I h) λf d q=>?_);cases f with
 | next=>exact jk q
 | ret v=>exact q
 | brk=>exact q
 | cont=>exact q
theorem Inv.quiet{a:gf}{b:St}{H:Hp}{s:Shared}(I:Inv X a b H s):interactive X.env=false:=by simp[interactive,I.ok.kind]
def JL(i:TE):TS:=λD a H=>i a H λ_ b=>D.nx a b
theorem dz(f:PE X e i)(m:swapsWith e none g.line X.env=pure false:=by rfl):PS X (.Expr e g) (JL i):=by
 intro a s b H D I h;exact wpAny_Expr_any (dR (f a s b H _ I h) λv n x c d o l=>⟨b,c,d,l⟩) I.quiet m
def QZ(i:TE):TS:=λD a H=>i a H D.rt
theorem bR(f:PE X e i):PS X (.Return (some e) g) (QZ i):=by
 intro a s b H D I h;exact wpAny_Return_some (dR (f a s b H _ I h) λv n x c d l m=>⟨x,b,c,d,l,m⟩)
def Nt(c:TT)(t u:TS):TS:=λD a H=>c a H λb d=>if b=true then t D a d else u D a d
theorem eK{c:Expr}{a b:List Stmt}{p:TT}(w:PT X c p)(r:X7 X a t)(v:X7 X b u):PS X (.If c a b g) (Nt p t u):=by
 intro f s l H D I h;refine wpAny_If (Da (w f s l H _ I h) λd o m q n=>?_);cases d with
 | true=>exact r f o l m D q n
 | false=>exact v f o l m D q n
def Zf:TS:=λ_ _ _=>False
theorem qM:PS X k Zf:=λ_ _ _ _ _ _ h=>h.elim
end
abbrev TG:=V->St->Hp->(St->Hp->Prop)->Prop
abbrev TGs:=List V->St->Hp->(St->Hp->Prop)->Prop
def PG(X:Cx)(a:Expr)(t:TG):Prop:=∀(b:gf)(s:Shared)(e:St)(H:Hp)(v:V)(u:Value)(Q:St->Hp->Prop),Inv X b e H s->RelV v u->t v e H Q->wpAny (model X.prog X.w) X.A (assign a X.env u) (λ_ f=>∃c d,Inv X b c d f/\Q c d) X.xe s
def PGs(X:Cx)(g:List Expr)(t:TGs):Prop:=∀(a:gf)(s:Shared)(e:St)(H:Hp)(c:List V)(f:gn)(Q:St->Hp->Prop),Inv X a e H s->Vals c f->t c e H Q->wpAny (model X.prog X.w) X.A (assignInOrder ((assignEach g X.env).map (·.2)) f) (λ_ h=>∃b d,Inv X a b d h/\Q b d) X.xe s
abbrev FD:=V->V->V->Hp->(Hp->Prop)->Prop
def Ow(X:Cx)(t:FD):Prop:=∀(a:gf)(s:Shared)(e:St)(H:Hp)(o i v:V)(b c u:Value)(Q:Hp->Prop),Inv X a e H s->RelV o b->RelV i c->RelV v u->t o i v H Q->wpAny (model X.prog X.w) X.A (setItem b c u) (λ_ f=>∃d,Inv X a e d f/\Q d) X.xe s
abbrev TIp:=V->V->Hp->VK->Prop
def PIp(X:Cx)(c:Operator)(t:TIp):Prop:=∀(a:gf)(s:Shared)(b:St)(H:Hp)(x y:V)(v u:Value)(Q:VK),Inv X a b H s->RelV x v->RelV y u->t x y H Q->wpAny (model X.prog X.w) X.A (inplaceOp c v u) (EP X a b Q) X.xe s
section
variable{X:Cx}{d:Pos}
def vC(i:Nat):TG:=λv a H Q=>Q (a.set i (some v)) H
theorem fj{i:Nat}{x:Str}(b:X.N.Nodup)(f:X.N[i]?=some x)(c:Loc X.env.scope x)(e:X.fn x=true\/X.env.scope.names.lookup x=some .local:=by first|exact .inl rfl|exact .inr rfl|assumption):PG X (.Name x d) (vC i):=by
 intro a s k H v u Q I r h;exact wpAny_assign_Name (zV I b f c r (λj g=>⟨_,H,g,h⟩) e)
def abm:TGs:=λa b H Q=>a=[]/\Q b H
def Kh(t:TG)(u:TGs):TGs:=λb e H Q=>∃v r,b=v::r/\t v e H λa c=>u r a c Q
theorem iL:PGs X [] abm:=by
 intro a s b H c f Q I r h;obtain⟨e,h⟩:=h;subst e;cases r;exact assignInOrder_nil ⟨b,H,I,h⟩
theorem cA{e:Expr}{b:List Expr}{t:TG}{u:TGs}(m:PG X e t)(i:PGs X b u)(o:(assignEach (e::b) X.env).map (·.2)=assign e X.env::(assignEach b X.env).map (·.2):=by rfl):PGs X (e::b) (Kh t u):=by
 intro a s n H p q Q I r h;obtain⟨v,w,g,h⟩:=h;subst g;cases r with
 | cons r rr=>
   rw[o];refine assignInOrder_cons (ϑ (m a s n H _ _ _ I r h) λ_ k ⟨c,f,l,j⟩=>?_);exact i a k c f _ _ Q l rr j
def J0(K:f5)(n:Nat)(t:TGs):TG:=λv c H Q=>∃a b,v=.ref a/\Ξ K H a b/\b.length=n/\t b c H Q
theorem kN{f:List Expr}{k:Nat}{t:TGs}{n:Nat}(C:X.calm=true)(h:PGs X f t)(hn:(assignEach f X.env).length=n:=by rfl)(i:(assignEach f X.env).findIdx? (·.1)=none:=by rfl):PG X (.Tuple f k d) (J0 X.K n t):=by
 intro c s l H v u Q I r g;obtain⟨a,m,w,p,A,g⟩:=g;subst w;cases r;obtain⟨q,j,x,D⟩:=I.tuple p;refine assign_Tuple_tuple (I.ok.hd C) x (by simp[hn,<-A,j.length]) i λB z=>?_;have y:Inv X c l H { s with heap:=B }:=I.kept (t':=s.toks) λb o e=>z b o (aV (aG e)) e;exact h c _ l H m _ Q y (by simpa using j) g
def NC(g c:TE)(t:FD):TG:=λv a H Q=>g a H λo b=>c a b λi e=>t o i v e λf=>Q a f
theorem rf{o i:Expr}{f g:TE}{t:FD}(l:PE X o f)(J:PE X i g)(p:Ow X t)(G:∀v,assign (.Subscript o i d) X.env v=(do
 let b <-holding [v] (eval o X.env)
 let c <-holding [v,b] (eval i X.env)
 standAt d
 holding [v,b,c] (setItem b c v)
 release [v,b,c] []):=by intro _;rfl):PG X (.Subscript o i d) (NC f g t):=by
 intro a s e H v u Q I r h;rw[G];refine ak (gM (dR (l a s e H _ I h) λb w x k z A n=>?_));refine ak (gM (dR (J a w e k _ z n) λc F y D q E B=>?_));refine ak (jZ (ak (gM (ϑ (p a F e D x y v b c u _ q A E r B) λ_ K ⟨m,C,j⟩=>?_))));exact wpAny_release ⟨e,m,C,j⟩
def Dg(c:TE)(g:TG):TS:=λD a H=>c a H λx b=>g x a b D.nx
theorem nI{b e:Expr}{c:TE}{g:TG}(p:PE X e c)(l:PG X b g)(t:swapsWithSole [b] e d.line X.env=pure false:=by rfl)(n:swappedStores [b] e X.env=pure none:=by rfl)(r:(assignEach [b] X.env).map (·.2)=[assign b X.env]:=by rfl):PS X (.Assign [b] e d) (Dg c g):=by
 intro a s f H D I h;refine wpAny_Assign_stores (dR (p a s f H _ I h) λv k x i m o j=>?_) t n;rw[r];exact ϑ (l a k f i x v _ m o j) λ_ u q=>q
theorem u7{i:Nat}{x:Str}{e:Expr}{c:TE}{a:Pos}(g:X.N.Nodup)(q:X.N[i]?=some x)(n:Loc X.env.scope x)(p:PE X e c)(t:swapsWith e (some (.Name x a)) d.line X.env=pure false:=by rfl)(k:X.fn x=true\/X.env.scope.names.lookup x=some .local:=by first|exact .inl rfl|exact .inr rfl|assumption):PS X (.Assign [.Name x a] e d) (Dg c (vC i)):=by
 intro b s r H D I h;refine wpAny_Assign_Name (dR (p b s r H _ I h) λv u y f m o j=>?_) t;exact zV m g q n o (λw l=>⟨_,f,l,j⟩) k
def NO(i:Nat)(f:TE)(c:TIp):TS:=λD a H=>∃x,a[i]?=some (some x)/\f a H λy b=>c x y b λz e=>D.nx (a.set i (some z)) e
theorem sW{i:Nat}{x:Str}{e:Expr}{p:TE}{j:Operator}{q:TIp}{b:Pos}(G:X.N.Nodup)(C:X.N[i]?=some x)(n:Loc X.env.scope x)(Y:PE X e p)(F:PIp X j q)(L:X.fn x=true\/X.env.scope.names.lookup x=some .local:=by first|exact .inl rfl|exact .inr rfl|assumption):PS X (.AugAssign (.Name x b) j e d) (NO i p q):=by
 intro a s B H D I h;obtain⟨v,J,h⟩:=h;obtain⟨m,S,T⟩:=I.loc;have o:Vis X.env.scope x:=by rcases n with k|k;exact .inl k;exact .inr (.inl k)
 obtain⟨u,r,l⟩:=T i x v C J o;refine wpAny_AugAssign_Name ?_;have t:wpAny (model X.prog X.w) X.A (eval e X.env) (λw f=>wpAny (model X.prog X.w) X.A (inplaceOp j u w) (λr g=>wpAny (model X.prog X.w) X.A (storeName X.env x r) (λ_=>SP X a D .next) X.xe g) X.xe f) X.xe s:=by
  refine ϑ (Y a s B H _ I h) λw O ⟨y,E,P,Q,K⟩=>?_;refine ϑ (F a O B E v y u w _ P r Q K) λz s2 ⟨Z,V,M,W,R⟩=>?_;exact zV M G C n W (λs3 U=>⟨_,V,U,R⟩) L
 rcases l with⟨hk,hm⟩|⟨hk,c,hc,ϸ⟩
 .exact wpAny_loadName_local I.ok.kind hk S hm t
 .rcases hk with hk|hk
  .exact wpAny_loadName_cell I.ok.kind hk hc ϸ t
  .rcases n with k|k
   .have:X.env.scope.names.lookup x=some .free:=hk;rw[k]at this;cases this
   .have:X.env.scope.names.lookup x=some .free:=hk;rw[k]at this;cases this
def Kz(c l j:TE)(p:V->V->Hp->VK->Prop)(b:TIp)(f:FD):TS:=λD a H=>c a H λo g=>l a g λi n=>p o i n λx h=>j a h λy k=>b x y k λz m=>f o i z m λe=>D.nx a e
def Vi(X:Cx)(t:V->V->Hp->VK->Prop):Prop:=∀(a:gf)(s:Shared)(e:St)(H:Hp)(o i:V)(b c:Value)(Q:VK),Inv X a e H s->RelV o b->RelV i c->t o i H Q->wpAny (model X.prog X.w) X.A (getItem b c) (EP X a e Q) X.xe s
theorem Se{o i e:Expr}{l u r:TE}{x:V->V->Hp->VK->Prop}{j:TIp}{m:FD}{q:Operator}{We:Pos}(B:PE X o l)(hi:PE X i u)(U:Vi X x)(he:PE X e r)(Z:PIp X q j)(N:Ow X m)(ha:∀f c b,augStore i f c b=(do holding [b,f,c] (setItem f c b);release [b,f,c] [];pure .next):=by intros;rfl):PS X (.AugAssign (.Subscript o i We) q e d) (Kz l u r x j m):=by
 intro a s g H D I h;refine wpAny_AugAssign_SubscriptAny (dR (B a s g H _ I h) λf T n A W t M=>?_) ha;refine dR (hi a T g A _ W M) λc P p H2 Q w q2=>?_;refine ϑ (U a P g H2 n p f c _ Q t w q2) λk G ⟨C,E,I3,L,y⟩=>?_;refine dR (he a G g E _ I3 y) λv F x4 H4 K R q4=>?_;refine ϑ (Z a F g H4 C x4 k v _ K L R q4) λb J ⟨x5,H5,S,r5,Y⟩=>?_;exact ϑ (N a J g H5 n p x5 f c b _ S t w r5 Y) λ_ s6 ⟨z,O,q6⟩=>⟨g,z,O,q6⟩
def ipI(f:hD):TIp:=λx y H Q=>∃i j,x=.int i/\y=.int j/\Q (.int (f i j)) H
theorem xz:PIp X .Add (ipI λi j=>i+j):=by
 intro a s k H x y v u Q I e f h;obtain⟨i,j,c,b,q⟩:=h;subst c;subst b;obtain⟨t,rfl⟩:=e;obtain⟨g,rfl⟩:=f;exact iadd_int ⟨.int _,H,I.tok _,⟨_,rfl⟩,q⟩
theorem GD:PIp X .Sub (ipI λi j=>i-j):=by
 intro a s k H x y v u Q I e f h;obtain⟨i,j,c,b,q⟩:=h;subst c;subst b;obtain⟨t,rfl⟩:=e;obtain⟨g,rfl⟩:=f;exact isub_int ⟨.int _,H,I.tok _,⟨_,rfl⟩,q⟩
end
section
variable{X:Cx}{a:Pos}
def Ff(c:TT)(i:TS):TS:=λD d H=>∃W:Nat->St->Hp->Prop,(∃m,W m d H)/\∀m d H,W m d H->c d H λb f=>if b=true then ∃N:St->Hp->Prop,(∀e h,N e h->∃g,g<m/\W g e h)/\i { D with nx:=N,ct:=N,bk:=D.nx } d f else D.nx d f
theorem o9{c:Expr}{i:List Stmt}{B:TT}{F:TS}(C:PassesOwn (model X.prog X.w) X.A X.env X.xe)(R:PT X c B)(O:X7 X i F):PS X (.While c i [] a) (Ff B F):=by
 intro e s T H D I h;obtain⟨W,⟨Q,L⟩,l⟩:=h;refine wpAny_While (codeAny_whileLoop (λn P=>∃j E,Inv X e j E P/\W n j E) ?_ Q ⟨T,H,I,L⟩);rintro n K ⟨g,x,M,J⟩;refine fH C (Da (R e K g x _ M (l n g x J)) λb S G z o=>?_);cases b with
 | true=>
   obtain⟨N,y,o⟩:=o;rw[aj rfl];refine fH C (ϑ (O e S g G _ z o) λf U m=>?_);cases f with
   | next=>
     obtain⟨d,k,t,p⟩:=m;obtain⟨r,q,u⟩:=y d k p;exact⟨r,q,d,k,t,u⟩
   | cont=>
     obtain⟨d,k,t,p⟩:=m;obtain⟨r,q,u⟩:=y d k p;exact⟨r,q,d,k,t,u⟩
   | brk=>exact m
   | ret v=>exact m
 | false=>
   rw[ag bz];exact jk ⟨g,G,z,o⟩
end
structure It where
 go:Nat->Hp->Prop
 yld:Nat->Hp->V->Hp->Prop
 stop:Nat->Hp->Prop
def ph(X:Cx)(a:gf)(H:Hp)(b:Addr):Prop:=H b=none/\b≠X.env.locals/\b∉X.fs/\(b∈X.ex\/X.s₀.heap.objs.size<=b)/\(∀x c,X.env.cells.lookup x=some c->c≠b)/\∀p∈X.pn++a,p.1≠b
theorem Inv.YL{X:Cx}{a:gf}{g:St}{H f:Hp}{s:Shared}{b:Addr}(I:Inv X a g H s)(d:s.heap.objs.size<=b)(i:f b=none):ph X a f b:=by
 refine⟨i,eW (aZ I.lt d),I.ahQ d,.inr (aL I.sz d),λx c e z=>?_,λp h z=>?_⟩
 .obtain⟨v,q⟩:=I.cell x c e;exact absurd (aZ q.lt (by rw[z];exact d)) (cU _)
 .exact absurd (aZ (aG (I.pin p h).1) (by rw[z];exact d)) (cU _)
structure Turn(P:Program)(w:World)(K:f5)(tg:Expr)(J:It)(fp:gg)(it:Addr)(tn:Nat->Heap->Prop):Prop where
 mem:it∈fp
 obj:∀i h,tn i h->∀b∈fp,∃o,h.get? b=some o/\∀v,o.data≠.cell v
 keep:∀i h h',tn i h->(∀b∈fp,∀o,h.get? b=some o->h'.get? b=some o)->tn i h'
 item:∀(X:Cx),X.prog=P->X.w=w->X.K=K->X.calm=true->∀(i:Nat)(pins:gf)(s:Shared)(σ:St)(H:Hp)(E:f3),Inv X pins σ H s->(∀b∈fp,ph X pins H b)->tn i s.heap->J.go i H->wpAny (model P w) X.A (pyNext (.ref it)) (λr s1=>∃u,r=some u/\wpAny (model P w) X.A (letOwnedTupleGo tg (.ref it) u) (λ_ s2=>∃x H',Inv X pins σ H' s2/\RelV x u/\J.yld i H x H'/\tn (i+1) s2.heap/\∀b∈fp,H' b=none) E s1) E s
 done:∀(X:Cx),X.prog=P->X.w=w->X.K=K->X.calm=true->∀(i:Nat)(pins:gf)(s:Shared)(σ:St)(H:Hp)(E:f3),Inv X pins σ H s->(∀b∈fp,ph X pins H b)->tn i s.heap->J.stop i H->wpAny (model P w) X.A (pyNext (.ref it)) (λr s1=>r=none/\Inv X pins σ H s1) E s
 self:∀(A:Around)(i:Nat)(s:Shared)(Q:f3)(E:f3),tn i s.heap->Q (.ref it) s->wpAny (model P w) A (pyIter (.ref it)) Q E s
abbrev TI:=St->Hp->(It->Hp->Prop)->Prop
def PIE(X:Cx)(a:gf)(j:St)(i:Expr)(R:It->Hp->Prop)(c:Value)(g:Shared):Prop:=∃(h:Addr)(e:gg)(f:Nat->Heap->Prop)(J:It)(d:Hp),c=.ref h/\Inv X a j d g/\Turn X.prog X.w X.K i J e h f/\f 0 g.heap/\(∀b∈e,ph X a d b)/\R J d
def PI(X:Cx)(e b:Expr)(f:TI):Prop:=∀(a:gf)(s:Shared)(c:St)(H:Hp)(R:It->Hp->Prop),Inv X a c H s->f c H R->wpAny (model X.prog X.w) X.A (eval b X.env) (λv d=>wpAny (model X.prog X.w) X.A (pyIter v) (PIE X a c e R) X.xe d) X.xe s
theorem EK{M:Model}{A:Around}{E:f3}{s:Shared}{b:Expr}{d:Addr}{u:Value}{o:Obj}{n:String}{c:Array Value}{Q:Unit->Shared->Prop}(e:s.heap.get? d=some o)(i:o.cls=.type n)(g:o.data=.fields c)(f:["enumerate","zip","dict_itemiterator","dict_reverseitemiterator","odict_iterator","itertools.zip_longest","itertools.pairwise"].contains n=false)(a:Q () s):wpAny M A (letOwnedTupleGo b (.ref d) u) Q E s:=by
 unfold letOwnedTupleGo;cases b<;>first
  | exact ba a
  | (cases u<;>first
   | exact ba a
   | (refine ak (wpAny_load e ?_)
      rw[i,g];show wpAny M A (if(["enumerate","zip","dict_itemiterator","dict_reverseitemiterator","odict_iterator","itertools.zip_longest","itertools.pairwise"].contains n&&c[0]?==some (rawInt _))=true then _ else _) Q E s;rw[ag (by intro h;rw[f,iY]at h;cases h)];exact ba a))
def Itl(K:f5)(a:Addr):It:=⟨λi H=>∃b x,ξ K H a b/\b[i]?=some x,λi H x c=>c=H/\∀b,ξ K H a b->b[i]?=some x,λi H=>∃b,ξ K H a b/\b.length<=i⟩
def Itt(K:f5)(a:Addr):It:=⟨λi H=>∃b x,Ξ K H a b/\b[i]?=some x,λi H x c=>c=H/\∀b,Ξ K H a b->b[i]?=some x,λi H=>∃b,Ξ K H a b/\b.length<=i⟩
def ZN(lo:Int)(n:Nat):It:=⟨λi _=>i<n,λi H x a=>a=H/\x=.int (lo+i),λi _=>n<=i⟩
theorem Lo{P:Program}{w:World}{K:f5}{N:Expr}(a g:Addr):Turn P w K N (Itl K a) [g] g (λi h=>h.IsListIter g a i) where
 mem:=by simp
 obj:=λi h st b hb=>by
  have e:b=g:=by simpa using hb
  subst e;obtain⟨o,e,c,d⟩:=st;exact⟨o,e,λv z=>by rw[d]at z;cases z⟩
 keep:=λi h l st k=>st.at λo e=>k g (by simp) o e
 item:=by
  intro X C hw n hc i f s J H E I hf st A;subst C hw n;obtain⟨L,x,j,F⟩:=A;obtain⟨m,t,p,S⟩:=I.list j;obtain⟨u,U,M⟩:=t.get F;obtain⟨y,D,Q,B,q,r⟩:=hf g (by simp);refine wpAny_pyNext_list_item st p.isList (x:=u) (by simpa using U) λl G V=>?_;have T:Inv X f J H { s with heap:=l }:=I.turned (t':=s.toks) (λb o hb e=>(V.2 b hb).trans e) y D B q r;obtain⟨o,e,c,d⟩:=id G;exact⟨u,rfl,EK (s:={ s with heap:=l }) e c d (by decide) ⟨x,H,T,M,⟨rfl,λY O=>by rw[I.iO O j];exact F⟩,G,λb hb=>(hf b hb).1⟩⟩
 done:=by
  intro X C hw n hc i f s J H E I hf st A;subst C hw n;obtain⟨L,j,F⟩:=A;obtain⟨m,t,p,S⟩:=I.list j;obtain⟨y,D,Q,B,q,r⟩:=hf g (by simp);have Z:=t.length;exact wpAny_pyNext_list_end (I.ok.hd hc) st p.isList (by simp;lia) λl R=>⟨rfl,I.turned (t':=s.toks) (λb o hb e=>R b o hb e) y D B q r⟩
 self:=λ_ _ _ _ _ st h=>wpAny_pyIter_listiter st h
theorem J6{P:Program}{w:World}{K:f5}{N:Expr}(a j:Addr):Turn P w K N (Itt K a) [j] j (λi h=>h.IsTupleIter j a i) where
 mem:=by simp
 obj:=λi h st b hb=>by
  have e:b=j:=by simpa using hb
  subst e;obtain⟨o,e,c,d⟩:=st;exact⟨o,e,λv z=>by rw[d]at z;cases z⟩
 keep:=λi h m st k=>st.at λo e=>k j (by simp) o e
 item:=by
  intro X C hw n hc i f s J H E I hf st A;subst C hw n;obtain⟨L,x,l,F⟩:=A;obtain⟨g,t,p,S⟩:=I.tuple l;obtain⟨u,U,M⟩:=t.get F;obtain⟨y,D,Q,B,q,r⟩:=hf j (by simp);refine wpAny_pyNext_tuple_item st (show s.heap.IsTuple a g.toArray from p) (x:=u) (by simpa using U) λm G V=>?_;have T:Inv X f J H { s with heap:=m }:=I.turned (t':=s.toks) (λb o hb e=>(V.2 b hb).trans e) y D B q r;obtain⟨o,e,c,d⟩:=id G;exact⟨u,rfl,EK (s:={ s with heap:=m }) e c d (by decide) ⟨x,H,T,M,⟨rfl,λY O=>by rw[I.WV O l];exact F⟩,G,λb hb=>(hf b hb).1⟩⟩
 done:=by
  intro X C hw n hc i f s J H E I hf st A;subst C hw n;obtain⟨L,l,F⟩:=A;obtain⟨g,t,p,S⟩:=I.tuple l;obtain⟨y,D,Q,B,q,r⟩:=hf j (by simp);have Z:=t.length;exact wpAny_pyNext_tuple_end (I.ok.hd hc) st (show s.heap.IsTuple a g.toArray from p) (by simp;lia) λm R=>⟨rfl,I.turned (t':=s.toks) (λb o hb e=>R b o hb e) y D B q r⟩
 self:=λ_ _ _ _ _ st h=>wpAny_pyIter_tupleiter st h
theorem JO{P:Program}{w:World}{K:f5}{B:Expr}(c:Addr)(lo:Int)(n:Nat):Turn P w K B (ZN lo n) [c] c (λi h=>IsRangeIter h c (lo+(i:Nat)*1) ((n:Int)-(i:Nat)) 1) where
 mem:=by simp
 obj:=λi h st b hb=>by
  have e:b=c:=by simpa using hb
  subst e;exact⟨_,st,λv z=>by
   have F:Data.fields _=Data.cell v:=z;cases F⟩
 keep:=λi h d st k=>k c (by simp) _ st
 item:=by
  intro X q hw f hc i a s y H E I hf st m;subst q hw f;obtain⟨l,r,C,p,g,j⟩:=hf c (by simp);have W:=Walks.range (prog:=X.prog) (w:=X.w) (I.ok.hd hc) c lo 1 n;refine W.item i s _ _ m st λv d x hv u A=>?_;obtain⟨t,rfl⟩:=hv;have G:Inv X a y H { s with heap:=d,toks:=x }:=I.turned (λb o hb e=>A b o (by simpa using hb) e) l r p g j;refine⟨_,rfl,EK (s:={ s with heap:=d,toks:=x }) (n:="range_iterator") u rfl rfl (by decide) ⟨.int (lo+i),H,G,⟨t,?_⟩,⟨rfl,rfl⟩,u,λb hb=>(hf b hb).1⟩⟩;rw[iM]
 done:=by
  intro X q hw f hc i a s y H E I hf st m;subst q hw f;obtain⟨l,r,C,p,g,j⟩:=hf c (by simp);exact wpAny_pyNext_range_end (I.ok.hd hc) st (by have:n<=i:=m;lia) λd D=>⟨rfl,I.turned (t':=s.toks) (λb o hb e=>D b o hb e) l r p g j⟩
 self:=λ_ _ _ _ _ st h=>wpAny_pyIter_rangeiter st h
section
variable{X:Cx}{c:Expr}
def JK(K:f5)(e:TE):TI:=λf H R=>e f H λx b=>∃a,x=.ref a/\(∃d,ξ K b a d)/\R (Itl K a) b
def OU(K:f5)(e:TE):TI:=λf H R=>e f H λx b=>∃a,x=.ref a/\(∃d,Ξ K b a d)/\R (Itt K a) b
theorem g6{l:Expr}{i:TE}(t:PE X l i):PI X c l (JK X.K i):=by
 intro d s w H R I h;refine dR (t d s w H _ I h) λv f x m g r n=>?_;obtain⟨a,e,⟨y,j⟩,q⟩:=n;subst e;cases r;obtain⟨k,z,p,A⟩:=g.list j;refine iI p.isList ?_;refine⟨f.heap.objs.size,[f.heap.objs.size],_,_,m,rfl,g.kept (t':=f.toks) λb o e=>ar _ e,Lo a _,⟨_,bf _ rfl,rfl,rfl⟩,λb u=>?_,q⟩;have e:b=f.heap.objs.size:=by simpa using u
 subst e;exact g.YL (ap _) (g.ψ.fresh (ap _))
theorem uT{l:Expr}{j:TE}(t:PE X l j):PI X c l (OU X.K j):=by
 intro d s w H R I h;refine dR (t d s w H _ I h) λv f x m g r n=>?_;obtain⟨a,e,⟨y,k⟩,q⟩:=n;subst e;cases r;obtain⟨i,z,p,A⟩:=g.tuple k;refine kg (show f.heap.IsTuple a i.toArray from p) ?_;refine⟨f.heap.objs.size,[f.heap.objs.size],_,_,m,rfl,g.kept (t':=f.toks) λb o e=>ar _ e,J6 a _,⟨_,bf _ rfl,rfl,rfl⟩,λb u=>?_,q⟩;have e:b=f.heap.objs.size:=by simpa using u
 subst e;exact g.YL (ap _) (g.ψ.fresh (ap _))
theorem Gw{d:gf}{h:St}{H:Hp}{s:Shared}{R:It->Hp->Prop}{E:f3}{lo a:Int}{t u v:Tok}{g:Nat}(I:Inv X d h H s)(n:-(2^62)<=lo)(k:lo<2^62)(l:-(2^62)<=a)(j:a<2^62)(q:R (ZN lo (a-lo).toNat) H):wpAny (model X.prog X.w) X.A (pyIter (.ref s.heap.objs.size)) (PIE X d h c R) E { s with heap:=s.heap.push { cls:=.type "range",data:=.fields #[.int lo t,.int a u,.int 1 v] },toks:=g }:=by
 refine wpAny_pyIter_range (IsRange.new ..) (small_one n k l j) ?_;have f:Inv X d h H { s with heap:=s.heap.push { cls:=.type "range",data:=.fields #[.int lo t,.int a u,.int 1 v] },toks:=g }:=I.kept λb o e=>ar _ e;refine⟨(s.heap.push { cls:=.type "range",data:=.fields #[.int lo t,.int a u,.int 1 v] }).objs.size,[(s.heap.push { cls:=.type "range",data:=.fields #[.int lo t,.int a u,.int 1 v] }).objs.size],_,_,H,rfl,f.kept (t':=g) λb o e=>ar _ e,JO _ lo (a-lo).toNat,?_,λb m=>?_,q⟩
 .have e1:lo+((0:Nat):Int)*1=lo:=by simp
  have i:(((a-lo).toNat:Nat):Int)-((0:Nat):Int)=Builtin.Range.rangeSize lo a 1:=by rw[rangeSize_one];split<;>lia
  show IsRangeIter _ _ (lo+((0:Nat):Int)*1) ((((a-lo).toNat:Nat):Int)-((0:Nat):Int)) 1;rw[e1,i];exact bf _ rfl
 .have e:b=(s.heap.push { cls:=.type "range",data:=.fields #[.int lo t,.int a u,.int 1 v] }).objs.size:=by simpa using m
  subst e;exact f.YL (ap _) (f.ψ.fresh (ap _))
def Kn(e:TA):TI:=λd H R=>e d H λb a=>∃j:Int,b=[.int j]/\-(2^62)<=j/\j<2^62/\R (ZN 0 j.toNat) a
def JT(e:TA):TI:=λd H R=>e d H λb a=>∃i j:Int,b=[.int i,.int j]/\(-(2^62)<=i/\i<2^62/\-(2^62)<=j/\j<2^62)/\R (ZN i (j-i).toNat) a
theorem iP{a:Expr}{g:TA}{p d:Pos}(k:Gl X "range")(i:X.mg "range"=none)(o:PA X [a] g)(v:starEach [a] X.env=[(false,eval a X.env)]:=by rfl):PI X c (.Call (.Name "range" p) [a] [] d) (Kn g):=by
 intro b s u H R I h;refine Call_ (oP I k i boot_range (cG (uh (o d b s u H _ I h) λy z x w l m f=>?_) v rfl));obtain⟨j,e,f,n,q⟩:=f;subst e;cases m with
 | cons r rr=>
   cases rr;obtain⟨t,rfl⟩:=r;exact call_range_1 (Gw l (by lia) (by lia) f n (by simpa using q))
theorem Me{a b:Expr}{l:TA}{p f:Pos}(o:Gl X "range")(n:X.mg "range"=none)(y:PA X [a,b] l)(A:starEach [a,b] X.env=[(false,eval a X.env),(false,eval b X.env)]:=by rfl)(g:starEach [b] X.env=[(false,eval b X.env)]:=by rfl):PI X c (.Call (.Name "range" p) [a,b] [] f) (JT l):=by
 intro d s z H R I h;refine Call_ (oP I o n boot_range (cG (uh (y f d s z H _ I h) λD E C B u v k=>?_) (by rw[A,g]) (by rw[g];rfl)));obtain⟨i,j,e,⟨k,w,m,x⟩,q⟩:=k;subst e;cases v with
 | cons r rr=>
   cases rr with
   | cons r' rr=>
     cases rr;obtain⟨t,rfl⟩:=r;obtain⟨F,rfl⟩:=r';exact call_range_2 (Gw u k w m x q)
def Vd(l:TI)(g:TG)(j:TS):TS:=λD a H=>l a H λJ h=>∃W:Nat->Nat->St->Hp->Prop,(∃m,W 0 m a h)/\∀i m a H,W i m a H->(J.stop i H/\D.nx a H)\/(J.go i H/\∃N:St->Hp->Prop,(∀b d,N b d->∃f,f<m/\W (i+1) f b d)/\∀x d,J.yld i H x d->g x a d λe k=>j { D with nx:=N,ct:=N,bk:=D.nx } e k)
def va(a:gg)(h:Heap):List (Addr×Obj):=a.filterMap λb=>(h.get? b).map λo=>(b,o)
theorem oE{a:gg}{h:Heap}{b:Addr}{o:Obj}(d:b∈a)(e:h.get? b=some o):(b,o)∈va a h:=List.mem_filterMap.mpr ⟨b,d,by rw[e];rfl⟩
theorem Ln{a:gg}{h:Heap}{p:Addr×Obj}(f:p∈va a h):p.1∈a/\h.get? p.1=some p.2:=by
 obtain⟨b,d,e⟩:=List.mem_filterMap.mp f;cases q:h.get? b with
 | none=>rw[q]at e;cases e
 | some o=>
   rw[q]at e;have g:(b,o)=p:=bi e;subst g;exact⟨d,q⟩
theorem Inv.pinned{a:gf}{i:St}{H:Hp}{s:Shared}{f:gg}(I:Inv X a i H s)(l:∀b∈f,ph X a H b)(j:∀b∈f,∃o,s.heap.get? b=some o/\∀v,o.data≠.cell v):Inv X (a++va f s.heap) i H s:=I.Yo λp n=>(aY.mp n).elim (λz=>I.pin p (aW _ z)) λz=>by
 obtain⟨g,e⟩:=Ln z;obtain⟨m,q,k,_⟩:=l p.1 g;obtain⟨o,h,d⟩:=j p.1 g;rw[e]at h;cases h;exact⟨e,m,q,k,d⟩
theorem Inv.ϯ{a d:gf}{b:St}{H:Hp}{s:Shared}(I:Inv X (a++d) b H s):Inv X a b H s:=I.Yo λp e=>I.pin p (aW _ (bo _ e))
theorem fm{k:Expr}{F:List Stmt}{wi:TI}{g:TG}{tb:TS}{U:Pos}(P:PassesOwn (model X.prog X.w) X.A X.env X.xe)(hc:X.calm=true)(hi:PI X c k wi)(hg:PG X c g)(y:X7 X F tb)(hs:∀x,foldedSetIterable k X.env x=pure x:=by intro _;rfl):PS X (.For c k F [] U) (Vd wi g tb):=by
 intro a s σ H D I h;refine wpAny_For (ϑ (hi a s σ H _ I h) λv s1 h1=>ϑ h1 λa1 s2 h2=>?_) hs;obtain⟨it,G,tn,J,H2,e,I2,T,YG,f2,W,⟨m0,w0⟩,M⟩:=h2;subst e;have z:∀{C:Hp},(∀b∈G,C b=none)->∀b∈G,ph X a C b:=λhn b y=>⟨hn b y,(f2 b y).2⟩;refine codeAny_forLoop_any (λn s'=>∃i p C,Inv X a p C s'/\tn i s'.heap/\(∀b∈G,C b=none)/\W i n p C) ?_ m0 ⟨0,σ,H2,I2,YG,λb y=>(f2 b y).1,w0⟩;rintro n s3 ⟨i,B,Q,I3,L,O,w3⟩;rcases M i n B Q w3 with⟨stop,qn⟩|⟨go,N,hN,step⟩
 .refine fH P (ϑ (T.done X rfl rfl rfl hc i a s3 B Q X.xe I3 (z O) L stop) λr s4 ⟨V,I4⟩=>?_);subst V;exact jk ⟨B,Q,I4,qn⟩
 .refine fH P (ϑ (T.item X rfl rfl rfl hc i a s3 B Q X.xe I3 (z O) L go) λr s4 ⟨u,V,h4⟩=>?_);subst V;refine fH P (ϑ h4 λ_ s5 ⟨x,H5,I5,r5,y5,S,Z2⟩=>?_);have R:=I5.pinned (z Z2) (T.obj _ _ S);refine fH P (ϑ (hg _ s5 B H5 x u _ R r5 (step x H5 y5)) λ_ s6 ⟨Z,H6,I6,q6⟩=>?_);refine fH P (ϑ (y _ s6 Z H6 _ I6 q6) λf Y E=>?_);have q:∀{j:St}{l:Hp},Inv X (a++va G s5.heap) j l Y->N j l->∃m,m<n/\∃i p C,Inv X a p C Y/\tn i Y.heap/\(∀b∈G,C b=none)/\W i m p C:=λ{j l} t K=>by
   obtain⟨m',hm,w7⟩:=hN j l K;refine⟨m',hm,i+1,j,l,t.ϯ,T.keep _ _ _ S λb y o e=>(t.pin (b,o) (aW _ (aW _ (oE y e)))).1,λb y=>?_,w7⟩;obtain⟨o,e,d⟩:=T.obj _ _ S b y;exact(t.pin (b,o) (aW _ (aW _ (oE y e)))).2.1
  cases f with
  | next=>obtain⟨j,l,t,K⟩:=E;exact q t K
  | cont=>obtain⟨j,l,t,K⟩:=E;exact q t K
  | brk=>obtain⟨j,l,t,E⟩:=E;exact⟨j,l,t.ϯ,E⟩
  | ret v=>obtain⟨x7,j,l,t,r7,E⟩:=E;exact⟨x7,j,l,t.ϯ,r7,E⟩
end
theorem Qf{K:f5}{a:Addr}{c:List V}{g:TG}{o:TS}{D:Ends}{b:St}{H:Hp}(d:Nat->St->Hp->Prop)(v:d 0 b H)(t:∀i b H,i<=c.length->d i b H->ξ K H a c)(w:∀i x b H,c[i]?=some x->d i b H->g x b H λf k=>o { D with nx:=d (i+1),ct:=d (i+1),bk:=D.nx } f k)(r:∀b H,d c.length b H->D.nx b H):∃W:Nat->Nat->St->Hp->Prop,(∃m,W 0 m b H)/\∀i m b H,W i m b H->((Itl K a).stop i H/\D.nx b H)\/((Itl K a).go i H/\∃N:St->Hp->Prop,(∀h j,N h j->∃n,n<m/\W (i+1) n h j)/\∀x j,(Itl K a).yld i H x j->g x b j λf k=>o { D with nx:=N,ct:=N,bk:=D.nx } f k):=by
 refine⟨λi m b H=>m=c.length-i/\i<=c.length/\d i b H,⟨c.length,by simp,bj _,v⟩,?_⟩;rintro i m b H ⟨rfl,u,p⟩;have q:=t i b H u p;by_cases l:i<c.length
 .refine .inr ⟨⟨c,c[i],q,by simp[l]⟩,d (i+1),λh j s=>⟨c.length-(i+1),by lia,rfl,l,s⟩,λx j y=>?_⟩;obtain⟨e,y⟩:=y;subst e;exact w i x b _ (y c q) p
 .have e:i=c.length:=by lia
  subst e;exact .inl ⟨⟨c,q,ap _⟩,r b H p⟩
theorem B5{K:f5}{a:Addr}{xs:List V}{g:TG}{n:TS}{D:Ends}{b:St}{H:Hp}(c:Nat->St->Hp->Prop)(u:c 0 b H)(s:∀i b H,i<=xs.length->c i b H->Ξ K H a xs)(v:∀i x b H,xs[i]?=some x->c i b H->g x b H λd j=>n { D with nx:=c (i+1),ct:=c (i+1),bk:=D.nx } d j)(o:∀b H,c xs.length b H->D.nx b H):∃W:Nat->Nat->St->Hp->Prop,(∃m,W 0 m b H)/\∀i m b H,W i m b H->((Itt K a).stop i H/\D.nx b H)\/((Itt K a).go i H/\∃N:St->Hp->Prop,(∀f h,N f h->∃l,l<m/\W (i+1) l f h)/\∀x h,(Itt K a).yld i H x h->g x b h λd j=>n { D with nx:=N,ct:=N,bk:=D.nx } d j):=by
 refine⟨λi m b H=>m=xs.length-i/\i<=xs.length/\c i b H,⟨xs.length,by simp,bj _,u⟩,?_⟩;rintro i m b H ⟨rfl,t,p⟩;have q:=s i b H t p;by_cases k:i<xs.length
 .refine .inr ⟨⟨xs,xs[i],q,by simp[k]⟩,c (i+1),λf h r=>⟨xs.length-(i+1),by lia,rfl,k,r⟩,λx h y=>?_⟩;obtain⟨e,y⟩:=y;subst e;exact v i x b _ (y xs q) p
 .have e:i=xs.length:=by lia
  subst e;exact .inl ⟨⟨xs,q,ap _⟩,o b H p⟩
theorem Mj{lo:Int}{n:Nat}{g:TG}{l:TS}{D:Ends}{a:St}{H:Hp}(d:Nat->St->Hp->Prop)(r:d 0 a H)(s:∀i a H,i<n->d i a H->g (.int (lo+i)) a H λb j=>l { D with nx:=d (i+1),ct:=d (i+1),bk:=D.nx } b j)(o:∀a H,d n a H->D.nx a H):∃W:Nat->Nat->St->Hp->Prop,(∃m,W 0 m a H)/\∀i m a H,W i m a H->((ZN lo n).stop i H/\D.nx a H)\/((ZN lo n).go i H/\∃N:St->Hp->Prop,(∀c f,N c f->∃k,k<m/\W (i+1) k c f)/\∀x f,(ZN lo n).yld i H x f->g x a f λb j=>l { D with nx:=N,ct:=N,bk:=D.nx } b j):=by
 refine⟨λi m a H=>m=n-i/\i<=n/\d i a H,⟨n,by simp,bj _,r⟩,?_⟩;rintro i m a H ⟨rfl,t,p⟩;by_cases h:i<n
 .refine .inr ⟨h,d (i+1),λc f q=>⟨n-(i+1),by lia,rfl,h,q⟩,λx f y=>?_⟩;obtain⟨e,y⟩:=y;subst e y;exact s i a _ h p
 .have e:i=n:=by lia
  subst e;exact .inl ⟨ap _,o a H p⟩
abbrev R2:=V->V->Hp->VK->Prop
def iS(X:Cx)(f:Value->Value->Sem Value)(r:R2):Prop:=∀(a:gf)(s:Shared)(b:St)(H:Hp)(x y:V)(v u:Value)(Q:VK),Inv X a b H s->RelV x v->RelV y u->r x y H Q->wpAny (model X.prog X.w) X.A (f v u) (EP X a b Q) X.xe s
def UnR(X:Cx)(f:Value->Sem Value)(r:V->Hp->VK->Prop):Prop:=∀(a:gf)(s:Shared)(b:St)(H:Hp)(x:V)(v:Value)(Q:VK),Inv X a b H s->RelV x v->r x H Q->wpAny (model X.prog X.w) X.A (f v) (EP X a b Q) X.xe s
def lm(X:Cx)(f:Value)(r:List V->Hp->VK->Prop):Prop:=∀(a:gf)(s:Shared)(c:St)(H:Hp)(b:List V)(d:gn)(Q:VK),Inv X a c H s->Vals b d->r b H Q->wpAny (model X.prog X.w) X.A (call f d) (EP X a c Q) X.xe s
def VL(X:Cx)(r:V->Hp->(Bool->Hp->Prop)->Prop):Prop:=∀(a:gf)(s:Shared)(b:St)(H:Hp)(x:V)(v:Value)(Q:Bool->Hp->Prop),Inv X a b H s->RelV x v->r x H Q->wpAny (model X.prog X.w) X.A (truthy v) (TP X a b Q) X.xe s
def tOp(r:R2)(e c:TE):TE:=λa H Q=>e a H λx b=>c a b λy d=>r x y d Q
def tUn(r:V->Hp->VK->Prop)(c:TE):TE:=λb H Q=>c b H λx a=>r x a Q
def rI(C:Int->Int->Prop)(g:Int->Int->V):R2:=λx y H Q=>∃i j,x=.int i/\y=.int j/\C i j/\Q (g i j) H
def ZO(g:Int->Int->V):R2:=λx y H Q=>∃i j,x=.int i/\y=.int j/\Q (g i j) H
def rU(g:Int->V):V->Hp->VK->Prop:=λx H Q=>∃i,x=.int i/\Q (g i) H
section
variable{X:Cx}{a b c:Expr}{d k l:TE}{e:Pos}
theorem O0(G:PE X a d)(E:PE X b k){g:gf}{s:Shared}{j:St}{H:Hp}{R:V->V->Hp->Prop}(I:Inv X g j H s)(h:d j H λx p=>k j p λy i=>R x y i){Q:f3}{f:Value->Value->Sem Value}(r:∀v u o x y i,Inv X g j i o->RelV x v->RelV y u->R x y i->wpAny (model X.prog X.w) X.A (f v u) Q X.xe o):wpAny (model X.prog X.w) X.A (eval a X.env) (λv n=>wpAny (model X.prog X.w) X.A (eval b X.env) (λu m=>wpAny (model X.prog X.w) X.A (f v u) Q X.xe m) X.xe n) X.xe s:=by
 refine dR (G g s j H _ I h) λv z x p B C q=>?_;refine dR (E g z j p _ B q) λu o y i t F D=>?_;exact r v u o x y i t C F D
theorem bn{g:Operator}{r:R2}(i:iS X (binaryOp g) r)(w:PE X a d)(o:PE X b k):PE X (.BinOp a g b e) (tOp r d k):=by
 intro f s z H Q I h;exact wpAny_BinOp (O0 w o I h λv u t x y n j m p q=>i f t z n x y v u Q j m p q)
theorem Bl{g:UnaryOp}{r:V->Hp->VK->Prop}(j:UnR X (unaryOp g) r)(q:PE X a d):PE X (.UnaryOp g a e) (tUn r d):=by
 intro f s i H Q I h;exact UnaryOp_ (dR (q f s i H _ I h) λv n x m o p t=>j f n i m x v Q o p t)
theorem opI{f:Value->Value->Sem Value}{C:Int->Int->Prop}{g:hD}(m:∀(i j:Int) (t u:Tok) (s:Shared) (Q:f3) (E:f3),C i j->Q (.int (g i j) s.toks) { s with toks:=s.toks+1 }->wpAny (model X.prog X.w) X.A (f (.int i t) (.int j u)) Q E s):iS X f (rI C λi j=>.int (g i j)):=by
 intro n s B H x y v u Q I o r h;obtain⟨i,j,rfl,rfl,z,q⟩:=h;obtain⟨t,rfl⟩:=o;obtain⟨p,rfl⟩:=r;exact m i j t p s _ _ z ⟨.int (g i j),H,I.tok _,⟨_,rfl⟩,q⟩
theorem Tj{f:Value->Value->Sem Value}{g:hD}(m:∀(i j:Int) (t u:Tok) (s:Shared) (Q:f3) (E:f3),Q (.int (g i j) s.toks) { s with toks:=s.toks+1 }->wpAny (model X.prog X.w) X.A (f (.int i t) (.int j u)) Q E s):iS X f (ZO λi j=>.int (g i j)):=by
 intro n s z H x y v u Q I o r h;obtain⟨i,j,rfl,rfl,q⟩:=h;obtain⟨t,rfl⟩:=o;obtain⟨p,rfl⟩:=r;exact m i j t p s _ _ ⟨.int (g i j),H,I.tok _,⟨_,rfl⟩,q⟩
theorem KY{f:Value->Value->Sem Value}{g:Int->Int->Bool}(m:∀(i j:Int) (t u:Tok) (s:Shared) (Q:f3) (E:f3),Q (.bool (g i j)) s->wpAny (model X.prog X.w) X.A (f (.int i t) (.int j u)) Q E s):iS X f (ZO λi j=>.bl (g i j)):=by
 intro n s z H x y v u Q I o r h;obtain⟨i,j,rfl,rfl,q⟩:=h;obtain⟨t,rfl⟩:=o;obtain⟨p,rfl⟩:=r;exact m i j t p s _ _ ⟨.bl (g i j),H,I,rfl,q⟩
def V8(i j:Int):Prop:=0<j/\j<1073741824
def T4(i j:Int):Prop:=0<=j/\j<=1000000/\i.natAbs<2^64
def WH(i j:Int):Prop:=(-(2^64)<i/\i<2^64)\/(-(2^64)<j/\j<2^64)
theorem WH.ok{i j:Int}(h:WH i j):IntMulOk i j:=by
 rcases h with⟨h1,h2⟩|⟨h1,h2⟩
 .exact .of_left (intBits_le_64 h1 h2)
 .exact .of_right (intBits_le_64 h1 h2)
theorem eT:iS X (binaryOp .Add) (ZO λi j=>.int (i+j)):=Tj λ_ _ _ _ _ _ _ q=>add_int q
theorem iB:iS X (binaryOp .Sub) (ZO λi j=>.int (i-j)):=Tj λ_ _ _ _ _ _ _ q=>sub_int q
theorem mw:iS X (binaryOp .Mult) (rI WH λi j=>.int (i*j)):=opI λ_ _ _ _ _ _ _ f q=>mul_int q f.ok
theorem gO:iS X (binaryOp .FloorDiv) (rI V8 λi j=>.int (i/j)):=opI λi j _ _ _ _ _ f q=>by
 have h:(0:Int)<j:=f.1;have g:j<1073741824:=f.2;exact floordiv_int (by lia) (by rw[kF i (by lia)];exact q) (.inl (PyProof.noPylong_small (by lia)))
theorem fQ:iS X (binaryOp .Mod) (rI (λ_ j=>0<j) λi j=>.int (i%j)):=opI λi j _ _ _ _ _ f q=>by
 have g:(0:Int)<j:=f;exact mod_int' (by lia) (by rw[Int.fmod_eq_emod_of_nonneg i (by lia)];exact q)
theorem MT:iS X (binaryOp .Pow) (rI T4 λi j=>.int (i^j.toNat)):=opI λ_ _ _ _ _ _ _ f q=>pow_int_small f.1 f.2.1 f.2.2 q
theorem unI{f:Value->Sem Value}{g:d3}(j:∀(i:Int) (t:Tok) (s:Shared) (Q:f3) (E:f3),Q (.int (g i) s.toks) { s with toks:=s.toks+1 }->wpAny (model X.prog X.w) X.A (f (.int i t)) Q E s):UnR X f (rU λi=>.int (g i)):=by
 intro m s o H x v Q I n h;obtain⟨i,rfl,q⟩:=h;obtain⟨t,rfl⟩:=n;exact j i t s _ _ ⟨.int (g i),H,I.tok _,⟨_,rfl⟩,q⟩
theorem xc:UnR X (unaryOp .USub) (rU λi=>.int (-i)):=unI λ_ _ _ _ _ q=>neg_int q
end
def rM:V->V->Bool
 | .ω,.ω=>true|.ω,.int _=>true|.int _,.ω=>true|.ω,.bl _=>true|.bl _,.ω=>true|.ω,.str _=>true|.str _,.ω=>true
 | .int _,.int _=>true|.bl _,.bl _=>true|.str _,.str _=>true|.X1 _,.X1 _=>true
 | .int _,.str _=>true|.str _,.int _=>true|.bl _,.str _=>true|.str _,.bl _=>true
 | _,_=>false
def rEq:R2:=λx y H Q=>rM x y=true/\Q (.bl (decide (x=y))) H
def rNe:R2:=λx y H Q=>rM x y=true/\Q (.bl (!decide (x=y))) H
theorem Jd{i j:Int}:decide (V.int i=V.int j)=(i==j):=by
 rw[dX];simp
theorem Nd{i j:Bool}:decide (V.bl i=V.bl j)=(i==j):=by
 rw[dX];simp
theorem Ib{i j:Str}:decide (V.str i=V.str j)=(i==j):=by
 rw[dX];simp
theorem Jb{i j:Array UInt8}:decide (V.X1 i=V.X1 j)=(i.toList==j.toList):=by
 rw[dX];cases i;cases j;simp
section
variable{X:Cx}{a b c:Expr}{f g l:TE}{pos:Pos}
theorem fq{d:gf}{i:St}{H:Hp}{s:Shared}{Q:VK}{k h:Bool}(I:Inv X d i H s)(q:Q (.bl k) H)(e:k=h):EP X d i Q (.bool h) s:=by
 subst e;exact⟨.bl k,H,I,rfl,q⟩
theorem jX:iS X (compareOp .Eq) rEq:=by
 intro n s o H x y v u Q I m d h;obtain⟨k,q⟩:=h;cases x with
 | ω=>
   cases m;cases y with
   | ω=>cases d;exact PySem.EqNone.eq_none_none (fq I q (by simp))
   | bl j=>cases d;exact PySem.EqNone.eq_none_bool (fq I q (by simp))
   | int j=>obtain⟨e,rfl⟩:=d;exact PySem.EqNone.eq_none_int (fq I q (by simp))
   | str j=>obtain⟨e,rfl⟩:=d;exact PySem.EqNone.eq_none_str (fq I q (by simp))
   | _=>exact absurd (show false=true from k) bz
 | bl i=>
   cases m;cases y with
   | ω=>cases d;exact PySem.EqNone.eq_bool_none (fq I q (by simp))
   | bl j=>cases d;exact eq_bool (fq I q Nd)
   | str j=>obtain⟨e,rfl⟩:=d;exact PySem.EqMixed.eq_bool_str (fq I q (by simp))
   | _=>exact absurd (show false=true from k) bz
 | int i=>
   obtain⟨t,rfl⟩:=m;cases y with
   | ω=>cases d;exact PySem.EqNone.eq_int_none (fq I q (by simp))
   | int j=>obtain⟨e,rfl⟩:=d;exact eq_int (fq I q Jd)
   | str j=>obtain⟨e,rfl⟩:=d;exact PySem.EqMixed.eq_int_str (fq I q (by simp))
   | _=>exact absurd (show false=true from k) bz
 | str i=>
   obtain⟨t,rfl⟩:=m;cases y with
   | ω=>cases d;exact PySem.EqNone.eq_str_none (fq I q (by simp))
   | bl j=>cases d;exact PySem.EqMixed.eq_str_bool (fq I q (by simp))
   | int j=>obtain⟨e,rfl⟩:=d;exact PySem.EqMixed.eq_str_int (fq I q (by simp))
   | str j=>obtain⟨e,rfl⟩:=d;exact eq_str (fq I q Ib)
   | _=>exact absurd (show false=true from k) bz
 | X1 i=>
   obtain⟨t,rfl⟩:=m;cases y with
   | X1 j=>obtain⟨e,rfl⟩:=d;exact PySem.W.eq_bytes (fq I q Jb)
   | _=>exact absurd (show false=true from k) bz
 | _=>cases y<;>exact absurd (show false=true from k) bz
theorem sj:iS X (compareOp .NotEq) rNe:=by
 intro n s o H x y v u Q I m d h;obtain⟨k,q⟩:=h;cases x with
 | ω=>
   cases m;cases y with
   | ω=>cases d;exact PySem.EqNone.ne_none_none (fq I q (by simp))
   | bl j=>cases d;exact PySem.EqNone.ne_none_bool (fq I q (by simp))
   | int j=>obtain⟨e,rfl⟩:=d;exact PySem.EqNone.ne_none_int (fq I q (by simp))
   | str j=>obtain⟨e,rfl⟩:=d;exact PySem.EqNone.ne_none_str (fq I q (by simp))
   | _=>exact absurd (show false=true from k) bz
 | bl i=>
   cases m;cases y with
   | ω=>cases d;exact PySem.EqNone.ne_bool_none (fq I q (by simp))
   | bl j=>cases d;exact ne_bool (fq I q (congrArg not Nd))
   | str j=>obtain⟨e,rfl⟩:=d;exact PySem.EqMixed.ne_bool_str (fq I q (by simp))
   | _=>exact absurd (show false=true from k) bz
 | int i=>
   obtain⟨t,rfl⟩:=m;cases y with
   | ω=>cases d;exact PySem.EqNone.ne_int_none (fq I q (by simp))
   | int j=>obtain⟨e,rfl⟩:=d;exact ne_int (fq I q (congrArg not Jd))
   | str j=>obtain⟨e,rfl⟩:=d;exact PySem.EqMixed.ne_int_str (fq I q (by simp))
   | _=>exact absurd (show false=true from k) bz
 | str i=>
   obtain⟨t,rfl⟩:=m;cases y with
   | ω=>cases d;exact PySem.EqNone.ne_str_none (fq I q (by simp))
   | bl j=>cases d;exact PySem.EqMixed.ne_str_bool (fq I q (by simp))
   | int j=>obtain⟨e,rfl⟩:=d;exact PySem.EqMixed.ne_str_int (fq I q (by simp))
   | str j=>obtain⟨e,rfl⟩:=d;exact ne_str (fq I q (congrArg not Ib))
   | _=>exact absurd (show false=true from k) bz
 | X1 i=>
   obtain⟨t,rfl⟩:=m;cases y with
   | X1 j=>obtain⟨e,rfl⟩:=d;exact PySem.W.ne_bytes (fq I q (congrArg not Jb))
   | _=>exact absurd (show false=true from k) bz
 | _=>cases y<;>exact absurd (show false=true from k) bz
theorem pY:iS X (compareOp .Lt) (ZO λi j=>.bl (decide (i<j))):=KY λ_ _ _ _ _ _ _ q=>lt_int q
theorem vS:iS X (compareOp .LtE) (ZO λi j=>.bl (decide (i<=j))):=KY λ_ _ _ _ _ _ _ q=>le_int q
theorem Q8:iS X (compareOp .Gt) (ZO λi j=>.bl (decide (j<i))):=KY λ_ _ _ _ _ _ _ q=>gt_int q
theorem Vx:iS X (compareOp .GtE) (ZO λi j=>.bl (decide (j<=i))):=KY λ_ _ _ _ _ _ _ q=>ge_int q
theorem mV(b:Expr){d:CmpOp}(h:d≠.In:=by decide)(i:d≠.NotIn:=by decide):behindInMarks d b=false:=by
 have e:(d==CmpOp.In)=false:=by cases d<;>first|rfl|exact absurd rfl h
 have j:(d==CmpOp.NotIn)=false:=by cases d<;>first|rfl|exact absurd rfl i
 cases b<;>simp[behindInMarks,e,j]
theorem m8{e:CmpOp}{r:R2}(i:iS X (compareOp e) r)(w:PE X a f)(o:PE X b g)(j:behindInMarks e b=false):PE X (.Compare a [e] [b] pos) (tOp r f g):=by
 intro d s z H Q I h;exact wpAny_Compare1 (O0 w o I h λv u t x y n k m p q=>i d t z n x y v u Q k m p q) j
def Al(t:TE):TT:=λe H Q=>t e H λx d=>∃k,x=.bl k/\Q k d
theorem Ct{i:CmpOp}{r:R2}(o:iS X (compareOp i) r)(M:PE X a f)(J:PE X b g)(q:behindInMarks i b=false):PT X (.Compare a [i] [b] pos) (Al (tOp r f g)):=by
 intro d s j H Q I h;refine wpAny_isTrue_Compare1 (dR (M d s j H _ I h) λv B x n C D t=>dR (J d B j n _ C t) λu L y G A K E=>
  dR (o d L j G x y v u _ A D K E) λc N z p F w ⟨k,e,m⟩=>?_) q
 subst e;cases w;exact cQ ⟨p,F,m⟩
def AY(r n:R2)(f g l:TE):TE:=λd H Q=>f d H λx h=>g d h λy j=>r x y j λz e=>∃k,z=.bl k/\(if k=true then l d e λi m=>n y i m Q else Q (.bl false) e)
theorem Nj{n j:CmpOp}{r p:R2}(D:iS X (compareOp n) r)(B:iS X (compareOp j) p)(ha:PE X a f)(W:PE X b g)(Z:PE X c l)(J:lastMarks [n,j] [b,c]=false:=by with_unfolding_all rfl):PE X (.Compare a [n,j] [b,c] pos) (AY r p f g l):=by
 intro i s m H Q I h;refine Compare_chain (dR (ha i s m H _ I h) λv P x C R S K=>chain_link (dR (W i P m C _ R K) λu s2 y V N w T=>
  dR (D i s2 m V x y v u _ N S w T) λd F z q t L ⟨k,e,o⟩=>?_)) J
 subst e;cases L;refine cQ ?_;cases k with
 | false=>exact ite_ff ⟨.bl false,q,t,rfl,o⟩
 | true=>exact ite_tt (chain_last (ϑ (Z i F m q _ t o) λA E ⟨O,U,G,M,Y⟩=>B i E m U y O u A Q G w M Y))
theorem zS{n j:CmpOp}{r p:R2}(E:iS X (compareOp n) r)(B:iS X (compareOp j) p)(ha:PE X a f)(hb:PE X b g)(hc:PE X c l)(K:lastMarks [n,j] [b,c]=false:=by with_unfolding_all rfl):PT X (.Compare a [n,j] [b,c] pos) (Al (AY r p f g l)):=by
 intro i s m H Q I h;refine isTrue_chain (dR (ha i s m H _ I h) λv R x D T V L=>test_link (dR (hb i R m D _ T L) λu s2 y H2 O w W=>
  dR (E i s2 m H2 x y v u _ O V w W) λd G z q t M ⟨k,e,o⟩=>?_)) K
 subst e;cases M;refine cQ ?_;cases k with
 | false=>
   obtain⟨k',e',Y⟩:=o;cases e';exact ite_ff ⟨q,t,Y⟩
 | true=>
   refine ite_tt (test_last (ϑ (hc i G m q _ t o) λA F ⟨P,Z,J,N,q4⟩=>ϑ (B i F m Z y P u A _ J w N q4) λd' s5 ⟨z2,H5,S,r5,k2,C,U⟩=>?_));subst C;cases r5;exact cQ ⟨H5,S,U⟩
def SY(K:f5)(x:V)(H:Hp)(k:Bool):Prop:=match x with
 | .ω=>k=false
 | .bl b=>k=b
 | .int i=>k=(i != 0)
 | .str y=>y.length<=sizeLine/\k=((y.length:Int) != 0)
 | .X1 y=>y.size<=sizeLine/\k=((y.size:Int) != 0)
 | .ref p=>(∃d,ξ K H p d/\k=!d.isEmpty)\/(∃d,Ξ K H p d/\k=!d.isEmpty)\/∃e,H p=some (.dK e)/\k=!e.isEmpty
 | _=>False
theorem La{h:Type}{d:List (h×V)}{e:List (h×Value)}(r:KV d e):(!e.isEmpty)=!d.isEmpty:=by
 cases r<;>rfl
theorem AQ{e:List V}{d:gn}(r:Vals e d):(!d.toArray.isEmpty)=!e.isEmpty:=by
 cases r<;>simp
theorem tH:(sizeLine:Nat)<2^63:=by rw[sizeLine_eq];decide
theorem Tz:VL X (λx H Q=>∃k,SY X.K x H k/\Q k H):=by
 intro C s J H x v Q I u h;obtain⟨k,e,q⟩:=h;have G:=tH;have L:sizeLine=16777216:=sizeLine_eq;cases x with
 | ω=>
   cases u;have d:k=false:=e;subst d;exact truthy_none ⟨H,I,q⟩
 | bl b=>
   cases u;have d:k=b:=e;subst d;exact cQ ⟨H,I,q⟩
 | int i=>
   obtain⟨t,rfl⟩:=u;have d:k=(i != 0):=e;subst d;exact PySem.P.truthy_int ⟨H,I,q⟩
 | str y=>
   obtain⟨t,rfl⟩:=u;obtain⟨E,d⟩:y.length<=sizeLine/\k=((y.length:Int) != 0):=e;subst d;exact PySem.P.truthy_str (by lia) ⟨H,I.tok _,q⟩
 | X1 y=>
   obtain⟨t,rfl⟩:=u;obtain⟨E,d⟩:y.size<=sizeLine/\k=((y.size:Int) != 0):=e;subst d;exact PySem.W.truthy_bytes (by lia) ⟨H,I.tok _,q⟩
 | ref p=>
   cases u;have d:(∃n,ξ X.K H p n/\k=!n.isEmpty)\/(∃n,Ξ X.K H p n/\k=!n.isEmpty)\/∃o,H p=some (.dK o)/\k=!o.isEmpty:=e;rcases d with⟨n,hx,d⟩|⟨n,hx,d⟩|⟨o,hx,d⟩
   .subst d;obtain⟨A,r,B,D⟩:=I.list hx;have j:=r.length;exact wpAny_truthy_list B.isList (by simp only[aM];lia) ⟨H,I.tok _,by rw[AQ r];exact q⟩
   .subst d;obtain⟨A,r,B,D⟩:=I.tuple hx;have j:=r.length;exact truthy_tuple B (by simp only[aM];lia) ⟨H,I.tok _,by rw[AQ r];exact q⟩
   .subst d;obtain⟨D,F,z,r,m⟩:o.length<=sizeLine/\(p==sysModules)=false/\∃z,KV o z/\s.heap.DictOf (iq X.prog X.w) p z:=I.ψ p _ hx;have j:o.length=z.length:=Paired.length r;exact wpAny_truthy_dict F m (by lia) ⟨H,I.tok _,by rw[La r];exact q⟩
 | _=>exact(show False from e).elim
theorem sI(t:PE X a f)(r:∀d,isTrue a X.env d=(do let v <-d;standAt a.pos;holding [v] (truthy v))):PT X a (λi H Q=>f i H λx j=>∃k,SY X.K x j k/\Q k j):=by
 intro e s i H Q I h;exact isTrue_plain (dR (t e s i H _ I h) λv o x m p q n=>Tz e o i m x v Q p q n) (r _)
theorem qY{x:V}{d:gn}(r:Vals [x] d):∃u,d=[u]/\RelV x u:=by
 cases r with
 | cons r1 r2=>cases r2;exact⟨_,rfl,r1⟩
theorem Kd{x y:V}{e:gn}(r:Vals [x,y] e):∃u d,e=[u,d]/\RelV x u/\RelV y d:=by
 cases r with
 | cons r1 r2=>
   cases r2 with
   | cons r3 r4=>cases r4;exact⟨_,_,rfl,r1,r3⟩
theorem Ll(n:X.calm=true):lm X (.builtin "max") (λe H Q=>∃i j,e=[.int i,.int j]/\Q (.int (if j>i then j else i)) H):=by
 intro m s y H e p Q I r h;obtain⟨i,j,rfl,q⟩:=h;obtain⟨u,o,rfl,⟨t,rfl⟩,⟨v,rfl⟩⟩:=Kd r;refine max_two_ints (I.ok.hd n) λx w k=>⟨_,H,I.kept k,?_,q⟩;by_cases d:j>i
 .rw[aj d,aj d];exact⟨_,rfl⟩
 .rw[ag d,ag d];exact⟨_,rfl⟩
theorem wu:lm X (.type "int") (λd H Q=>(∃i,d=[.int i]/\Q (.int i) H)\/∃k,d=[.bl k]/\Q (.int (if k then 1 else 0)) H):=by
 intro e s j H d m Q I r h;rcases h with⟨i,rfl,q⟩|⟨k,rfl,q⟩
 .obtain⟨u,rfl,t,rfl⟩:=qY r;exact call_int_int ⟨.int i,H,I,⟨_,rfl⟩,q⟩
 .obtain⟨u,rfl,r1⟩:=qY r;cases r1;exact call_int_bool ⟨.int (if k then 1 else 0),H,I.tok _,⟨_,rfl⟩,q⟩
end
structure YM(h:Heap)(x dx C:Addr)(mA:gw):Prop where
 obj:h.get? x=some (PySem.W.instObj C dx)
 ns:h.Ns1 dx mA
 ne:dx≠x
theorem MK{h:Heap}{i:Addr}{g:gw}(n:h.Ns1 i g):∃f,h.get? i=some f/\∀b,PySem.W.lookIn b f=some (g b):=by
 obtain⟨o,d,s,k,j,m,_,p⟩:=n;refine⟨o,k,λb=>?_⟩;have e:=p b;unfold nsFind findBy at e;rw[<-Array.find?_toList]at e;unfold PySem.W.lookIn;rw[j];dsimp only;split
 .rename_i y q
  rw[q]at e;exact congrArg some e
 .rename_i q
  rw[q]at e;have a:d.toList.any (·.refKey)=false:=by
   rw[List.any_eq_false];intro y l;obtain⟨z,t,c⟩:=m y (Array.mem_toList_iff.mp l);simp[DictEntry.refKey,c]
  have r:¬d.toList.any (·.refKey)=true:=by rw[a];exact bz
  rw[ag r];exact congrArg some e
theorem YM.look{h:Heap}{x d C:Addr}{c:gw}(I:YM h x d C c):∃b,PySem.W.InstAt h x (PySem.W.instObj C d) C (some b)/\∀a,PySem.W.lookIn a b=some (c a):=let ⟨b,ho,hl⟩:=MK I.ns
 ⟨b,⟨I.obj,rfl,rfl,ho⟩,hl⟩
section
variable{e:Program}{w:World}{A:Around}{E:f3}{s:Shared}{K:f5}{x i C f:Addr}{j:gw}{c:Str}{v:Value}
theorem Ru{a:Bool}{Q:f3}(X:K.In s.heap)(I:YM s.heap x i C j)(d:PySem.W.plainGet K C c=true)(g:PySem.W.hasDictIn K C=true)(k:PySem.W.findIn K (.ref C) c=some none)(m:j c=some v)(b:PySem.W.handedIn v=true)(h:Q v { s with toks:=s.toks+1 }):wpAny (model e w) A (getAttr (.ref x) c a) Q E s:=by
 obtain⟨n,J,l⟩:=I.look;exact PySem.W.get_value X J (PySem.W.plainGet_of d).1 (PySem.W.findObj_own g k rfl (by rw[l,m])) b h
theorem R6{ns:gy}{Q:Unit->Shared->Prop}(X:K.In s.heap)(I:YM s.heap x i C j)(H:PySem.W.findIn K (.ref C) "__setattr__"=some (some (.builtin "object.__setattr__")))(B:PySem.W.plainOver K C=true)(z:PySem.W.takerIn K C c=some none)(t:PySem.W.hasDictIn K C=true)(D:PySem.Within j ns)(q:ns.length<=sizeLine)(h:∀k,YM k x i C (λy=>if y=c then some v else j y)->Heap.SameBut i s.heap k->Q () { s with heap:=k,toks:=s.toks+2 }):wpAny (model e w) A (setAttr (.ref x) c v) Q E s:=by
 obtain⟨M,J,N⟩:=I.look;refine PySem.W.set_plain X J H (PySem.W.osa_open (s:={ s with toks:=s.toks+1 }) (r:=none) X J B z λb=>?_);obtain⟨L,G,m⟩:=PySem.W.any_some t;have F:s.heap.get? x=some ⟨.ref C,some i,.plain,#[]⟩:=I.obj;refine ak (ba (ak (ak (wpAny_loadPart F (ak (PySem.W.Looks.here (s:={ s with toks:=s.toks+1 }) (PySem.W.looks_clsIn X G) ?_))))));rw[m];refine ba (a:=some i) (ak (ba (ak ?_)));refine wpAny_nsSet1 (s:={ s with toks:=s.toks+1 }) I.ns λk d g=>?_;obtain⟨O,p,u,l,o,n⟩:=d.count (PySem.Within.cons c v D);refine ak (wpAny_lookBehind l (by rw[o];exact pastItsLine_dict (aL n (by rw[aF];lia))) ?_);exact ba (h _ ⟨(g.2 _ (Ne.symm I.ne)).trans I.obj,d,I.ne⟩ g)
theorem Qs{R:Result->Shared->Prop}{k:gn}{b:List (Str×Value)}(X:K.In s.heap)(l:PySem.W.makesIn K C=true)(n:PySem.W.findIn K (.ref C) "__init__"=some (some (.ref f)))(m:PySem.W.typeIn K (.ref f)=some (.type "function"))(h:codeAny (model e w) (A.under (.builtin "type.__call__" ⟨.ref C::k,b⟩)) (.call (.ref f) ⟨.ref (s.heap.objs.size+1)::k,b⟩) (PySem.W.InitBack (s.heap.objs.size+1) R)
 { s with heap:=(s.heap.push PySem.W.emptyDict).push (PySem.W.instObj C s.heap.objs.size) }):codeAny (model e w) A (.call (.ref C) ⟨k,b⟩) R s:=by
 obtain⟨o,g,d,t,os⟩:=s;exact PySem.W.make_core (PySem.W.makes_of X l) (PySem.W.looks_findIn X n) (λa=>PySem.W.bind_fn X a m) (.inl rfl) h
end
def bF(f:Str)(v:V):List (Str×V)->List (Str×V)
 | []=>[(f,v)]
 | (g,x)::r=>if g=f then(g,v)::r else(g,x)::bF f v r
theorem cI(f g:Str)(v:V):∀b:List (Str×V),(bF f v b).lookup g=if g=f then some v else b.lookup g
 | []=>by
   show List.lookup g [(f,v)]=_;by_cases h:g=f
   .have hb:(g==f)=true:=gR.mpr h;simp only[List.lookup,hb,aj h]
   .have hb:(g==f)=false:=beq_eq_false_iff_ne.mpr h;simp only[List.lookup,hb,ag h]
 | (k,x)::r=>by
   have c:=cI f g v r;rw[show bF f v ((k,x)::r)=(if k=f then(k,v)::r else(k,x)::bF f v r)from rfl];by_cases a:k=f
   .rw[aj a];by_cases h:g=k
    .have hb:(g==k)=true:=gR.mpr h;simp only[List.lookup,hb,aj (h.trans a)]
    .have hb:(g==k)=false:=beq_eq_false_iff_ne.mpr h;simp only[List.lookup,hb,ag (λe:g=f=>h (e.trans a.symm))]
   .rw[ag a];by_cases h:g=k
    .have hb:(g==k)=true:=gR.mpr h;simp only[List.lookup,hb,ag (λe:g=f=>a (h.symm.trans e))]
    .have hb:(g==k)=false:=beq_eq_false_iff_ne.mpr h;simp only[List.lookup,hb];exact c
theorem xF(f:Str)(v:V):∀a:List (Str×V),f∈(bF f v a).map (·.1)/\∀g,g∈a.map (·.1)->g∈(bF f v a).map (·.1)
 | []=>⟨by simp[bF],λg h=>by simp at h⟩
 | (k,x)::r=>by
   obtain⟨d,c⟩:=xF f v r;rw[show bF f v ((k,x)::r)=(if k=f then(k,v)::r else(k,x)::bF f v r)from rfl];by_cases b:k=f
   .rw[aj b];subst b;exact⟨by simp,λg h=>by simpa using h⟩
   .rw[ag b];refine⟨?_,λg h=>?_⟩
    .rw[aq];exact aH _ d
    .rw[aq]at h ⊢;rcases ax.mp h with e|e
     .exact ax.mpr (.inl e)
     .exact aH _ (c g e)
theorem y7(f:Str)(v:V):∀a:List (Str×V),(bF f v a).length<=a.length+1
 | []=>by simp[bF]
 | (k,x)::r=>by
   have c:=y7 f v r;rw[show bF f v ((k,x)::r)=(if k=f then(k,v)::r else(k,x)::bF f v r)from rfl];by_cases b:k=f
   .rw[aj b,aF,aF];lia
   .rw[ag b,aF,aF];lia
theorem oK.some_of{v:V}{o:Option Value}(r:oK (some v) o):∃u,o=some u/\RelV v u:=by
 cases o with
 | none=>exact(show False from r).elim
 | some u=>exact⟨u,rfl,r⟩
theorem Ma{v:V}{u:Value}(r:RelV v u):PySem.W.handedIn u=true:=by
 cases v with
 | ω=>cases(show u=Value.none from r);rfl
 | bl b=>cases(show u=Value.bool b from r);rfl
 | int i=>obtain⟨t,e⟩:=(show ∃t,u=Value.int i t from r);cases e;rfl
 | str x=>obtain⟨t,e⟩:=(show ∃t,u=Value.str x t from r);cases e;rfl
 | X1 b=>obtain⟨t,e⟩:=(show ∃t,u=Value.bytes b t from r);cases e;rfl
 | flt b=>obtain⟨t,e⟩:=(show ∃t,u=Value.float b t from r);cases e;rfl
 | ref a=>cases(show u=Value.ref a from r);rfl
 | ty n=>cases(show u=Value.type n from r);rfl
section
variable{P:Program}{w:World}{H j:Hp}{h i:Heap}{a C c:Addr}{b g:List (Str×V)}
theorem Dh(l:Ϭ P w H h)(e:H a=some (.ins C c b)):∃k,YM h a c C k/\(∀f,oK (b.lookup f) (k f))/\PySem.Within k (b.map (·.1))/\b.length<=1000/\H c=some (.own a):=by
 obtain⟨d,z,ne,m,k,n,r,q⟩:=(show Γ P w H h a (.ins C c b)from l a _ e);exact⟨k,⟨m,n,ne⟩,r,q,z,d⟩
end
structure Z3(K:f5)(C:Addr):Prop where
 pg:PySem.W.plainGet K C Str.empty=true
 hd:PySem.W.hasDictIn K C=true
 po:PySem.W.plainOver K C=true
 sa:PySem.W.findIn K (.ref C) "__setattr__"=some (some (.builtin "object.__setattr__"))
theorem Z3.get{K:f5}{C:Addr}(c:Z3 K C)(f:Str):PySem.W.plainGet K C f=true:=c.pg
def Ψ(K:f5)(C:Addr)(f:Str):Prop:=PySem.W.findIn K (.ref C) f=some none
theorem Ψ.ade{K:f5}{C:Addr}{f:Str}(n:Ψ K C f):PySem.W.takerIn K C f=some none:=by
 unfold PySem.W.takerIn;rw[show PySem.W.findIn K (.ref C) f=some none from n]
 rfl
section
variable{X:Cx}{d:gf}{j:St}{H:Hp}{s:Shared}{a C k:Addr}{i:List (Str×V)}{f:Str}{v:V}{A:Around}{E:f3}
theorem J5{b:Bool}{Q:f3}(I:Inv X d j H s)(e:H a=some (.ins C k i))(c:Z3 X.K C)(n:Ψ X.K C f)(l:i.lookup f=some v)(h:∀u m,Inv X d j H m->RelV v u->Q u m):wpAny (model X.prog X.w) A (getAttr (.ref a) f b) Q E s:=by
 obtain⟨p,O,r,_,_,_⟩:=Dh I.ψ e;obtain⟨u,q,g⟩:=oK.some_of (v:=v) (o:=p f) (by rw[<-l];exact r f);exact Ru I.WB O (c.get f) c.hd n q (Ma g) (h u _ (I.tok _) g)
theorem JV{y:V}{u:Value}{Q:Unit->Shared->Prop}(I:Inv X d j H s)(e:H a=some (.ins C k i))(c:Z3 X.K C)(n:Ψ X.K C f)(N:i.length<1000)(L:RelV y u)(h:∀B,Inv X d j (upd H a (.ins C k (bF f y i))) B->Q () B):wpAny (model X.prog X.w) A (setAttr (.ref a) f u) Q E s:=by
 obtain⟨t,O,r,p,_,m⟩:=Dh I.ψ e;have F:(i.map (·.1)).length<=sizeLine:=by rw[aa,sizeLine_eq];lia
 refine R6 I.WB O c.sa c.po n.ade c.hd p F λM l G=>h _ ?_;have hd:∃o,M.get? k=some o:=let ⟨o,_,_,e',_⟩:=l.ns;⟨o,e'⟩;refine I.write (x:=a) (e:=k) (by rw[e];exact True.intro) (.inr m) (λb q J z=>(G.2 b J).trans z) hd ?_;refine⟨by rw[aR O.ne];exact m,?_,O.ne,l.obj,_,l.ns,λg=>?_,λg D=>?_⟩
 .have:=y7 f y i;lia
 .show oK ((bF f y i).lookup g) (if g=f then some u else t g);rw[cI];by_cases q:g=f
  .rw[aj q,aj q];exact L
  .rw[ag q,ag q];exact r g
 .by_cases q:g=f
  .rw[q];exact(xF f y i).1
  .refine(xF f y i).2 g (p g λz=>D ?_);show(if g=f then some u else t g)=none;rw[ag q];exact z
theorem Inv.made(I:Inv X d j H s):Inv X d j (upd (upd H s.heap.objs.size (.own (s.heap.objs.size+1))) (s.heap.objs.size+1) (.ins C s.heap.objs.size []))
 { s with heap:=(s.heap.push PySem.W.emptyDict).push (PySem.W.instObj C s.heap.objs.size) }:=by
 have c:(s.heap.push PySem.W.emptyDict).get? s.heap.objs.size=some PySem.W.emptyDict:=bf s.heap rfl;have l:((s.heap.push PySem.W.emptyDict).push (PySem.W.instObj C s.heap.objs.size)).get? (s.heap.objs.size+1)=some (PySem.W.instObj C s.heap.objs.size):=by
  have:=bf (s.heap.push PySem.W.emptyDict) (o:=PySem.W.instObj C s.heap.objs.size) rfl
  rwa [de]at this
 have n:(s.heap.push PySem.W.emptyDict).Ns s.heap.objs.size (λ_=>none):=⟨PySem.W.emptyDict,#[],_,c,rfl,(λe m=>absurd m (by simp)),λ_=>rfl⟩;have h:=I.laid (a:=s.heap.objs.size) (o:=.own (s.heap.objs.size+1)) (h':=s.heap.push PySem.W.emptyDict) (t':=s.toks) (λb u q=>ar _ q) (ap _) ⟨_,c⟩;refine h.laid (a:=s.heap.objs.size+1) (o:=.ins C s.heap.objs.size []) (t':=s.toks) (λb u q=>ar _ q) (kO (de _ _)) ?_;have ne:s.heap.objs.size≠s.heap.objs.size+1:=aV (fX _);refine⟨by rw[aR ne,ay],bj _,ne,l,λ_=>none,(Heap.Ns1.of_empty n).at λo q=>ar _ q,λ_=>True.intro,λy g=>absurd rfl g⟩
theorem Ra{b:Program}{w:World}{c:Env}{e:Expr}{f:Str}{l:Pos}{s:Shared}{Q:f3}(m:attributeBase e f c (eval e c)=eval e c)(h:wpAny (model b w) A (eval e c) (λo g=>wpAny (model b w) A (getAttr o f true) Q E g) E s):wpAny (model b w) A (eval (.Attribute e f l) c) Q E s:=Attribute_any_ h (by rw[arm_eval_Attribute,m])
end
def NN(K:f5)(g:TE)(f:Str):TE:=λe H Q=>g e H λx b=>∃a C d c v,x=.ref a/\b a=some (.ins C d c)/\Z3 K C/\Ψ K C f/\c.lookup f=some v/\Q v b
def Qi(K:f5)(i h:TE)(f:Str):TS:=λD c H=>h c H λy g=>i c g λx d=>∃a C e b,x=.ref a/\d a=some (.ins C e b)/\Z3 K C/\Ψ K C f/\b.length<1000/\D.nx c (upd d a (.ins C e (bF f y b)))
section
variable{X:Cx}{o e b:Expr}{f:Str}{g d k:Pos}{i j:TE}
theorem dB(D:PE X e i)(B:attributeBase e f X.env (eval e X.env)=eval e X.env):PE X (.Attribute e f g) (NN X.K i f):=by
 intro m s E H Q I h;refine Ra B (dR (D m s E H _ I h) λu J x r z A ⟨a,C,L,F,v,t,w,c,n,l,q⟩=>?_);subst t;obtain rfl:u=Value.ref a:=A;exact J5 z w c n l λM G y p=>⟨v,r,y,p,q⟩
theorem rj(M:PE X o i)(N:PE X b j)(w:swapsWith b (some (.Attribute o f d)) g.line X.env=pure false):PS X (.Assign [.Attribute o f d] b g) (Qi X.K i j f):=by
 intro m s p H D I h;refine plainObj_wpAny_Assign_Attribute (dR (N m s p H _ I h) λu A y r E L q=>dR (M m A p r _ E q) λB S x R z F ⟨a,C,Q,O,t,v,c,n,l,G⟩=>?_) w;subst t;obtain rfl:B=Value.ref a:=F;exact JV z v c n l L λP J=>⟨p,_,J,G⟩
end
section
variable{X:Cx}{d:gf}{f:St}{H:Hp}{s:Shared}{A:Around}{E:f3}{Q:f3}{c:Value}{b:Bool}
inductive As(K:f5)(H:Hp):V->Value->Prop where
 | ω:As K H .ω (.type "NoneType")
 | bl (x:Bool):As K H (.bl x) (.type "bool")
 | int (i:Int):As K H (.int i) (.type "int")
 | str (x:Str):As K H (.str x) (.type "str")
 | flt (x:UInt64):As K H (.flt x) (.type "float")
 | lst {a:Addr} {xs:List V} (e:H a=some (.lst xs)):As K H (.ref a) (.type "list")
 | X2 {a:Addr} {o:Obj} {xs:List V} (e:H a=some (.X2 o (.lst xs))):As K H (.ref a) (.type "list")
 | tup {a:Addr} {xs:List V} (e:H a=some (.tup xs)):As K H (.ref a) (.type "tuple")
 | dK {a:Addr} {θ:List (Key×V)} (e:H a=some (.dK θ)):As K H (.ref a) (.type "dict")
 | dT {a:Addr} {θ:List (List Key×V)} (e:H a=some (.dT θ)):As K H (.ref a) (.type "dict")
 | ins {a C dx:Addr} {fs:List (Str×V)} (e:H a=some (.ins C dx fs)) (cl:Z3 K C) (ha:PySem.W.findIn K (.ref C) "__class__"=some (some (.builtin "object.__class__")))
  (hn:PySem.W.specialIn K (.builtin "object.__class__") "__get__"=some (some (.builtin "getset_descriptor.__get__"))) (htk:PySem.W.takesIn K (.builtin "object.__class__")=some true)
  (hm:PySem.W.mroIn K C (.type "object")=some true):As K H (.ref a) (.ref C)
theorem Mi{x:V}{u t:Value}(I:Inv X d f H s)(g:RelV x u)(m:As X.K H x t)(e:PySem.W.kitOne X.K t c=some b)(h:∀B,Q (.bool b) { s with toks:=B }):wpAny (model X.prog X.w) A (call (.builtin "isinstance") [u,c]) Q E s:=by
 cases m with
 | ω=>cases(show u=Value.none from g);exact c7 PySem.W.kitx_none I.WB True.intro e (λz=>nomatch z) h
 | bl y=>cases(show u=Value.bool y from g);exact c7 PySem.W.kitx_bool I.WB True.intro e (λz=>nomatch z) h
 | int i=>obtain⟨t,q⟩:=(show ∃t,u=Value.int i t from g);cases q;exact c7 PySem.W.kitx_int I.WB True.intro e (λz=>nomatch z) h
 | str y=>obtain⟨t,q⟩:=(show ∃t,u=Value.str y t from g);cases q;exact c7 PySem.W.kitx_str I.WB True.intro e (λz=>nomatch z) h
 | flt y=>obtain⟨t,q⟩:=(show ∃t,u=Value.float y t from g);cases q;exact c7 PySem.W.kitx_float I.WB True.intro e (λz=>nomatch z) h
 | @lst a k ea=>
   cases(show u=Value.ref a from g);obtain⟨_,_,n,_,j⟩:=(show Γ X.prog X.w H s.heap a (.lst k)from I.ψ a _ ea);exact c7 PySem.W.kitx_list I.WB ⟨_,j,rfl⟩ e (λz=>nomatch z) h
 | @X2 a ob k ea=>
   cases(show u=Value.ref a from g);obtain⟨_,_,_,n,_,j⟩:=(show Γ X.prog X.w H s.heap a (.X2 ob (.lst k))from I.ψ a _ ea);exact c7 PySem.W.kitx_list I.WB ⟨_,j,rfl⟩ e (λz=>nomatch z) h
 | @tup a k ea=>
   cases(show u=Value.ref a from g);obtain⟨_,_,_,p⟩:=(show Γ X.prog X.w H s.heap a (.tup k)from I.ψ a _ ea);obtain⟨o,j,l,_⟩:=p;exact c7 PySem.W.kitx_tuple I.WB ⟨o,j,l⟩ e (λz=>nomatch z) h
 | @dK a θ ea=>
   cases(show u=Value.ref a from g);obtain⟨_,_,F,_,p⟩:=(show Γ X.prog X.w H s.heap a (.dK θ)from I.ψ a _ ea);obtain⟨o,r,v,j,l,_⟩:=p;exact c7 PySem.W.kitx_dict I.WB ⟨o,j,l.1⟩ e (λz=>nomatch z) h
 | @dT a θ ea=>
   cases(show u=Value.ref a from g);obtain⟨_,_,k,_,o,r,v,j,l,_⟩:=(show Γ X.prog X.w H s.heap a (.dT θ)from I.ψ a _ ea);exact c7 PySem.W.kitx_dict I.WB ⟨o,j,l.1⟩ e (λz=>nomatch z) h
 | @ins a C dx fs ea cl ha hn htk hm=>
   cases(show u=Value.ref a from g);obtain⟨G,O,_⟩:=Dh I.ψ ea;obtain⟨D,J,_⟩:=O.look;exact c7 (PySem.W.kitx_own (cl.get _) cl.hd ha hn htk hm) I.WB J e (λz=>nomatch z) h
end
structure ϋ(k:Nat)(A:Around):Prop where
 hd:A.handled=none
 dp:A.depth+3*k+5<recursionLimit
 un:A.units+16*k+200<cLine
theorem ϋ.mono{j k:Nat}{A:Around}(r:ϋ k A)(h:j<=k):ϋ j A:=⟨r.hd,by have:=r.dp;lia,by have:=r.un;lia⟩
theorem ϋ.deeper{k:Nat}{A:Around}(r:ϋ (k+1) A)(a:Env):ϋ k (A.deeper a):=⟨r.hd,by have:=r.dp;show A.depth+1+3*k+5<_;lia,by have:=r.un;show A.units+3+16*k+200<_;lia⟩
theorem JU{A:Around}{C:Addr}{b:gn}{a:List (Str×Value)}:(A.under (.builtin "type.__call__" ⟨.ref C::b,a⟩)).depth=A.depth+1:=by
 first|rfl|simp[Around.under,Code.weight,Code.isCreation,Code.isGuard,Code.isCaller,Code.frames,Code.isFrame,guardIds]
theorem K1{A:Around}{C:Addr}{b:gn}{a:List (Str×Value)}:(A.under (.builtin "type.__call__" ⟨.ref C::b,a⟩)).units=A.units+1:=by
 first|rfl|simp[Around.under,Code.cUnits,Code.frames,Code.isFrame]
theorem ϋ.make{k:Nat}{A:Around}(r:ϋ (k+1) A)(C:Addr)(b:gn)(a:List (Str×Value)):ϋ k (A.under (.builtin "type.__call__" ⟨.ref C::b,a⟩)):=⟨r.hd,by have:=r.dp;rw[JU];lia,by have:=r.un;rw[K1];lia⟩
theorem ϋ.depth{k:Nat}{A:Around}(r:ϋ k A):A.depth<recursionLimit:=by have:=r.dp;lia
theorem ϋ.units{k:Nat}{A:Around}(r:ϋ k A):A.units+64<cLine:=by have:=r.un;lia
def abp:TA:=λ_ H Q=>Q [] H
def KM(f:TE)(e:TA):TA:=λa H Q=>f a H λx b=>e a b λc d=>Q (x::c) d
section
variable{X:Cx}{e:Expr}{c:List Expr}{d:TE}{t:TA}{a:Pos}
theorem aB:PA X [] abp:=λ_ _ _ _ H Q I h=>gQ ⟨[],H,I,.nil,h⟩
theorem ah(v:PE X e d)(i:PA X c t)(w:starEach (e::c) X.env=(false,eval e X.env)::starEach c X.env:=by rfl):PA X (e::c) (KM d t):=by
 intro a b s f H Q I h;rw[w];show wpAny _ _ (spliced ((false,eval e X.env)::backTo a (starEach c X.env))) _ _ s;refine gG (dR (v b s f H _ I h) λu m x j n o k=>?_);exact uh (i a b m f j _ n k) λy z g q l r p=>⟨x::g,q,l,.cons o r,p⟩
def O4(t:TA):TE:=λg H Q=>t g H λb f=>b.length<=sizeLine/\∀p,f p=none->Q (.ref p) (upd f p (.tup b))
def Pu(t:TA):TE:=λg H Q=>t g H λb f=>b.length<=sizeLine/\∀p,f p=none->Q (.ref p) (upd f p (.lst b))
theorem jT{x1}(h:PA X c t):PE X (.Tuple c x1 a) (O4 t):=by
 intro f s o H Q I l;refine wpAny_Tuple_spliced (uh (h a f s o H _ I l) λm g k i j r ⟨z,q⟩=>⟨by rw[<-r.length];exact z,?_⟩);have n:i g.heap.objs.size=none:=j.ψ.fresh (ap _);refine⟨.ref g.heap.objs.size,upd i g.heap.objs.size (.tup k),j.laid (t':=g.toks) (λb u e=>ar _ e) (ap _) ?_,rfl,q _ n⟩;exact⟨z,m,r,⟨_,bf _ rfl,rfl,_,rfl⟩⟩
theorem eD(h:PA X c t):PE X (.List c a) (Pu t):=by
 intro f s o H Q I l;refine wpAny_List_spliced (uh (h a f s o H _ I l) λm g k i j r ⟨z,q⟩=>⟨by rw[<-r.length];exact z,?_⟩);have n:i g.heap.objs.size=none:=j.ψ.fresh (ap _);refine⟨.ref g.heap.objs.size,upd i g.heap.objs.size (.lst k),j.laid (t':=g.toks) (λb u e=>ar _ e) (ap _) ?_,rfl,q _ n⟩;exact⟨z,m,0,r,bf _ rfl⟩
end
abbrev Sp:=List V->Hp->VK->XK->Prop
abbrev Xa:=List Env->Hp->Shared->XK->Value->Shared->Prop
structure X8(P:Program)(w:World)(K:f5)(mg:gw)(base:Heap)(A:Around)(outer:List Env)(s:Shared)(H:Hp):Prop where
 frames:A.frames=some outer
 mod:Mod K mg base
 bs:∀b o,base.get? b=some o->s.heap.get? b=some o/\H b=none
 ZZ:base.objs.size<=s.heap.objs.size
 Ac:s.heap.FunFrames base outer
 frf:∀b∈ϭ outer,H b=none
 ψ:Ϭ P w H s.heap
 bare:AllBare s.gens
def CE(a:List Env)(P:Program)(w:World)(H:Hp)(s:Shared)(Q:VK)(u:Value)(b:Shared):Prop:=∃v c,b.os=s.os/\AllBare b.gens/\Un (ϭ a) [] H c s.heap b.heap/\Ϭ P w c b.heap/\RelV v u/\Q v c
def CR(c:Xa)(a:List Env)(P:Program)(w:World)(H:Hp)(s:Shared)(Q:VK)(E:XK)(r:Result)(b:Shared):Prop:=match r with
 | .ok (.ret u)=>CE a P w H s Q u b
 | .ok _=>False
 | .error e=>c a H s E e b
structure ϓ(P:Program)(w:World)(K:f5)(mg:gw)(base:Heap)(CX:Xa)(k:Nat)(f:Addr)(fd:FuncData)(ps:gy)(sp:Sp):Prop where
 len:∀vs H Q E,sp vs H Q E->vs.length=ps.length
 run:∀(A:Around)(outer:List Env)(s:Shared)(H:Hp)(args:Args)(us:gn)(vs:List V)(Q:VK)(E:XK),ϋ k A->X8 P w K mg base A outer s H->BindsTo s fd args (ps.zip us)->Vals vs us->sp vs H Q E->codeAny (model P w) A (.call (.ref f) args) (CR CX outer P w H s Q E) s
theorem X8.make{P:Program}{w:World}{K:f5}{c:gw}{b:Heap}{A:Around}{a:List Env}{s:Shared}{H:Hp}(e:X8 P w K c b A a s H)(C:Addr)(f:gn)(d:List (Str×Value)):X8 P w K c b (A.under (.builtin "type.__call__" ⟨.ref C::f,d⟩)) a s H:=⟨by first|exact e.frames|(simpa[Around.under,Code.envs,Code.isFrame,pushEnvs]using e.frames),e.mod,e.bs,e.ZZ,e.Ac,e.frf,e.ψ,e.bare⟩
section
variable{X:Cx}{a:gf}{e:St}{H:Hp}{s c:Shared}
theorem Inv.adf(I:Inv X a e H s):X8 X.prog X.w X.K X.mg X.base X.A X.stack s H:=⟨I.ok.frames,I.ok.mod,I.bs,aL I.ok.ZZ I.sz,I.stack,I.Wm,I.ψ,I.bare⟩
theorem Inv.after{Q:VK}{u:Value}(I:Inv X a e H s)(h:CE X.stack X.prog X.w H s Q u c):EP X a e Q u c:=by
 obtain⟨v,l,os,f,j,m,r,q⟩:=h;obtain⟨k,g,d,t,i⟩:=c;obtain rfl:i=s.os:=os;exact⟨v,l,I.call (h':=k) (g':=g) (d':=d) (t':=t) (ch:=[]) j m f (λb z=>absurd z (by simp)),r,q⟩
end
def vc(d:Sp)(b:List V)(E:XK)(t:TA):TE:=λe H Q=>t e H λc a=>d (c++b) a Q E
def KN(C:Addr)(f:Sp)(d:List V)(E:XK)(t:TA):TE:=λg H Q=>t g H λe b=>∀x a,b x=none->b a=none->a≠x->f (.ref x::(e++d)) (upd (upd b a (.own x)) x (.ins C a [])) (λv c=>v=.ω/\Q (.ref x) c) E
def Binds(K:f5)(d:FuncData)(c:gy)(b:gn):Prop:=∀(s:Shared)(a:gn),K.In s.heap->(a++b).length=c.length->BindsTo s d ⟨a,[]⟩ (c.zip (a++b))
theorem Binds.all{K:f5}{c:FuncData}{b:gy}(h:∀a:List Value,a.length=b.length->bindArgs c ⟨a,[]⟩=pure (b.zip a)):Binds K c b []:=λs a _ d=>by
 rw[bH]at d ⊢;exact .of_eq (h a d)
def rd(c:Xa)(X:Cx)(E:XK):Prop:=∀(a:gf)(d:St)(H:Hp)(s:Shared)(e:Value)(b:Shared),Inv X a d H s->c X.stack H s E e b->X.xe e b
section
variable{X:Cx}{i:Xa}{k:Nat}{f C:Addr}{l:FuncData}{g:gy}{j:Sp}{c:List V}{a:gn}{E:XK}{x m:Str}{p b n:Pos}{e o:Expr}{d:List Expr}{y:TE}{t:TA}
theorem Ui{q:gf}{D:St}{H:Hp}{s:Shared}{Q:VK}{v:gn}{B:List V}(F:ϓ X.prog X.w X.K X.mg X.base i k f l g j)(J:ϋ k X.A)(O:Binds X.K l g a)(L:Vals c a)(M:rd i X E)(I:Inv X q D H s)(r:Vals B v)(h:j (B++c) H Q E):wpAny (model X.prog X.w) X.A (call (.ref f) v) (EP X q D Q) X.xe s:=by
 have G:Vals (B++c) (v++a):=r.append L;have N:(v++a).length=g.length:=by rw[<-G.length];exact F.len _ _ _ _ h
 refine wpAny_call (kT (F.run X.A X.stack s H ⟨v,[]⟩ (v++a) (B++c) Q E J I.adf (O s v I.WB N) G h) λr P z=>?_);cases r with
 | error e=>exact M q D H s e P I z
 | ok fl=>
   cases fl with
   | ret u=>exact I.after z
   | next=>exact False.elim z
   | brk=>exact False.elim z
   | cont=>exact False.elim z
theorem qD(F:ϓ X.prog X.w X.K X.mg X.base i k f l g j)(B:ϋ k X.A)(L:Gl X x)(J:X.mg x=some (.ref f))(G:PySem.W.keepIn X.K (.ref f)=true)(N:Binds X.K l g a)(D:Vals c a)(M:rd i X E)(R:PA X (e::d) t)(v:(x==("__debug__":Str))=false:=by decide)(P:starEach (e::d) X.env=(false,eval e X.env)::starEach d X.env:=by rfl)(O:(backTo b (starEach d X.env)).any (·.1)=false:=by rfl):PE X (.Call (.Name x p) (e::d) [] b) (vc j c E t):=by
 intro u s S H Q I h;refine iu (xM I L J ?_ v);refine PySem.W.callWith_K (h₀:=X.base) I.ok.mod.kin G (uh (R b u s S H _ I h) λV Y U T z r q=>⟨z.WB,?_⟩) P O;exact Ui F B N D M z r q
structure Mk(K:f5)(C f:Addr):Prop where
 makes:PySem.W.makesIn K C=true
 init:PySem.W.findIn K (.ref C) "__init__"=some (some (.ref f))
 fn:PySem.W.isFn K (.ref f)=true
 kp:PySem.W.keepIn K (.ref C)=true
theorem OZ{q:gf}{L:St}{H:Hp}{s:Shared}{Q:VK}{z:gn}{J:List V}(M:Mk X.K C f)(F:ϓ X.prog X.w X.K X.mg X.base i k f l g j)(P:ϋ (k+1) X.A)(hb:Binds X.K l g a)(S:Vals c a)(W:rd i X E)(I:Inv X q L H s)(r:Vals J z)(h:∀x G,H x=none->H G=none->G≠x->j (.ref x::(J++c)) (upd (upd H G (.own x)) x (.ins C G [])) (λv H2=>v=.ω/\Q (.ref x) H2) E):wpAny (model X.prog X.w) X.A (call (.ref C) z) (EP X q L Q) X.xe s:=by
 have N:=h (s.heap.objs.size+1) s.heap.objs.size (I.ψ.fresh (fE _)) (I.ψ.fresh (ap _)) (aV (fX _));have D:=Inv.made (C:=C) I;have O:Vals (V.ref (s.heap.objs.size+1)::(J++c)) (Value.ref (s.heap.objs.size+1)::(z++a)):=.cons rfl (r.append S);have Z:(Value.ref (s.heap.objs.size+1)::z++a).length=g.length:=by
  have e:=O.length;rw[F.len _ _ _ _ N]at e;exact e.symm
 refine wpAny_call (Qs (f:=f) I.WB M.makes M.init (gR.mp M.fn) (kT (F.run _ X.stack _ _ ⟨Value.ref (s.heap.objs.size+1)::z,[]⟩ (Value.ref (s.heap.objs.size+1)::(z++a)) _ _ E (P.make C z [])
  (D.adf.make C z []) (hb _ (Value.ref (s.heap.objs.size+1)::z) D.WB Z) O N) λr s' B=>?_))
 cases r with
 | error e=>exact W q L _ _ e s' D B
 | ok fl=>
   cases fl with
   | ret u=>
     obtain⟨v,Y,I3,T,U,R⟩:=D.after B;subst U;exact⟨T,⟨V.ref (s.heap.objs.size+1),Y,I3,rfl,R⟩⟩
   | next=>exact False.elim B
   | brk=>exact False.elim B
   | cont=>exact False.elim B
theorem xN(M:Mk X.K C f)(F:ϓ X.prog X.w X.K X.mg X.base i k f l g j)(z:ϋ (k+1) X.A)(D:Gl X x)(B:X.mg x=some (.ref C))(J:Binds X.K l g a)(hd:Vals c a)(G:rd i X E)(O:PA X (e::d) t)(hdb:(x==("__debug__":Str))=false:=by decide)(N:starEach (e::d) X.env=(false,eval e X.env)::starEach d X.env:=by rfl)(L:(backTo b (starEach d X.env)).any (·.1)=false:=by rfl):PE X (.Call (.Name x p) (e::d) [] b) (KN C j c E t):=by
 intro u s P H Q I h;refine iu (xM I D B ?_ hdb);refine PySem.W.callWith_K (h₀:=X.base) I.ok.mod.kin M.kp (uh (O b u s P H _ I h) λT U S R v r q=>⟨v.WB,?_⟩) N L;exact OZ M F z J hd G v r q
end
structure η(N P:gy)(sc:Scope):Prop where
 kind:sc.kind=.function
 co:sc.isCoroutine=false
 gen:sc.isGenerator=false
 nd:N.Nodup
 pre:N.take P.length=P
 par:∀x∈P,sc.names.lookup x=some .local\/sc.names.lookup x=some .cell
 abq:∀y∈sc.names,y.2≠.free
theorem DV{b:Str->Option NameKind}{x:Str}:∀{a:List (Str×Value)}{m:gw},(∀v,(x,v)∉a)->bindL b a m x=m x
 | [],_,_=>rfl
 | (n,v)::r,m,h=>by
   unfold bindL;rw[DV λw c=>h w (aH _ c)];split
   .have:x≠n:=(by rintro rfl;exact h v aJ);simp[this]
   .rfl
theorem DG{b:Str->Option NameKind}{x:Str}:∀{a:List (Str×Value)}{m:gw},(∀v,(x,v)∉a)->bindC b a m x=m x
 | [],_,_=>rfl
 | (n,v)::r,m,h=>by
   unfold bindC;rw[DG λw c=>h w (aH _ c)];split
   .rfl
   .have:x≠n:=(by rintro rfl;exact h v aJ);simp[this]
theorem Dz{a:Str->Option NameKind}{x:Str}{v:Value}:∀{P:gy}{b:gn}{i:Nat}{m:gw},P.Nodup->P[i]?=some x->b[i]?=some v->a x=some .local->bindL a (P.zip b) m x=some v
 | [],_,_,_,_,h,_,_=>by simp at h
 | _::_,[],_,_,_,_,h,_=>by simp at h
 | p::P,w::b,0,m,nd,h1,h2,hk=>by
   simp at h1 h2;subst h1;subst h2;show bindL a ((p,w)::P.zip b) m p=_;unfold bindL;rw[DV λv c=>(bg.mp nd).1 (hG c).1,aj hk];simp
 | p::P,w::b,i+1,m,nd,h1,h2,hk=>by
   show bindL a ((p,w)::P.zip b) m x=_;unfold bindL;exact Dz (i:=i) (bg.mp nd).2 (by simpa using h1) (by simpa using h2) hk
theorem DE{a:Str->Option NameKind}{x:Str}{v:Value}:∀{P:gy}{b:gn}{i:Nat}{m:gw},P.Nodup->P[i]?=some x->b[i]?=some v->a x≠some .local->bindC a (P.zip b) m x=some v
 | [],_,_,_,_,h,_,_=>by simp at h
 | _::_,[],_,_,_,_,h,_=>by simp at h
 | p::P,w::b,0,m,nd,h1,h2,hk=>by
   simp at h1 h2;subst h1;subst h2;show bindC a ((p,w)::P.zip b) m p=_;unfold bindC;rw[DG λv c=>(bg.mp nd).1 (hG c).1,ag hk];simp
 | p::P,w::b,i+1,m,nd,h1,h2,hk=>by
   show bindC a ((p,w)::P.zip b) m x=_;unfold bindC;exact DE (i:=i) (bg.mp nd).2 (by simpa using h1) (by simpa using h2) hk
def start(N:gy)(a:List V):St:=a.map some++List.replicate (N.length-a.length) none
def rD(g:Xa)(P:Program)(w:World)(K:f5)(mg:gw)(base:Heap)(N:gy)(b:Str)(a:Scope)(f:Addr)(d:Value)(A:Around)(outer:List Env)(s:Shared)(H:Hp)(E:XK):Cx where
 prog:=P
 w:=w
 K:=K
 mg:=mg
 base:=base
 A:=A.deeper (envOfC b a s.heap.objs.size f d)
 N:=N
 s₀:=s
 H₀:=H
 env:=envOfC b a s.heap.objs.size f d
 outer:=outer
 stack:=envOfC b a s.heap.objs.size f d::outer
 ex:=[]
 calm:=true
 fn:=λ_=>true
 pn:=[]
 xe:=λe h=>wpAny (model P w) (A.deeper (envOfC b a s.heap.objs.size f d)) (leaving (envOfC b a s.heap.objs.size f d) e) (λ_ c=>g outer H s E e c) (λi c=>g outer H s E i c) h
theorem zd{a:Scope}{n:Nat}{x:Str}(h:a.names.lookup x=some .cell):∃c,(cellsFrom n a.names []).lookup x=some c:=by
 have q:=lR a.names n [] (.inl h);exact ft.mp q
theorem Mu{O:Xa}{P:Program}{w:World}{K:f5}{M:gw}{m:Heap}{N C:gy}{j:Str}{d:Scope}{f:Addr}{G:Value}{A:Around}{g:List Env}{s R:Shared}{H:Hp}{E:XK}{L:gn}{B:List V}(S:η N C d)(U:A.handled=none)(o:X8 P w K M m A g s H)(hl:B.length=C.length)(r:Vals B L)(x:InCallC s s.heap.objs.size (bindL (envOfC j d s.heap.objs.size f G).kindOf (C.zip L) λ_=>none) (cellsFrom (s.heap.objs.size+1) d.names []) (bindC (envOfC j d s.heap.objs.size f G).kindOf (C.zip L) λ_=>none) R):Inv (rD O P w K M m N j d f G A g s H E) [] (start N B) H R:=by
 have Bv:C.length<=N.length:=by have:=congrArg List.length S.pre;rw[bq]at this;lia
 obtain⟨I,tk,rfl,Q⟩:=x.done;have t:∀b:Addr,b∉(rD O P w K M m N j d f G A g s H E).ex:=λb z=>absurd (show b∈([]:gg)from z) (by simp);refine⟨⟨o.mod,S.kind,rfl,rfl,ap _,λy z c I l=>?_,λy hy=>?_,λy c _ h=>?_,λ_=>U,Around.frames_deeper o.frames,.inr ⟨rfl,rfl⟩,λb z=>absurd z (t b),o.bs,o.ZZ,λb _ _=>t b,λb z=>absurd z (t b),o.Ac,o.frf⟩,rfl,o.bare,Un.kept Q,⟨_,x.toInCall.ns,λi y v I l Z=>?_⟩,λy c h=>⟨_,x.cell y c h⟩,o.ψ.fresh (ap _),λy c h=>?_,λp F=>absurd (show p∈([]:gf)from F) (by simp),o.ψ.kept Q,?_⟩
 .exact name_of_addr x.apart (dE I) (dE l)
 .have hy:d.names.lookup y=some .cell\/d.names.lookup y=some .free:=hy;rcases hy with hy|hy
  .exact zd hy
  .exact absurd rfl (S.abq _ (dE hy))
 .exact i9 (x.above y c (dE h))
 .have J:i<B.length:=by
   unfold start at l;by_cases J:i<B.length
   .exact J
   .rw[da (by simpa using J)]at l;rw[fD]at l;split at l<;>cases l
  have Y:B[i]?=some v:=by
   unfold start at l;rw[dh (by simpa using J),aA]at l;cases e:B[i]? with
   | none=>rw[e]at l;cases l
   | some a=>rw[e]at l;cases l;rfl
  obtain⟨u,T,X⟩:=r.get Y;have F:C[i]?=some y:=by
   rw[<-S.pre,iA (by lia)];exact I
  have D:C.Nodup:=by rw[<-S.pre];exact S.nd.sublist (List.take_sublist _ _)
  refine⟨u,X,?_⟩;rcases S.par y (aQ F)with k|k
  .exact .inl ⟨k,Dz D F T k⟩
  .obtain⟨c,e⟩:=zd (n:=s.heap.objs.size+1) k;refine .inr ⟨.inl k,c,e,?_⟩;have q:=x.cell y c e;rw[DE D F T (by show d.names.lookup y≠_;rw[k];decide)]at q;exact q
 .exact o.ψ.fresh (i9 (x.above y c (dE h)))
 .unfold start;show _=N.length;rw[aE,aa,cV]
  lia
theorem Q4{G:Xa}{P:Program}{w:World}{K:f5}{L:gw}{base:Heap}{k:Nat}{f:Addr}{l d:Str}{g:Arguments}{h:List Stmt}{a:Scope}{dV kV D pm p Z oc:Value}{an od:Option Addr}{Zh:Array (Option Value)}{N M:gy}{T:Sp}(lk:K.lookup f=some ⟨oc,od,.func (PySem.W.fnOf l d g h a dV kV D pm an p Z),Zh⟩)(YK:PySem.W.codeIn K p d=true)(S:η N M a)(F:∀j H Q E,T j H Q E->j.length=M.length)(Xy:∀(A:Around) (c:List Env) (s:Shared) (H:Hp) (j:List V) (Q:VK) (E:XK),ϋ k (A.deeper (envOfC d a s.heap.objs.size f p))->T j H Q E->∃t,X7 (rD G P w K L base N d a f p A c s H E) h t/\t { nx:=λ_ m=>Q .ω m,rt:=Q } (start N j) H):ϓ P w K L base G (k+1) f (PySem.W.fnOf l d g h a dV kV D pm an p Z) M T:=by
 refine⟨F,λA c s H ai us j Q E O B hb r ZP=>?_⟩;have hl:=F _ _ _ _ ZP;have KX:K.In s.heap:=B.mod.kin.keeps λb o e=>(B.bs b o e).1;have R:s.heap.NoLimit:=B.mod.nolimit.keeps λb o e=>(B.bs b o e).1;have X:∀y∈M.zip us,a.names.lookup y.1=some .local\/(a.names.lookup y.1=some .cell/\((cellsFrom (s.heap.objs.size+1) a.names []).lookup y.1).isSome=true):=λ⟨n,v⟩ hy=>by
  rcases S.par n (hG hy).1 with q|q
  .exact .inl q
  .exact .inr ⟨q,lR _ _ _ (.inl q)⟩
 refine codeAny_call_function O.depth (KX _ _ lk) rfl S.co S.gen rfl (PySem.W.codeRec_of KX YK) (hb _ _ _ _ ?_);refine wpAny_newFunctionEnv_cells S.kind X λa3 he s1 x=>?_;subst he;refine⟨R.keeps x.toInCall.keep,codeAny_func ?_⟩;obtain⟨t,ht,hq⟩:=Xy A c s H j Q E (O.deeper _) ZP;have I:Inv (rD G P w K L base N d a f p A c s H E) [] (start N j) H s1:=Mu S O.hd B hl r x;refine di (ht [] s1 (start N j) H _ I hq) (λfl Y z=>?_) λe Y z=>z;have C:∀{i:St}{m:Hp}{v:V}{u:Value},Inv (rD G P w K L base N d a f p A c s H E) [] i m Y->RelV v u->Q v m->CE c P w H s Q u Y:=λ{i m v u} J U q=>⟨v,m,J.os,J.bare,J.base,J.ψ,U,q⟩
 cases fl with
 | ret u=>
   obtain⟨v,i,m,J,U,q⟩:=z;exact C J U q
 | next=>
   obtain⟨i,m,J,q⟩:=z;exact C (v:=V.ω) (u:=Value.none) J rfl q
 | brk=>
   obtain⟨_,_,_,q⟩:=z;exact False.elim q
 | cont=>
   obtain⟨_,_,_,q⟩:=z;exact False.elim q
section
variable{X:Cx}{x:Str}{p a:Pos}{e:Expr}{b:List Expr}{t:TA}{c T:String}{r:List V->Hp->VK->Prop}
def tCB(r:List V->Hp->VK->Prop)(t:TA):TE:=λg H Q=>t g H λf d=>r f d Q
theorem Fs(z:lm X (.builtin c) r)(o:Gl X x)(k:X.mg x=none)(B:bootBuiltins x=some (.builtin c))(A:PA X (e::b) t)(v:x≠"__name__":=by decide)(f:(x==("__debug__":Str))=false:=by decide)(y:starEach (e::b) X.env=(false,eval e X.env)::starEach b X.env:=by rfl)(w:(backTo a (starEach b X.env)).any (·.1)=false:=by rfl):PE X (.Call (.Name x p) (e::b) [] a) (tCB r t):=by
 intro d s g H Q I h;refine iu (oP I o k B ?_ v f);exact PyProof.Rows.callWith_builtin1 (uh (A a d s g H _ I h) λm n j i q u l=>z d n g i j m Q q u l) y w
theorem DA(z:lm X (.type T) r)(o:Gl X x)(k:X.mg x=none)(B:bootBuiltins x=some (.type T))(A:PA X (e::b) t)(v:x≠"__name__":=by decide)(f:(x==("__debug__":Str))=false:=by decide)(y:starEach (e::b) X.env=(false,eval e X.env)::starEach b X.env:=by rfl)(w:(backTo a (starEach b X.env)).any (·.1)=false:=by rfl):PE X (.Call (.Name x p) (e::b) [] a) (tCB r t):=by
 intro d s g H Q I h;refine iu (oP I o k B ?_ v f);exact cG (uh (A a d s g H _ I h) λm n j i q u l=>z d n g i j m Q q u l) y w
end
end L2
namespace HT
open PySem PyProof.Rows
section
variable{a:Program}{w:World}{A:Around}{E:f3}{s:Shared}
def WW(n d:Nat):Option Int->Nat
 | none=>d
 | some v=>if v<0 then(v+(n:Int)).toNat else min v.toNat n
end
end HT
namespace L2
open PySem PySem.Spec PyProof.Rows
abbrev TO:=St->Hp->(Option Int->Hp->Prop)->Prop
def PO(X:Cx)(e:Option Expr)(t:TO):Prop:=∀(a:gf)(s:Shared)(b:St)(H:Hp)(Q:Option Int->Hp->Prop),Inv X a b H s->t b H Q->wpAny (model X.prog X.w) X.A (evalPart e X.env) (λu d=>∃o c,Inv X a b c d/\IsPart u o/\Q o c) X.xe s
def Xb:TO:=λ_ H Q=>Q none H
def Jx(t:TE):TO:=λb H Q=>t b H λx a=>∃i,x=.int i/\Q (some i) a
section
variable{X:Cx}{e:Expr}{d:TE}{a c:Option Expr}{f g:TO}{j k:Pos}
theorem IP:PO X none Xb:=by
 intro b s i H Q I h;rw[evalPart_none];exact ba ⟨none,H,I,.none,h⟩
theorem Ij(h:PE X e d):PO X (some e) (Jx d):=by
 intro b s p H Q I n;rw[evalPart_some];refine dR (h b s p H _ I n) λu v x l m o r=>?_;obtain⟨i,rfl,q⟩:=r;obtain⟨t,rfl⟩:=o;exact⟨some i,l,m,.int i t,q⟩
def SlR(X:Cx)(r:V->Option Int->Option Int->Hp->VK->Prop):Prop:=∀(b:gf)(s:Shared)(m:St)(H:Hp)(x:V)(v l i:Value)(a c:Option Int)(h:Addr)(Q:VK),Inv X b m H s->RelV x v->s.heap.IsSliceOf h l i .none->IsPart l a->IsPart i c->r x a c H Q->∃T id,typeLookup (.type T) "__getitem__"=pure (some (.builtin id))/\s.TypeIs v T/\wpAny (model X.prog X.w) X.A (getItem v (.ref h)) (EP X b m Q) X.xe s
def tSl(r:V->Option Int->Option Int->Hp->VK->Prop)(d:TE)(f g:TO):TE:=λb H Q=>d b H λx h=>f b h λl i=>g b i λu m=>r x l u m Q
theorem E1{r:V->Option Int->Option Int->Hp->VK->Prop}(z:SlR X r)(Y:PE X e d)(R:PO X a f)(N:PO X c g):PE X (.Subscript e (.Slice a c none k) j) (tSl r d f g):=by
 intro i s n H Q I h;refine Subscript_ (dR (Y i s n H _ I h) λv K x C M O F=>?_);refine wpAny_Slice (ϑ (R i K n C _ M F) λp Z ⟨l,U,J,W,P⟩=>ϑ (N i Z n U _ J P) λo m ⟨u,t,S,D,B⟩=>?_);rw[evalPart_none];refine ba ?_;have E:Inv X i n t { m with heap:=m.heap.push { cls:=.type "slice",data:=.fields #[p,o,.none] } }:=S.kept (t':=m.toks) λb ob q=>ar _ q;obtain⟨T,id,y,G,L⟩:=z i { m with heap:=m.heap.push { cls:=.type "slice",data:=.fields #[p,o,.none] } } n t x v p o l u m.heap.objs.size Q E O (Heap.IsSliceOf.new ..) W D B;show wpAny (model X.prog X.w) X.A (subscriptTail e (.Slice a c none k) v (.ref m.heap.objs.size)) (EP X i n Q) X.xe { m with heap:=m.heap.push { cls:=.type "slice",data:=.fields #[p,o,.none] } };exact tail_any (ops:=[.ref m.heap.objs.size,v]) G y L (by with_unfolding_all rfl)
def wQ(b:List V)(a c:Option Int):List V:=(b.drop (HT.WW b.length 0 a)).take (HT.WW b.length b.length c-HT.WW b.length 0 a)
theorem Hs(b:List V)(a c:Option Int):(wQ b a c).length<=b.length:=by
 unfold wQ;rw[bq,fx]
 lia
end
def Zi(n:Nat)(i:Int):Option Nat:=if 0<=i then(if i<n then some i.toNat else none)else if -(n:Int)<=i then some (i+n).toNat else none
def ϲ{a:Type}(b:List a)(i:Int):Option a:=(Zi b.length i).bind λj=>b[j]?
theorem Iy{n:Nat}{i:Int}{j:Nat}(h:Zi n i=some j):seqIndex? i n=some j/\j<n/\-(n:Int)<=i/\i<n:=by
 unfold Zi at h;by_cases b:0<=i
 .rw[aj b]at h;by_cases a:i<n
  .rw[aj a]at h;have e:i.toNat=j:=bi h;exact⟨by rw[seqIndex_of b a,e],by lia,by lia,a⟩
  .rw[ag a]at h;cases h
 .rw[ag b]at h;by_cases a:-(n:Int)<=i
  .rw[aj a]at h;have e:(i+n).toNat=j:=bi h;exact⟨by rw[seqIndex_neg (by lia) a,e],by lia,a,by lia⟩
  .rw[ag a]at h;cases h
theorem Di{b:Type}{a:List b}{i:Int}{v:b}(h:ϲ a i=some v):∃j,seqIndex? i a.length=some j/\a[j]?=some v/\j<a.length/\-(a.length:Int)<=i/\i<a.length:=by
 unfold ϲ at h;cases e:Zi a.length i with
 | none=>rw[e]at h;cases h
 | some j=>
   rw[e]at h;obtain⟨f,d,c,g⟩:=Iy e;exact⟨j,f,h,d,c,g⟩
theorem IH{b:Type}{a:List b}{j:Nat}{v:b}(h:a[j]?=some v):ϲ a (j:Int)=some v:=by
 have c:j<a.length:=(az.mp h).1;have e:Zi a.length (j:Int)=some j:=by
  unfold Zi;rw[aj (by lia),aj (by lia)];simp
 unfold ϲ;rw[e];exact h
def Je(b:Expr):Prop:=∀o i,subscripted b false o i=operate [o,i] (getItem o i)
def IxR(X:Cx)(r:R2):Prop:=∀(c a:Expr)(b:gf)(s:Shared)(d:St)(H:Hp)(x y:V)(v u:Value)(Q:VK),Inv X b d H s->RelV x v->RelV y u->r x y H Q->subscripted a false v u=operate [v,u] (getItem v u)->wpAny (model X.prog X.w) X.A (subscriptTail c a v u) (EP X b d Q) X.xe s
def MtR(X:Cx)(id:String)(r:V->List V->Hp->VK->Prop):Prop:=∀(a:gf)(s:Shared)(c:St)(H:Hp)(x:V)(b:List V)(v:Value)(d:gn)(Q:VK),Inv X a c H s->RelV x v->Vals b d->r x b H Q->wpAny (model X.prog X.w) X.A (call (.builtin id) (v::d)) (EP X a c Q) X.xe s
section
variable{X:Cx}{a b:Expr}{F E:TE}{D:Pos}
theorem mM{r:R2}(d:IxR X r)(l:PE X a F)(i:PE X b E)(n:Je b):PE X (.Subscript a b D) (tOp r F E):=by
 intro c s m H Q I h;exact Subscript_ (O0 l i I h λv u k x y g e f j q=>d a b c k m g x y v u Q e f j q (n _ _))
def zq(K:f5):R2:=λx y H Q=>∃p c i v,x=.ref p/\y=.int i/\ξ K H p c/\ϲ c i=some v/\Q v H
def Pf(K:f5):R2:=λx y H Q=>∃p c i v,x=.ref p/\y=.int i/\Ξ K H p c/\ϲ c i=some v/\Q v H
theorem bL:IxR X (zq X.K):=by
 intro f k c s o H x y v u Q I M O h A;obtain⟨p,S,i,z,rfl,rfl,B,R,q⟩:=h;cases M;obtain⟨t,rfl⟩:=O;obtain⟨g,r,l,U⟩:=I.list B;obtain⟨j,e,G,T,C,J⟩:=Di R;obtain⟨w,m,L⟩:=r.get G;have N:=r.length;have hn:=tH;have d:EP X c o Q w s:=⟨z,H,I,L,q⟩;by_cases n:0<=i
 .have hj:i.toNat=j:=by
   rw[seqIndex_of n J]at e;exact bi e
  exact item_listR l.isList n (by lia) (by rw[hj];simpa using m) d A
 .have hj:(i+(g.toArray.size:Int)).toNat=j:=by
   rw[seqIndex_neg (by lia) C]at e;rw[aM,<-N];exact bi e
  exact subscriptTail_builtinR (x:=w) l.isList.typeIs slot_list_getitem.lookup
   (wpAny_getItem_list_neg (Q:=λr P=>r=w/\EP X c o Q r P) l.isList (by lia) (by rw[aM]<;>lia) (by lia) (by rw[hj];simpa using m) ⟨rfl,d⟩) A
theorem jv:IxR X (Pf X.K):=by
 intro d f c s k H x y v u Q I A C h N;obtain⟨p,O,i,z,rfl,rfl,l,J,q⟩:=h;cases A;obtain⟨t,rfl⟩:=C;obtain⟨m,r,g,T⟩:=I.tuple l;obtain⟨j,M,n,S,P,R⟩:=Di J;obtain⟨w,L,o⟩:=r.get n;have B:=r.length;have U:=tH;have e:EP X c k Q w s:=⟨z,H,I,o,q⟩;exact subscriptTail_builtinR (x:=w) g.typeIs slot_tuple_getitem.lookup
  (getItem_tuple (j:=j) (Q:=λr G=>r=w/\EP X c k Q r G) g (by lia) (by lia) (by rw[aM,<-B];exact M) (by simpa using L) ⟨rfl,e⟩) N
theorem Kx(c:gn)(n j:Nat)(u:Value):Obj.mapSeq (·.setIfInBounds j u) { cls:=.type "list",data:=.seq c.toArray n }={ cls:=.type "list",data:=.seq (c.set j u).toArray n }:=by
 simp[Obj.mapSeq]
theorem Inv.lst{d:gf}{g:St}{H:Hp}{s:Shared}{p:Addr}{f:List V}(I:Inv X d g H s)(h:H p=some (.lst f)):∃(c:gn)(n:Nat),Vals f c/\s.heap.get? p=some { cls:=.type "list",data:=.seq c.toArray n }/\f.length<=sizeLine:=by
 obtain⟨z,c,n,r,e⟩:=I.ψ p _ h;exact⟨c,n,r,e,z⟩
theorem Inv.abt{d:gf}{l:St}{H:Hp}{s:Shared}{p:Addr}{m i:List V}{g c:gn}{n j:Nat}{f:Obj->Obj}(I:Inv X d l H s)(h:H p=some (.lst m))(o:s.heap.get? p=some { cls:=.type "list",data:=.seq g.toArray n })(k:f { cls:=.type "list",data:=.seq g.toArray n }={ cls:=.type "list",data:=.seq c.toArray j })(r:Vals i c)(v:i.length<=sizeLine)(t:Nat):Inv X d l (upd H p (.lst i)) { s with heap:=s.heap.update p f,toks:=t }:=by
 have e:(s.heap.update p f).get? p=some { cls:=.type "list",data:=.seq c.toArray j }:=by
  rw[fe f o (by rw[k]<;>rfl),k]
 refine I.write (x:=p) (e:=p) (by rw[h];trivial) (.inl rfl) (λb u w q=>(dq _ _ (Ne.symm w)).trans q) ⟨_,e⟩ ?_;exact⟨v,c,j,r,e⟩
def aaQ:V->V->V->Hp->(Hp->Prop)->Prop:=λo i v H Q=>∃p c k j,o=.ref p/\i=.int k/\H p=some (.lst c)/\Zi c.length k=some j/\Q (upd H p (.lst (c.set j v)))
theorem mO:Ow X aaQ:=by
 intro d s K H o i v N L u Q I A B C h;obtain⟨p,z,k,j,rfl,rfl,w,J,q⟩:=h;cases A;obtain⟨t,rfl⟩:=B;obtain⟨c,n,r,f,G⟩:=I.lst w;obtain⟨e,M,m,l⟩:=Iy J;have g:=r.length;have O:=tH;have x:Inv X d K (upd H p (.lst (z.set j v))) { s with heap:=s.heap.update p (Obj.mapSeq (·.setIfInBounds j u)) }:=I.abt w f (Kx c n j u) (r.set C j) (by rw[eR];exact G) s.toks
 by_cases y:0<=k
 .have hk:k.toNat=j:=by
   rw[seqIndex_of y l]at e;exact bi e
  exact PySem.W.ki_setAt f y (by lia) (by rw[aM,<-g];exact l) (by rw[hk];exact⟨_,x,q⟩)
 .have hk:(k+(c.toArray.size:Int)).toNat=j:=by
   rw[seqIndex_neg (by lia) m]at e;rw[aM,<-g];exact bi e
  exact PySem.W.ki_setBack f (by lia) (by rw[aM,<-g];exact m) (by lia) (by rw[hk];exact⟨_,x,q⟩)
theorem F9(lo c:Option Int)(n:Nat):(sliceBounds lo c none n).1=((HT.WW n 0 lo:Nat):Int)/\(sliceBounds lo c none n).2.1=((HT.WW n n c:Nat):Int)/\(sliceBounds lo c none n).2.2=1:=by
 refine⟨?_,?_,rfl⟩
 .cases lo with
  | none=>simp[sliceBounds,HT.WW]
  | some i=>
    simp only[sliceBounds,HT.WW,Option.getD_none,show(1:Int)>0 by decide,if_true];by_cases h:i<0
    .simp only[h,if_true]<;>lia
    .simp only[h,if_false]<;>lia
 .cases c with
  | none=>simp[sliceBounds,HT.WW]
  | some i=>
    simp only[sliceBounds,HT.WW,Option.getD_none,show(1:Int)>0 by decide,if_true];by_cases h:i<0
    .simp only[h,if_true]<;>lia
    .simp only[h,if_false]<;>lia
theorem En(c:gn)(lo d:Option Int):slicePick c.toArray lo d none=((c.drop (HT.WW c.length 0 lo)).take (HT.WW c.length c.length d-HT.WW c.length 0 lo)).toArray:=by
 obtain⟨g,f,e⟩:=F9 lo d c.toArray.size;unfold slicePick;rw[g,f,e];simp only[sliceRange_one,pick_run,aM]<;>rfl
def T5(K:f5):V->Option Int->Option Int->Hp->VK->Prop:=λx lo d H Q=>∃a c,x=.ref a/\ξ K H a c/\∀p,H p=none->Q (.ref p) (upd H p (.lst (wQ c lo d)))
theorem Il:SlR X (T5 X.K):=by
 intro f s z H x v y u lo e t Q I l p n j h;obtain⟨a,c,rfl,m,q⟩:=h;cases l;obtain⟨i,r,g,k⟩:=I.list m;have d:=r.length;refine⟨"list",_,slot_list_getitem.lookup,g.isList.typeIs,?_⟩;refine wpAny_getItem_list_slice g.isList p n j .none (by simp) ?_ (by rw[aM]<;>lia);rw[En,<-d];refine⟨.ref s.heap.objs.size,_,I.laid (t':=s.toks) (o:=.lst (wQ c lo e)) (λb w q=>ar _ q) (ap _) ?_,rfl,q _ (I.ψ.fresh (ap _))⟩;exact⟨aL (Hs c lo e) k,_,0,(r.drop (HT.WW c.length 0 lo)).take (HT.WW c.length c.length e-HT.WW c.length 0 lo),bf _ rfl⟩
theorem kG:lm X (.builtin "len") (λe H Q=>∃p d,e=[.ref p]/\(ξ X.K H p d\/Ξ X.K H p d)/\Q (.int d.length) H):=by
 intro f s i H e j Q I r h;obtain⟨p,d,rfl,hq,q⟩:=h;obtain⟨u,rfl,g⟩:=qY r;cases g;have hn:=tH;rcases hq with hq|hq
 .obtain⟨its,r',pl,hz⟩:=I.list hq;have c:=r'.length;exact Calls.call_len_list pl.isList (by simp only[aM]<;>lia) ⟨.int d.length,H,I.tok _,⟨s.toks+1,by rw[aM,c]⟩,q⟩
 .obtain⟨its,r',pl,hz⟩:=I.tuple hq;have c:=r'.length;exact len_tuple pl (by simp only[aM]<;>lia) ⟨.int d.length,H,I.tok _,⟨s.toks+1,by rw[aM,c]⟩,q⟩
theorem me:lm X (.type "list") (λz H Q=>∃p f,z=[.ref p]/\(ξ X.K H p f\/Ξ X.K H p f)/\∀l,H l=none->Q (.ref l) (upd H l (.lst f))):=by
 intro k s C H z G Q I r h;obtain⟨p,f,rfl,hq,q⟩:=h;obtain⟨u,rfl,B⟩:=qY r;cases B;have j:∀(c:gn),Vals f c->f.length<=sizeLine->∀(d:Heap)(g:Nat),(∀b A,s.heap.get? b=some A->d.get? b=some A)->d.get? s.heap.objs.size=some { cls:=.type "list",dict:=none,data:=.seq c.toArray g,slots:=#[] }->EP X k C Q (.ref s.heap.objs.size) { s with heap:=d }:=λc i t d g v e=>
  ⟨.ref s.heap.objs.size,_,I.laid (t':=s.toks) v (ap _) (show Γ X.prog X.w _ d _ (.lst f)from⟨t,c,g,i,e⟩),rfl,q _ (I.ψ.fresh (ap _))⟩
 rcases hq with hq|hq
 .obtain⟨c,i,pl,t⟩:=I.list hq;have m:=i.length;obtain⟨o,x,y,n,hd⟩:=pl.isList;exact call_list_seq p (.inl rfl) x y hd (λd g v e=>j c i t d g v e) (by simp only[aM]<;>lia)
 .obtain⟨c,i,pl,t⟩:=I.tuple hq;have m:=i.length;obtain⟨o,x,y,n,hd⟩:=pl;exact call_list_seq p (.inr rfl) x y hd (λd g v e=>j c i t d g v e) (by simp only[aM]<;>lia)
theorem oU:lm X (.type "tuple") (λg H Q=>∃p d,g=[.ref p]/\((ξ X.K H p d/\∀l,H l=none->Q (.ref l) (upd H l (.tup d)))\/(Ξ X.K H p d/\Q (.ref p) H))):=by
 intro c s k H g v Q I r h;obtain⟨p,d,rfl,h⟩:=h;obtain⟨u,rfl,n⟩:=qY r;cases n;rcases h with⟨hq,q⟩|⟨hq,q⟩
 .obtain⟨its,r',pl,hz⟩:=I.list hq;have i:=r'.length;refine call_tuple_list pl.isList (λf t=>?_) (by simp only[aM]<;>lia);have j:Inv X c k H { s with heap:=f }:=I.kept (t':=s.toks) t;have m:Inv X c k (upd H f.objs.size (.tup d)) { s with heap:=f.push { cls:=.type "tuple",data:=.seq its.toArray } }:=j.laid (t':=s.toks) (λb o e=>ar _ e) (ap _) (show Γ X.prog X.w _ _ _ (.tup d)from⟨hz,its,r',IsTup.new _ _⟩)
  exact⟨.ref f.objs.size,_,m,rfl,q _ (j.ψ.fresh (ap _))⟩
 .obtain⟨its,r',pl,hz⟩:=I.tuple hq;exact call_tuple_same pl ⟨.ref p,H,I,rfl,q⟩
def tyV(K:f5)(T:String)(x:V)(H:Hp):Prop:=match x with
 | .str _=>T="str"
 | .int _=>T="int"
 | .ref p=>(T="list"/\∃d,ξ K H p d)\/(T="tuple"/\∃o,K.lookup p=some o/\o.cls=.type "tuple"/\o.dict=none)\/(T="dict"/\((∃c,H p=some (.dK c))\/∃c,H p=some (.dT c)))\/(T="set"/\∃S n,H p=some (.set S n))
 | _=>False
theorem Mx{f:gf}{l:St}{H:Hp}{s:Shared}{T:String}{x:V}{v:Value}(I:Inv X f l H s)(r:RelV x v)(g:tyV X.K T x H):s.TypeIs v T/\∀a,v=.ref a->∃k,s.heap.get? a=some k/\k.dict=none:=by
 cases x with
 | str z=>
   obtain⟨t,rfl⟩:=r;cases(show T="str" from g);exact⟨typeIs_str s z t,λ_ e=>nomatch e⟩
 | int i=>
   obtain⟨t,rfl⟩:=r;cases(show T="int" from g);exact⟨typeIs_int s i t,λ_ e=>nomatch e⟩
 | ref p=>
   cases r;rcases g with⟨rfl,xs,hq⟩|⟨rfl,o,hk,hc,j⟩|⟨rfl,hk⟩|⟨rfl,S,n,hk⟩
   .obtain⟨its,_,pl,_⟩:=I.list hq;refine⟨pl.isList.typeIs,λa e=>?_⟩;cases e;obtain⟨o,n,e,c,j,_⟩:=pl;exact⟨o,e,j⟩
   .refine⟨⟨o,I.WB p o hk,hc⟩,λa e=>?_⟩;cases e;exact⟨o,I.WB _ o hk,j⟩
   .have z:∃o,s.heap.get? p=some o/\o.ExactDict:=by
     rcases hk with⟨θ,hk⟩|⟨θ,hk⟩
     .obtain⟨_,_,_,_,o,_,_,e,d,_⟩:=I.ψ p _ hk;exact⟨o,e,d⟩
     .obtain⟨_,_,_,_,o,_,_,e,d,_⟩:=I.ψ p _ hk;exact⟨o,e,d⟩
    obtain⟨o,e,d⟩:=z;refine⟨⟨o,e,d.1⟩,λa h=>?_⟩;cases h;exact⟨o,e,d.2.1⟩
   .obtain⟨o,_,_,_,e,d,_⟩:=I.ψ p _ hk;refine⟨⟨o,e,d.1⟩,λa h=>?_⟩;cases h;exact⟨o,e,d.2.1⟩
 | _=>exact False.elim g
def QD(K:f5)(T:String)(r:V->List V->Hp->VK->Prop)(B:TE):TE:=λd H Q=>B d H λx c=>tyV K T x c/\r x [] c Q
def tBM(K:f5)(T:String)(r:V->List V->Hp->VK->Prop)(B:TE)(t:TA):TE:=λd H Q=>B d H λx c=>tyV K T x c/\t d c λe f=>r x e f Q
variable{o e:Expr}{A:List Expr}{B:TE}{t:TA}{d:Str}{g m:Pos}{T C:String}{r:V->List V->Hp->VK->Prop}
theorem Af(y:PlainAttrs T)(i:Slot T d C)(j:typeOf (.builtin C)=pure (.type "method_descriptor"))(G:MtR X C r)(w:PE X o B)(q:attributeBase o d X.env (eval o X.env)=eval o X.env:=by rfl)(f:(g.endLine==m.line)=true:=by rfl):PE X (.Call (.Attribute o d g) [] [] m) (QD X.K T r B):=by
 intro c s n H Q I h;refine wpAny_Call_method0_late q f (dR (w c s n H _ I h) λv L x u k l ⟨p,J⟩=>?_);obtain⟨M,z⟩:=Mx k l p;exact⟨T,C,y,i,j,M,z,Calls.callWith_builtin rfl (PySem.evalArgs_none (G c L n u x [] v [] Q k l .nil J))⟩
theorem iR(J:PlainAttrs T)(i:Slot T d C)(k:typeOf (.builtin C)=pure (.type "method_descriptor"))(N:MtR X C r)(G:PE X o B)(ha:PA X (e::A) t)(y:attributeBase o d X.env (eval o X.env)=eval o X.env:=by rfl)(j:((backTo m (starEach (e::A) X.env)).all (λx=>!x.1)&&(backToKw m (keywordEach [] X.env)).all (λx=>x.1.isSome)
 && decide ((e::A).length+([]:List Keyword).length+(if([]:List Keyword).isEmpty then 0 else 1)<30))=true:=by rfl)(f:(g.endLine==m.line)=true:=by rfl)(hs:starEach (e::A) X.env=(false,eval e X.env)::starEach A X.env:=by rfl)(l:(backTo m (starEach A X.env)).any (·.1)=false:=by rfl):PE X (.Call (.Attribute o d g) (e::A) [] m) (tBM X.K T r B t):=by
 intro c s n H Q I h;refine wpAny_Call_method_late y j f rfl (dR (G c s n H _ I h) λv S x z q u ⟨w,O⟩=>?_);obtain⟨Y,L⟩:=Mx q u w;refine⟨T,C,J,i,k,Y,L,?_⟩;have p:=ha m c S n z _ q O;rw[hs]at p ⊢;refine Calls.callWith_builtin (by show(false||(backTo m (starEach A X.env)).any (·.1))=false;rw[l]<;>rfl) (Calls.evalArgs_plain ?_);exact ϑ p λP Z ⟨M,V,R,W,U⟩=>N c Z n V x M v P Q R u W U
end
def MtM(X:Cx)(id:String)(r:V->List V->Hp->VK->Prop):Prop:=∀(a:gf)(s:Shared)(c:St)(H:Hp)(x:V)(b:List V)(v:Value)(d:gn)(Q:VK),Inv X a c H s->RelV x v->Vals b d->r x b H Q->wpAny (model X.prog X.w) X.A (call (.builtin id) (v::d)) (EP X a c Q) X.xe s
theorem Vals.one{x:V}{a:gn}(h:Vals [x] a):∃u,a=[u]/\RelV x u:=by
 cases h with
 | cons r t=>cases t;exact⟨_,rfl,r⟩
theorem Vals.two{x y:V}{a:gn}(h:Vals [x,y] a):∃u v,a=[u,v]/\RelV x u/\RelV y v:=by
 cases h with
 | cons r t=>
   obtain⟨v,e,q⟩:=Vals.one t;subst e;exact⟨_,v,rfl,r,q⟩
theorem Vals.zero:∀{a:gn},Vals [] a->a=[]
 | _,.nil=>rfl
theorem Vals.dropLast{a:List V}{b:gn}(h:Vals a b):Vals a.dropLast b.dropLast:=by
 induction h with
 | nil=>exact .nil
 | cons r t ih=>
   cases t with
   | nil=>exact .nil
   | cons q t'=>exact .cons r ih
theorem Vals.reverse{a:List V}{b:gn}(h:Vals a b):Vals a.reverse b.reverse:=by
 induction h with
 | nil=>exact .nil
 | cons r t ih=>rw[dY,dY];exact Vals.append ih (.cons r .nil)
theorem Vals.rep{a:List V}{b:gn}(h:Vals a b):∀k:Nat,Vals (List.replicate k a).flatten (List.replicate k b).flatten
 | 0=>.nil
 | k+1=>by
   rw[cw,cw,fu,fu];exact Vals.append h (Vals.rep h k)
theorem JY{c:Type}(l:List c):l.eraseIdx (l.length-1)=l.dropLast:=by
 induction l with
 | nil=>rfl
 | cons a r ih=>
   cases r with
   | nil=>rfl
   | cons b r=>
     have e:(a::b::r).length-1=((b::r).length-1)+1:=by
      have f:(a::b::r).length=r.length+2:=rfl;have d:(b::r).length=r.length+1:=rfl
      lia
     rw[e,List.eraseIdx_cons_succ,ih]
     all_goals rfl
theorem D0(b:gn):∀(k:Nat)(a:gn),List.foldl (λc f=>c++f) a.toArray (List.replicate k b.toArray)=(a++(List.replicate k b).flatten).toArray
 | 0,a=>by simp
 | k+1,a=>by
   have e:a.toArray++b.toArray=(a++b).toArray:=by simp
   have d:(a++b)++(List.replicate k b).flatten=a++(List.replicate (k+1) b).flatten:=by
    rw[cw,fu,bX]
   rw[<-d,<-D0 b k (a++b),<-e,cw,List.foldl_cons]
section
variable{X:Cx}{a:gf}{d:St}{H:Hp}{s:Shared}{l b:Addr}{g c i:List V}
theorem Inv.Z4{h its':gn}{n:Nat}{f:Array Value->Array Value}{j:Nat}(I:Inv X a d H s)(o:H l=some (.lst g))(e:s.heap.get? l=some { cls:=.type "list",data:=.seq h.toArray n })(t:f h.toArray=its'.toArray)(p:Vals c its')(k:c.length<=sizeLine):Inv X a d (upd H l (.lst c)) { s with heap:=s.heap.update l (Obj.mapSeq f),toks:=j }:=by
 have q:=PySem.IsL.update e f;rw[t]at q;refine I.write (x:=l) (e:=l) (by rw[o];exact trivial) (.inl rfl) (λv u m r=>(dq s.heap (Obj.mapSeq f) (Ne.symm m)).trans r) ⟨_,q⟩ ?_;exact⟨k,its',_,p,q⟩
theorem Inv.adn{e:gn}{t':Nat}(I:Inv X a d H s)(h:Vals c e)(f:c.length<=sizeLine):Inv X a d (upd H s.heap.objs.size (.lst c)) { s with heap:=s.heap.push { cls:=.type "list",data:=.seq e.toArray },toks:=t' }:=I.laid (λ_ _ q=>ar _ q) (ap _) ⟨f,e,0,h,bf _ rfl⟩
theorem Inv.fresh(I:Inv X a d H s):H s.heap.objs.size=none:=I.ψ.fresh (ap _)
theorem Inv.Xz(I:Inv X a d H s)(h:H l=some (.lst g)):g.length<=sizeLine/\∃(f:gn)(n:Nat),Vals g f/\g.length=f.length/\s.heap.get? l=some { cls:=.type "list",data:=.seq f.toArray n }:=by
 obtain⟨z,f,n,r,e⟩:=I.ψ l _ h;exact⟨z,f,n,r,r.length,e⟩
theorem Fj{n:Nat}(h:n<=sizeLine):Builtin.List.listTooLong n=false:=by
 unfold Builtin.List.listTooLong;exact bA (by lia)
end
section
variable{X:Cx}
def Xd:V->List V->Hp->VK->Prop:=λx b H Q=>∃l a y,x=.ref l/\b=[y]/\H l=some (.lst a)/\a.length<sizeLine/\Q .ω (upd H l (.lst (a++[y])))
theorem fM:MtM X "list.append" Xd:=by
 intro c s p H x j v k Q I g f h;obtain⟨l,i,y,rfl,rfl,b,m,q⟩:=h;cases g;obtain⟨u,rfl,d⟩:=f.one;obtain⟨z,a,n,r,o,e⟩:=I.Xz b;refine call_meets F.slot_list_append ⟨_,e,rfl⟩ F.entry_list_append (F.args_list_append_2 _ _) (PySem.list_append l a.toArray n u (by rw[aM];lia)) ⟨e,?_⟩;refine⟨.ω,_,I.Z4 (its':=a++[u]) b e (by simp) (r.append (.cons d .nil)) ?_,rfl,q⟩;rw[aE,List.length_singleton]
 lia
def Z5:V->List V->Hp->VK->Prop:=λx d H Q=>∃l b a c,x=.ref l/\d=[.ref b]/\H l=some (.lst a)/\H b=some (.lst c)/\a.length+c.length<=sizeLine/\Q .ω (upd H l (.lst (a++c)))
theorem xk:MtM X "list.extend" Z5:=by
 intro g s K H x C v D Q I p o h;obtain⟨l,b,A,B,rfl,rfl,f,t,E,q⟩:=h;cases p;obtain⟨u,rfl,i⟩:=o.one;cases i;obtain⟨z,a,n,r,J,e⟩:=I.Xz f;obtain⟨G,c,y,w,m,j⟩:=I.Xz t;have d:a.toArray.size+c.toArray.size<=sizeLine:=by rw[aM,aM];lia
 have k:¬(!a.toArray.isEmpty&&Builtin.List.listTooLong (a.toArray.size+c.toArray.size))=true:=by
  rw[Fj d,Bool.and_false];exact bz
 refine call_meets F.slot_list_extend ⟨_,e,rfl⟩ F.entry_list_extend (F.args_list_extend_2 _ _)
  (AutoSeq1.list_extend_list_list_0 l a.toArray n b c.toArray y k (by rw[aM];lia) (by lia)) ⟨e,j,?_⟩
 refine⟨.ω,_,I.Z4 (its':=a++c) f e (by simp) (r.append w) ?_,rfl,q⟩;rw[aE]
 lia
def ado:V->List V->Hp->VK->Prop:=λx b H Q=>∃l a y,x=.ref l/\b=[]/\H l=some (.lst a)/\a[a.length-1]?=some y/\Q y (upd H l (.lst a.dropLast))
theorem Be:MtM X "list.pop" ado:=by
 intro f s A H x t v w Q I k j h;obtain⟨l,p,y,rfl,rfl,d,i,q⟩:=h;cases k;have c:=j.zero;subst c;obtain⟨z,a,n,r,o,e⟩:=I.Xz d;obtain⟨u,m,g⟩:=r.get i;have b:a.toArray[a.toArray.size-1]?=some u:=by
  show a.toArray[a.length-1]?=some u;rw[<-Array.getElem?_toList,<-o];exact m
 refine call_meets F.slot_list_pop ⟨_,e,rfl⟩ F.entry_list_pop (F.args_list_pop_1 _) (MeetsSeq.list_pop_last l a.toArray n u b (by rw[aM];lia)) ⟨e,?_⟩;refine⟨y,_,I.Z4 (its':=a.dropLast) d e ?_ r.dropLast ?_,g,q⟩
 .show a.toArray.eraseIdxIfInBounds (a.toArray.size-1)=a.dropLast.toArray;rw[aM,List.eraseIdxIfInBounds_toArray,JY]
 .rw[List.length_dropLast]
  lia
def adp:R2:=λx y H Q=>∃l b a c,x=.ref l/\y=.ref b/\H l=some (.lst a)/\H b=some (.lst c)/\a.length+c.length<=sizeLine/\∀p,H p=none->Q (.ref p) (upd H p (.lst (a++c)))
theorem E2:iS X (binaryOp .Add) adp:=by
 intro d s E H x y v u Q I j m h;obtain⟨l,b,t,w,rfl,rfl,f,k,A,q⟩:=h;cases j;cases m;obtain⟨z,a,n,r,C,e⟩:=I.Xz f;obtain⟨B,c,D,o,i,g⟩:=I.Xz k;refine PySem.P.add_list e g ?_ (by rw[aM,aM];lia);have p:a.toArray++c.toArray=(a++c).toArray:=by simp
 rw[p];exact⟨.ref _,_,I.adn (t':=s.toks) (r.append o) (by rw[aE];lia),rfl,q _ I.fresh⟩
def aij:R2:=λx y H Q=>∃l k a,x=.ref l/\y=.int k/\H l=some (.lst a)/\-(2^63)<=k/\k<2^63/\a.length*k.toNat<=sizeLine/\∀p,H p=none->Q (.ref p) (upd H p (.lst (List.replicate k.toNat a).flatten))
theorem Rh{b:Type}(a:List b)(k:Nat):(List.replicate k a).flatten.length=k*a.length:=by
 induction k with
 | zero=>simp
 | succ k ih=>rw[cw,fu,aE,ih,Nat.succ_mul,Nat.add_comm]
theorem sG:iS X (binaryOp .Mult) aij:=by
 intro o s M H x y v u Q I D G h;obtain⟨l,k,L,rfl,rfl,w,K,B,p,q⟩:=h;cases D;obtain⟨t,rfl⟩:=G;obtain⟨z,b,n,r,E,e⟩:=I.Xz w;have c:b.toArray.size*k.toNat<=sizeLine:=by rw[aM,<-E];exact p
 have i:¬b.toArray.size*k.toNat>(2^63-1)/8:=by
  have:(sizeLine:Nat)<=(2^63-1)/8:=by decide
  lia
 have f:¬(!Builtin.List.listFitsIndex k)=true:=by
  rw[fitsIndex_both K B];exact bz
 have A:¬Builtin.List.listTooLong (b.toArray.size*k.toNat)=true:=by
  rw[Fj c];exact bz
 have d:List.foldl (λg j=>g++j) #[] (List.replicate (if b.toArray.isEmpty=true then 0 else k.toNat) b.toArray)=(List.replicate k.toNat b).flatten.toArray:=by
  have C:∀m:Nat,List.foldl (λg j=>g++j) #[] (List.replicate m b.toArray)=(List.replicate m b).flatten.toArray:=λm=>by
   have:=D0 b m [];rw[ga]at this;exact this
  rw[C];cases b with
  | nil=>simp
  | cons a r'=>rw[ag (by simp)]
 refine wpAny_binaryOp_repeat_ref (T:="list") (U:="int") (by decide) ⟨_,e,rfl⟩ (λJ=>typeIs_int J k t) noFill_list_mul F.fills_int_mul F.slot_int_rmul repeat_list F.slot_int_index.lookup
  (call_meets F.slot_int_rmul (typeIs_int s k t) F.entry_int_rmul (F.args_int_rmul_2 _ _) (int___rmul___int_list k t l b.toArray n)
   ⟨e,rfl,⟨_,e,rfl⟩,call_meets F.slot_list_mul ⟨_,e,rfl⟩ F.entry_list_mul (F.args_list_mul_2 _ _) (AutoListH.list___mul___list_int_3 l b.toArray n k t f i A) ⟨e,?_⟩⟩)
 rw[d];exact⟨.ref _,_,I.adn (t':=s.toks) (r.rep k.toNat) (by rw[Rh,gY];exact p),rfl,q _ I.fresh⟩
end
section
variable{a:Program}{w:World}{A:Around}{E:f3}{s:Shared}
set_option maxRecDepth 100000 in
end
section
variable{c:Type}[DecidableEq c]
def gj(a:List (c×V))(k:c):Option V:=(a.find? λb=>decide (b.1=k)).map (·.2)
def iJ(b:List (c×V))(k:c)(v:V):List (c×V):=if(b.any λa=>decide (a.1=k))=true then b.map (λa=>if a.1=k then(a.1,v)else a)else b++[(k,v)]
theorem jc{p:c×V}{r:List (c×V)}{k:c}(e:p.1=k):gj (p::r) k=some p.2:=by simp[gj,gA,e]
theorem je{p:c×V}{r:List (c×V)}{k:c}(e:¬p.1=k):gj (p::r) k=gj r k:=by simp[gj,gA,e]
theorem sJ(k:c):∀a:List (c×V),(a.any λb=>decide (b.1=k))=(gj a k).isSome
 | []=>rfl
 | p::r=>by
   rw[nj];by_cases e:p.1=k
   .simp only[jc e,bh e,Bool.true_or,Option.isSome_some]
   .rw[je e,bA e,nh];exact sJ k r
theorem EX(k j:c)(y:V):∀b:List (c×V),gj (b.map λa=>if a.1=k then(a.1,y)else a) j=(gj b j).map λx=>if j=k then y else x
 | []=>rfl
 | p::r=>by
   have d:=EX k j y r;rw[aq];by_cases h:p.1=k
   .rw[aj h];by_cases e:p.1=j
    .rw[jc (p:=(p.1,y)) e,jc e,jo,aj (e.symm.trans h)]
    .rw[je (p:=(p.1,y)) e,je e,d]
   .rw[ag h];by_cases e:p.1=j
    .rw[jc (p:=p) e,jc e,jo,ag (λz=>h (e.trans z))]
    .rw[je (p:=p) e,je e,d]
theorem DU(k j:c)(y:V):∀a:List (c×V),gj a k=none->gj (a++[(k,y)]) j=if j=k then some y else gj a j
 | [],_=>by
   by_cases e:k=j
   .rw[aj e.symm];exact jc (p:=(k,y)) e
   .rw[ag (λz=>e z.symm)];exact je (p:=(k,y)) e
 | p::r,hn=>by
   rw[fG];have b:¬p.1=k:=λz=>by rw[jc z]at hn;cases hn
   rw[je b]at hn;have d:=DU k j y r hn;by_cases e:p.1=j
   .rw[jc e,jc e,ag (λz=>b (e.trans z))]
   .rw[je e,je e,d]
theorem zI(b:List (c×V))(k j:c)(y:V):gj (iJ b k y) j=if j=k then some y else gj b j:=by
 unfold iJ;by_cases a:(b.any λd=>decide (d.1=k))=true
 .rw[aj a,EX];rw[sJ]at a;by_cases e:j=k
  .obtain⟨x,hx⟩:=ft.mp a;rw[aj e,e,hx,jo,aj rfl]
  .rw[ag e];cases gj b j with
   | none=>rfl
   | some x=>rw[jo,ag e]
 .rw[ag a];refine DU k j y b ?_;rw[sJ]at a;cases q:gj b k with
  | none=>rfl
  | some x=>rw[q]at a;exact(a rfl).elim
theorem oS(a:List (c×V))(k:c)(v:V):(iJ a k v).length<=a.length+1:=by
 unfold iJ;split
 .rw[aa];lia
 .rw[aE,aF,dU];lia
theorem FO{a:List (c×V)}{k:c}(v:V)(h:gj a k=none):iJ a k v=a++[(k,v)]:=by
 unfold iJ;rw[sJ,h];exact ag (by decide)
theorem oK.Ϡ{o:Option V}{u:Option Value}(r:oK o u):o.isSome=u.isSome:=by
 cases o with
 | none=>cases u with
   | none=>rfl
   | some _=>exact(show False from r).elim
 | some _=>cases u with
   | none=>exact(show False from r).elim
   | some _=>rfl
theorem KV.val{a:List (c×V)}{d:List (c×Value)}(r:KV a d)(k:c):oK (gj a k) (valueAt d k):=by
 unfold KV at r
 induction r with
 | nil=>exact True.intro
 | @cons p q ps qs h t ih=>
   obtain⟨f,g⟩:=h;by_cases e:p.1=k
   .have e':q.1=k:=f.symm.trans e;have b:valueAt (q::qs) k=some q.2:=(by simp[valueAt,gA,e']);rw[jc e,b];exact g
   .have e':¬q.1=k:=λz=>e (f.trans z);have b:valueAt (q::qs) k=valueAt qs k:=(by simp[valueAt,gA,e']);rw[je e,b];exact ih
theorem KV.any{b:List (c×V)}{d:List (c×Value)}(r:KV b d)(k:c):(b.any λa=>decide (a.1=k))=d.any λa=>decide (a.1=k):=by
 unfold KV at r
 induction r with
 | nil=>rfl
 | cons h t ih=>rw[nj,nj,ih,h.1]
theorem KV.repl{d:List (c×V)}{f:List (c×Value)}(r:KV d f)(k:c){y:V}{u:Value}(i:RelV y u):KV (d.map λa=>if a.1=k then(a.1,y)else a) (f.map λa=>if a.1=k then(a.1,u)else a):=by
 unfold KV at r ⊢
 induction r with
 | nil=>exact .nil
 | @cons p q ps qs h t ih=>
   rw[aq,aq];refine .cons ?_ ih;obtain⟨b,g⟩:=h;by_cases e:p.1=k
   .rw[aj e,aj (b.symm.trans e)];exact⟨b,i⟩
   .rw[ag e,ag (λz=>e (b.trans z))];exact⟨b,g⟩
theorem KV.put{b:List (c×V)}{a:List (c×Value)}(r:KV b a)(k:c){y:V}{u:Value}(d:RelV y u):KV (iJ b k y) (stored a k u):=by
 unfold iJ stored;rw[r.any k];by_cases e:(a.any λf=>decide (f.1=k))=true
 .rw[aj e,aj e];exact r.repl k d
 .rw[ag e,ag e];exact Paired.snoc r ⟨rfl,d⟩
theorem KV.length{a:List (c×V)}{b:List (c×Value)}(r:KV a b):a.length=b.length:=Paired.length r
end
theorem xP{P:Program}{w:World}{k:Key}{u:Value}(r:RelV (kV k) u):(iq P w).is k u=true:=by
 cases k with
 | inl i=>obtain⟨t,e⟩:=(show ∃t,u=Value.int i t from r);subst e;exact HD P w i t
 | inr x=>obtain⟨t,e⟩:=(show ∃t,u=Value.str x t from r);subst e;exact G4 P w x t
theorem DB{P:Program}{w:World}:∀{a:List Key}{b:gn},Vals (a.map kV) b->ItemsAre (iq P w) a b
 | [],_,r=>by rw[d7]at r;cases r;exact .nil
 | k::a,_,r=>by
   rw[aq]at r;cases r with
   | cons h t=>exact .cons (xP h) (DB t)
abbrev KT(H:Hp):List (List Key×V)->List (List Key×Addr×Value)->Prop:=Paired λp q=>p.1=q.1/\H q.2.1=some (.tup (p.1.map kV))/\RelV p.2 q.2.2
theorem KT.val{H:Hp}{c:List (List Key×V)}{a:List (List Key×Addr×Value)}(r:KT H c a)(k:List Key):oK (gj c k) ((atKey a k).map (·.2)):=by
 induction r with
 | nil=>exact True.intro
 | @cons p q ps qs h t ih=>
   obtain⟨d,_,f⟩:=h;by_cases e:p.1=k
   .have e':q.1=k:=d.symm.trans e;have b:atKey (q::qs) k=some q.2:=(by simp[atKey,gA,e']);rw[jc e,b];exact f
   .have e':¬q.1=k:=λz=>e (d.trans z);have b:atKey (q::qs) k=atKey qs k:=(by simp[atKey,gA,e']);rw[je e,b];exact ih
theorem KT.repl{H:Hp}{f:List (List Key×V)}{c:List (List Key×Addr×Value)}(r:KT H f c)(k:List Key){y:V}{u:Value}(i:RelV y u):KT H (f.map λb=>if b.1=k then(b.1,y)else b) (c.map (putAt k u)):=by
 induction r with
 | nil=>exact .nil
 | @cons p q ps qs h t ih=>
   rw[aq,aq];refine .cons ?_ ih;obtain⟨a,d,g⟩:=h;unfold putAt;by_cases e:p.1=k
   .rw[aj e,aj (a.symm.trans e)];exact⟨a,d,i⟩
   .rw[ag e,ag (λz=>e (a.trans z))];exact⟨a,d,g⟩
theorem KT.put{H:Hp}{c:List (List Key×V)}{a:List (List Key×Addr×Value)}(r:KT H c a)(k:List Key){b:Addr}{y:V}{u:Value}(f:H b=some (.tup (k.map kV)))(d:RelV y u):KT H (iJ c k y) (storedH a k b u):=by
 have e:(c.any λg=>decide (g.1=k))=(atKey a k).isSome:=by
  rw[sJ,(r.val k).Ϡ,gD]
 unfold iJ storedH;rw[e];by_cases q:(atKey a k).isSome=true
 .rw[aj q,aj q];exact r.repl k d
 .rw[ag q,ag q];exact Paired.snoc r ⟨rfl,f,d⟩
theorem KT.keeps{H e:Hp}{d:List (List Key×V)}{a:List (List Key×Addr×Value)}(r:KT H d a)(f:∀b c,H b=some (.tup c)->e b=some (.tup c)):KT e d a:=Paired.ZY r λ_ _ z=>⟨z.1,f _ _ z.2.1,z.2.2⟩
section
variable{P:Program}{w:World}{H:Hp}{h:Heap}{a:Addr}
theorem Q3{u:HO}(ok:Ϭ P w H h)(e:Rd H a u):Γ P w H h a u:=e.ok ok
theorem xZ{b:List (Key×V)}(d:Ϭ P w H h)(e:Rd H a (.dK b)):b.length<=sizeLine/\(a==sysModules)=false/\∃c,KV b c/\h.DictOf (iq P w) a c:=show Γ P w H h a (.dK b)from Q3 d e
theorem EI{b:List (Key×V)}(d:Ϭ P w H h)(e:H a=some (.dK b)):b.length<=sizeLine/\(a==sysModules)=false/\∃c,KV b c/\h.DictOf (iq P w) a c:=xZ d (.inl e)
theorem xh{b:List Key}(d:Ϭ P w H h)(e:H a=some (.tup (b.map kV))):(tupleKind (iq P w)).is h b a:=by
 obtain⟨_,c,r,o,i,g,n,f⟩:=(show Γ P w H h a (.tup (b.map kV))from d a _ e);exact⟨o,c.toArray,n,i,g,f,by simpa using DB r⟩
theorem AV{c:List (List Key×V)}(f:Ϭ P w H h)(e:Rd H a (.dT c)):c.length<=sizeLine/\(a==sysModules)=false/\∃b,KT H c b/\h.DictOfH (tupleKind (iq P w)) a b:=by
 obtain⟨z,y,b,r,o,g,n,u,j,s,i,k⟩:=(show Γ P w H h a (.dT c)from Q3 f e);refine⟨z,y,b,r,o,g,n,u,j,s,i,λx hx=>?_,k⟩;have d:∀{l:List (List Key×V)}{m:List (List Key×Addr×Value)},KT H l m->∀x∈m,(tupleKind (iq P w)).is h x.1 x.2.1:=by
  intro l m q
  induction q with
  | nil=>intro x hx;exact nomatch hx
  | @cons p q ps qs hq t ih=>
    intro x hx;rcases ax.mp hx with e|hx
    .subst e;exact xh f (by rw[<-hq.1];exact hq.2.1)
    .exact ih x hx
 exact d r x hx
theorem Vw{b:List (List Key×V)}(d:Ϭ P w H h)(e:H a=some (.dT b)):b.length<=sizeLine/\(a==sysModules)=false/\∃c,KT H b c/\h.DictOfH (tupleKind (iq P w)) a c:=AV d (.inl e)
end
def ϵ(H:Hp)(a:Addr)(y:V)(r:Option V):Prop:=(∃c k,Rd H a (.dK c)/\y=kV k/\r=gj c k)\/∃c k b,Rd H a (.dT c)/\y=.ref b/\H b=some (.tup (k.map kV))/\r=gj c k
def WK(H:Hp)(a:Addr)(y v:V)(d:Hp):Prop:=(∃c k,H a=some (.dK c)/\y=kV k/\c.length<sizeLine/\d=upd H a (.dK (iJ c k v)))\/∃c k b,H a=some (.dT c)/\y=.ref b/\H b=some (.tup (k.map kV))/\c.length<sizeLine/\d=upd H a (.dT (iJ c k v))
theorem ϵ.k{H:Hp}{a:Addr}{b:List (Key×V)}{k:Key}(e:H a=some (.dK b)):ϵ H a (kV k) (gj b k):=.inl ⟨b,k,.inl e,rfl,rfl⟩
theorem ϵ.t{H:Hp}{a b:Addr}{c:List (List Key×V)}{k:List Key}(e:H a=some (.dT c))(d:H b=some (.tup (k.map kV))):ϵ H a (.ref b) (gj c k):=.inr ⟨c,k,b,.inl e,rfl,d,rfl⟩
theorem WK.k{H:Hp}{a:Addr}{b:List (Key×V)}{k:Key}{v:V}(e:H a=some (.dK b))(c:b.length<sizeLine):WK H a (kV k) v (upd H a (.dK (iJ b k v))):=.inl ⟨b,k,e,rfl,c,rfl⟩
theorem WK.t{H:Hp}{a b:Addr}{c:List (List Key×V)}{k:List Key}{v:V}(e:H a=some (.dT c))(d:H b=some (.tup (k.map kV)))(f:c.length<sizeLine):WK H a (.ref b) v (upd H a (.dT (iJ c k v))):=.inr ⟨c,k,b,e,rfl,d,f,rfl⟩
section
variable{X:Cx}{d:gf}{f:St}{H:Hp}{s:Shared}{a:Addr}{y v:V}{u r:Value}{o:Option V}{A:Around}{E:f3}
theorem Inv.big(I:Inv X d f H s):sysModules<s.heap.objs.size:=by
 have h:mainGlobals<s.heap.objs.size:=(I.mod.glob.keeps I.bk).lt;exact Nat.lt_trans (by decide) h
theorem MJ{Q:f3}(G:A.units+1<cLine)(I:Inv X d f H s)(g:ϵ H a y (some v))(t:RelV y u)(h:∀i x,Inv X d f H x->RelV v i->Q i x):wpAny (model X.prog X.w) A (getItem (.ref a) u) Q E s:=by
 rcases g with⟨θ,k,e,ey,l⟩|⟨θ,k,b,e,ey,eb,l⟩
 .subst ey;obtain⟨z,C,D,c,n⟩:=xZ I.ψ e;obtain⟨i,m,j⟩:=oK.some_of (v:=v) (o:=valueAt D k) (by rw[l];exact c.val k);exact wpAny_getItem_of (xP t) n.mapOf m (h i _ (I.tok _) j)
 .subst ey;cases(show u=Value.ref b from t);obtain⟨z,C,B,c,n⟩:=AV I.ψ e;obtain⟨i,m,j⟩:=oK.some_of (v:=v) (o:=(atKey B k).map (·.2)) (by rw[l];exact c.val k);obtain⟨p,F,q⟩:=eI.mp m;refine wpAny_getItem_heap (tupleKind_room_in1 G) (xh I.ψ eb) n F ?_;rw[q];exact h i _ (I.tok _) j
theorem VN{Q:f3}(p:A.units+1<cLine)(I:Inv X d f H s)(g:ϵ H a y o)(m:RelV y u)(h:∀n,Inv X d f H n->Q (.bool o.isSome) n):wpAny (model X.prog X.w) A (compareOp .In u (.ref a)) Q E s:=by
 rcases g with⟨θ,k,e,ey,l⟩|⟨θ,k,b,e,ey,eb,l⟩
 .subst ey;obtain⟨z,j,x,c,i⟩:=xZ I.ψ e;refine wpAny_in_of (xP m) j i.mapOf ?_;rw[<-(c.val k).Ϡ,<-l];exact h _ (I.tok _)
 .subst ey;cases(show u=Value.ref b from m);obtain⟨z,j,t,c,i⟩:=AV I.ψ e;refine wpAny_in_heap (tupleKind_room_in1 p) (xh I.ψ eb) j i ?_;have q:=(c.val k).Ϡ;rw[gD]at q;rw[<-q,<-l];exact h _ (I.tok _)
theorem Rt{Q:f3}(p:A.units+1<cLine)(I:Inv X d f H s)(g:ϵ H a y o)(m:RelV y u)(h:∀n,Inv X d f H n->Q (.bool (!o.isSome)) n):wpAny (model X.prog X.w) A (compareOp .NotIn u (.ref a)) Q E s:=by
 rcases g with⟨θ,k,e,ey,l⟩|⟨θ,k,b,e,ey,eb,l⟩
 .subst ey;obtain⟨z,j,x,c,i⟩:=xZ I.ψ e;refine wpAny_notIn_of (xP m) j i.mapOf ?_;rw[<-(c.val k).Ϡ,<-l];exact h _ (I.tok _)
 .subst ey;cases(show u=Value.ref b from m);obtain⟨z,j,t,c,i⟩:=AV I.ψ e;refine wpAny_notIn_heap (tupleKind_room_in1 p) (xh I.ψ eb) j i ?_;have q:=(c.val k).Ϡ;rw[gD]at q;rw[<-q,<-l];exact h _ (I.tok _)
theorem xY{c:Heap}{j:Nat}{g:HO}(I:Inv X d f H s)(i:Mut (H a))(m:Heap.SameBut a s.heap c)(l:∃q,c.get? a=some q)(h:Γ X.prog X.w (upd H a g) c a g):Inv X d f (upd H a g) { s with heap:=c,toks:=j }:=I.write (x:=a) (e:=a) i (.inl rfl) (λb q k z=>(m.2 b k).trans z) l h
theorem FS{P:Program}{w:World}{j:Hp}{g:Heap}{c:List (Key×V)}{e:List (Key×Value)}(z:c.length<=sizeLine)(i:(a==sysModules)=false)(b:KV c e)(h:g.DictOf (iq P w) a e):Γ P w j g a (.dK c):=⟨z,i,e,b,h⟩
theorem LX{F:Hp}{Q:Unit->Shared->Prop}(U:A.units+1<cLine)(I:Inv X d f H s)(g:WK H a y v F)(G:RelV y u)(D:RelV v r)(h:∀J,Inv X d f F J->Q () J):wpAny (model X.prog X.w) A (setItem (.ref a) u r) Q E s:=by
 rcases g with⟨θ,k,e,ey,l,eH⟩|⟨θ,k,b,e,ey,eb,l,eH⟩
 .subst ey eH;obtain⟨z,n,P,i,x⟩:=EI I.ψ e;have p:P.length<=sizeLine:=by rw[<-i.length];exact z
  have t:(iJ θ k v).length<=sizeLine:=by have:=oS θ k v;lia
  refine wpAny_setItem_pairs (hsz:=p) (xP G) x λK j B=>h _ ?_;have V:∃q,K.get? a=some q:=let ⟨q,_,_,m,_⟩:=j;⟨q,m⟩;exact xY I (by rw[e];exact True.intro) B V (FS t n (i.put k D) j)
 .subst ey eH;cases(show u=Value.ref b from G);obtain⟨z,n,L,i,x⟩:=Vw I.ψ e;have p:L.length<=sizeLine:=by rw[<-Paired.length i];exact z
  have t:(iJ θ k v).length<=sizeLine:=by have:=oS θ k v;lia
  refine wpAny_setItem_heap (hsz:=p) (tupleKind_room_in1 U) (xh I.ψ eb) x λK j B=>h _ ?_;obtain⟨q,M,S,m,O,T,N,_,R⟩:=j;refine xY I (by rw[e];exact True.intro) B ⟨q,m⟩ ⟨t,n,_,(i.put k eb D).keeps λc W C=>?_,q,M,S,m,O,T,N,R⟩;rw[aR (gU C e (λz=>nomatch z))];exact C
end
section
variable{X:Cx}{b:gf}{d:St}{H:Hp}{s:Shared}{a:Addr}{c:List (Key×V)}{k:Key}{u:Value}{A:Around}{E:f3}
theorem VA{Q:f3}(I:Inv X b d H s)(e:Rd H a (.dK c))(h:∀t g,Inv X b d H g->Q (.int c.length t) g):wpAny (model X.prog X.w) A (call (.builtin "len") [.ref a]) Q E s:=by
 obtain⟨z,j,l,f,i⟩:=xZ I.ψ e;refine call_len_dict j i (by rw[<-f.length];rw[sizeLine_eq]at z;lia) ?_;rw[<-f.length];exact h _ _ (I.tok _)
end
def T7(i:Expr):Prop:=∀a b,subscripted i false a b=operate [a,b] (getItem a b)
theorem R3{a:Program}{w:World}{A:Around}{E:f3}{s:Shared}{k:Env}{c b:Expr}{n:Pos}{T id:String}{Q:f3}(q:typeLookup (.type T) "__getitem__"=pure (some (.builtin id)))(t:T7 b)(h:wpAny (model a w) A (eval c k) (λo f=>wpAny (model a w) A (eval b k) (λi d=>d.TypeIs o T/\wpAny (model a w) A (getItem o i) Q E d) E f) E s):wpAny (model a w) A (eval (.Subscript c b n) k) Q E s:=by
 refine Subscript_ (di h (λo f l=>di l (λi d e=>?_) λ_ _ x=>x) λ_ _ x=>x);obtain⟨p,e⟩:=e;unfold subscriptTail;refine ak ?_;rw[getitemInPython_of_ne p.not_modules];refine ak (lJ p q ?_);have j:wpAny (model a w) A (subscripted b false o i) (λr g=>wpAny (model a w) A (letTemporaryGo c o r>>=λ_=>pure r) Q E g) E d:=by
  rw[t o i];exact wpAny_operating (di e (λr g m=>ak (wpAny_letTemporaryGo (ba m))) λ_ _ x=>x)
 first
  | exact ba (ak j)
  | exact ak (ba (ak j))
  | exact ak j
theorem G9{X:Cx}{c:gf}{d:St}{H:Hp}{s:Shared}{a:Addr}{y:V}{o:Option V}(I:Inv X c d H s)(g:ϵ H a y o):s.TypeIs (.ref a) "dict":=by
 rcases g with⟨θ,k,e,_,_⟩|⟨θ,k,b,e,_,_,_⟩
 .obtain⟨_,_,vs,_,dd⟩:=xZ I.ψ e;exact dd.typeIs
 .obtain⟨_,_,xs,_,dd⟩:=AV I.ψ e;exact dd.typeIs
def Kr(f e:TE):TE:=λc H Q=>f c H λx d=>e c d λy b=>∃a v,x=.ref a/\ϵ b a y (some v)/\Q v b
def O7(e f:TE):TE:=λc H Q=>e c H λy d=>f c d λx b=>∃a o,x=.ref a/\ϵ b a y o/\Q (.bl o.isSome) b
def CB(e f:TE):TE:=λc H Q=>e c H λy d=>f c d λx b=>∃a o,x=.ref a/\ϵ b a y o/\Q (.bl (!o.isSome)) b
def Ld(h e i:TE):TS:=λD b H=>i b H λv d=>h b d λx f=>e b f λy g=>∃a c,x=.ref a/\WK g a y v c/\D.nx b c
section
variable{X:Cx}{o i e b:Expr}{j d l:Pos}{f c k:TE}
theorem IE(G:X.A.units+1<cLine)(r:PE X o f)(N:PE X i c)(B:T7 i):PE X (.Subscript o i j) (Kr f c):=by
 intro m s p H Q I h;refine R3 PySem.F.slot_dict_getitem.lookup B (dR (r m s p H _ I h) λu C x q D E z=>dR (N m C p q _ D z) λP S y L n M ⟨a,v,t,g,J⟩=>?_);subst t;obtain rfl:u=Value.ref a:=E;exact⟨G9 n g,MJ G n g M λO R K w=>⟨v,L,K,w,J⟩⟩
theorem UX(D:X.A.units+1<cLine)(K:PE X i c)(q:PE X o f):PC X .In i o (O7 c f):=by
 intro m s n H Q I h;refine dR (K m s n H _ I h) λL w y p B J t=>dR (q m w n p _ B t) λu N x G v C ⟨a,z,r,g,E⟩=>?_;subst r;obtain rfl:u=Value.ref a:=C;exact VN D v g J λM F=>⟨.bl z.isSome,G,F,rfl,E⟩
theorem Lq(D:X.A.units+1<cLine)(K:PE X i c)(q:PE X o f):PC X .NotIn i o (CB c f):=by
 intro m s n H Q I h;refine dR (K m s n H _ I h) λL w y p B J t=>dR (q m w n p _ B t) λu N x G v C ⟨a,z,r,g,E⟩=>?_;subst r;obtain rfl:u=Value.ref a:=C;exact Rt D v g J λM F=>⟨.bl (!z.isSome),G,F,rfl,E⟩
theorem xO(L:X.A.units+1<cLine)(t:PE X o f)(T:PE X i c)(R:PE X b k)(C:swapsWith b (some (.Subscript o i d)) j.line X.env=pure false):PS X (.Assign [.Subscript o i d] b j) (Ld f c k):=by
 intro m s n H D I h;refine wpAny_Assign_Subscript (dR (R m s n H _ I h) λr G v q J E B=>dR (t m G n q _ J B) λu S x P F K M=>dR (T m S n P _ F M) λU Y y V O Q ⟨a,N,w,g,p⟩=>?_) C;subst w;obtain rfl:u=Value.ref a:=K;exact LX L O g Q E λW z=>⟨n,N,z,p⟩
end
theorem F7{P:Program}{w:World}{H:Hp}(h:Heap)(a:sysModules<h.objs.size):Γ P w H (h.push { cls:=.type "dict",data:=.dict #[] }) h.objs.size (.dK []):=⟨bj _,beq_eq_false_iff_ne.mpr (Ne.symm (aV a)),[],.nil,Heap.DictOf.new h⟩
theorem Nl{P:Program}{w:World}{H:Hp}(h:Heap)(a:sysModules<h.objs.size):Γ P w H (h.push { cls:=.type "dict",data:=.dict #[] }) h.objs.size (.dT []):=⟨bj _,beq_eq_false_iff_ne.mpr (Ne.symm (aV a)),[],.nil,_,#[],0,bf _ rfl,⟨rfl,rfl,rfl⟩,rfl,rfl,mi⟩
def Yc:TE:=λ_ H Q=>∀p,H p=none->Q (.ref p) (upd H p (.dK []))
def Yd:TE:=λ_ H Q=>∀p,H p=none->Q (.ref p) (upd H p (.dT []))
section
variable{X:Cx}{b:Pos}
theorem P2:PE X (.Dict [] [] b) Yc:=λc s d H Q I h=>
 wpAny_Dict_empty ⟨.ref s.heap.objs.size,_,I.laid (a:=s.heap.objs.size) (o:=.dK []) (t':=s.toks) (λ_ _ q=>ar _ q) (ap _) (F7 s.heap I.big),rfl,h _ (I.ψ.fresh (ap _))⟩
theorem OW:PE X (.Dict [] [] b) Yd:=λc s d H Q I h=>
 wpAny_Dict_empty ⟨.ref s.heap.objs.size,_,I.laid (a:=s.heap.objs.size) (o:=.dT []) (t':=s.toks) (λ_ _ q=>ar _ q) (ap _) (Nl s.heap I.big),rfl,h _ (I.ψ.fresh (ap _))⟩
end
def wX:List (TE×TE)->St->Hp->(List (V×V)->Hp->Prop)->Prop
 | [],_,H,Q=>Q [] H
 | (tk,tv)::r,σ,H,Q=>tk σ H λx a=>tv σ a λy b=>wX r σ b λd c=>Q ((x,y)::d) c
abbrev VV:List (V×V)->List (Value×Value)->Prop:=Paired λp q=>RelV p.1 q.1/\RelV p.2 q.2
def PPs(X:Cx)(d:Pos)(c:List (Option Expr))(a:List Expr)(h:List (TE×TE)):Prop:=∀(b:gf)(s:Shared)(e:St)(H:Hp)(Q:List (V×V)->Hp->Prop),Inv X b e H s->wX h e H Q->wpAny (model X.prog X.w) X.A (evalPairs (pairTrees c a X.env d)) (λi j=>∃f g,Inv X b e g j/\VV f i/\Q f g) X.xe s
theorem Ir{X:Cx}{a:Pos}:PPs X a [] [] []:=λb s c H Q I h=>pairTrees_nil_walk ⟨[],H,I,.nil,h⟩
theorem GP{X:Cx}{b:Pos}{k v:Expr}{e:List (Option Expr)}{f:List Expr}{i g:TE}{j:List (TE×TE)}(p:PE X k i)(G:PE X v g)(l:PPs X b e f j):PPs X b (some k::e) (v::f) ((i,g)::j):=λa s d H Q I h=>
 pairTrees_cons_walk (dR (p a s d H _ I h) λu t x n w z q=>dR (G a t d n _ w q) λJ F y C r E A=>
  ϑ (l a F d C _ r A) λL K ⟨D,o,B,c,m⟩=>⟨(x,y)::D,o,B,.cons ⟨z,E⟩ c,m⟩)
def jS(d a:List (Key×V)):List (Key×V):=a.foldl (λb c=>iJ b c.1 c.2) d
theorem KV.merge:∀{a:List (Key×V)}{d:List (Key×Value)}{b:List (Key×V)}{c:List (Key×Value)},KV a d->KV b c->KV (jS b a) (merged c d):=by
 intro a d b c r;unfold KV at r
 induction r generalizing b c with
 | nil=>intro q;exact q
 | @cons p q ps qs h t ih=>
   intro f;have e:KV (iJ b p.1 p.2) (stored c q.1 q.2):=by
    have:=f.put p.1 h.2;rw[<-h.1];exact this
   exact ih e
theorem oW:∀(b a:List (Key×V)),(jS a b).length<=a.length+b.length
 | [],a=>by show a.length<=a.length+0;lia
 | p::r,a=>by
   have d:=oW r (iJ a p.1 p.2);have c:=oS a p.1 p.2;show(jS (iJ a p.1 p.2) r).length<=_;rw[aF];lia
theorem AL{P:Program}{w:World}:∀{e:List (Key×V)}{g:List (Value×Value)},VV (e.map λf=>(kV f.1,f.2)) g->∃d,Carries (iq P w) g d/\KV e d
 | [],_,r=>by rw[d7]at r;cases r;exact⟨[],True.intro,.nil⟩
 | p::e,_,r=>by
   rw[aq]at r;cases r with
   | @cons a b as bs h t=>
     obtain⟨d,c,q⟩:=AL (P:=P) (w:=w) t;obtain⟨j,i⟩:=b;exact⟨(p.1,i)::d,⟨xP h.1,rfl,c⟩,.cons ⟨rfl,h.2⟩ q⟩
def EJ(d:List (TE×TE)):TE:=λf H Q=>∀p,H p=none->wX d f (upd H p (.dK [])) λe b=>b p=some (.dK [])/\∃a:List (Key×V),e=a.map (λc=>(kV c.1,c.2))/\a.length<=15/\Q (.ref p) (upd b p (.dK (jS [] a)))
theorem Jv{X:Cx}{g:Pos}{b:List (Option Expr)}{d:List Expr}{p:List (TE×TE)}(h:PPs X g b d p)(k:b.all (·.isSome)=true)(B:b.length=d.length)(K:b≠[])(j:b.length<=15):PE X (.Dict b d g) (EJ p):=by
 intro f s L H Q I q;have C:=I.ψ.fresh (ap s.heap.objs.size);have y:=I.laid (a:=s.heap.objs.size) (o:=.dK []) (h':=s.heap.push { cls:=.type "dict",data:=.dict #[] }) (t':=s.toks) (λ_ _ q=>ar _ q) (ap _) (F7 s.heap I.big);refine wpAny_Dict_walk (knd:=iq X.prog X.w) k B K j (ϑ (h f _ L _ _ y (q _ C)) λO T ⟨S,R,n,l,e,m,v,N,A⟩=>?_);subst v;obtain⟨J,c,u⟩:=AL (P:=X.prog) (w:=X.w) l;obtain⟨z,t,D,r,F⟩:=EI n.ψ e;cases r;refine⟨J,c,F,λh' i M=>⟨.ref s.heap.objs.size,_,?_,rfl,A⟩⟩;have x:(jS [] m).length<=sizeLine:=by
  have E:=oW m [];rw[dU]at E;rw[sizeLine_eq];lia
 have G:∃q,h'.get? s.heap.objs.size=some q:=let ⟨q,_,_,hq,_⟩:=i;⟨q,hq⟩;exact xY n (by rw[e];exact True.intro) M G (FS x t (u.merge .nil) i)
end L2
namespace Att
open PySem PySem.W PySem.Calls PyProof.Rows
theorem Ai{P:Params}{h:Heap}:∀(c:d2)(d:gn),WellAll P h d (c.map WData.int)->IntsAre d c:=by
 intro c
 induction c with
 | nil=>
   intro d w;rw[d7]at w;cases w;exact .nil
 | cons n c ih=>
   intro d w;rw[aq]at w;cases w with
   | cons a b=>
     cases a;exact .cons _ _ (ih _ b)
theorem LJ{l:OpenLaw}{n:Nat}(v:l.most=some n){P:Params}{h:Heap}{b:List WData}{e:gn}(m:l.row.toRowW.claim.pre b=true)(k:WellAll P h e b):∃a o c,e=[Value.ref a]/\b=[WData.list (c.map WData.int)]/\h.get? a=some { cls:=.type "list",data:=.seq o.toArray }/\IntsAre o c/\c.length<=n:=by
 have j:WShape.hasAll [] b [.list .int]=true:=(pre_splitW m).1;have p:l.pre.holds [] { args:=b }=true:=(pre_splitW m).2;obtain⟨d,r,rfl,w,s⟩:=hasAllW_cons j;obtain rfl:=hasAllW_nil s;obtain⟨x,rfl,t⟩:=hasW_list w;obtain⟨c,rfl⟩:=items_int t;have f:c.length<=n:=by
  unfold OpenLaw.pre at p;have g:(WTm.not (.lt (.lit (.int (n:Int))) (.len (.arg 0)))).holds [] { args:=[.list (c.map .int)] }=true:=by
   have g:=(holds_andW p).1;rw[v]at g;exact g
  have i:=condW_of g (w_not (w_lt w_lit (w_len_list (w_arg rfl))));rw[aa]at i;refine Nat.le_of_not_lt λq=>?_;have u:(n:Int)<((c.length:Nat):Int):=by lia
  first
   | (rw[bh u]at i;exact absurd i (by decide))
   | (simp at i;lia)
 cases k with
 | cons w1 w2=>
   cases w2;cases w1 with
   | list ho abw=>exact⟨_,_,c,rfl,rfl,ho,Ai c _ abw,f⟩
theorem MN(l:OpenLaw)(a:List WData):l.row.toRowW.claim.post a (.bool true) a=true:=postW_of (r:=l.row.toRowW) (X:=(true==true))
 (show WShape.has [] (.bool true) .bool=true by first|rfl|decide|simp[WShape.has,WShape.arms,WShape.armsAll])
 (show(WTm.eq .res (.lit (.bool true))).value [] { args:=a,res:=some (.bool true),after:=a }=some (.bool (true==true))from w_eq_bool (w_res rfl) w_lit) rfl
theorem XA{l:OpenLaw}{n:Nat}{q:Program}{c:gy}{B:(Str->Option Value)->Heap->Prop}{C:World->Heap->Prop}{d:DefRec}(T:l.most=some n)(z:d.params.defaults=[])(call:∀(w:World) (e b:Shared) (p v:gw) (k:Addr) (o:Obj) (y m g:Value) (a:Addr) (i:gn) (s:d2),Ground q c [] B w e p v b.heap->C w b.heap->b.heap.get? k=some o->o.data=.func (docDef d.name d.params d.body d.scope y m g)->b.heap.CodeRec m d.name->p d.name=some (.ref k)->b.heap.get? a=some { cls:=.type "list",data:=.seq i.toArray }->IntsAre i s->s.length<=n->b.gens=#[]->codeAny (model l.prog w) callerA (.call (.ref k) ⟨[.ref a],[]⟩) (λr t=>r=.ok (.ret (.bool true))/\OldK b.heap t.heap/\t.os=b.os/\AllBare t.gens) b):WalkO q c B C l.row.toRowW d [] (λf i=>PySem.call f i):=by
 intro w e b p v G Y k o y m g P kV M K L D A S F E as J U Q x H;obtain rfl:P=.none:=Dflts.none D z;obtain rfl:kV=.none:=Dflts.noKw D;obtain⟨a,i,s,rfl,rfl,u,h,j⟩:=LJ T J x;refine enter_call (kT (call w e b p v k o y m g a i s G Y M (fd_plain K) L A u h j S) λr t I=>?_);obtain⟨rfl,N,R,V⟩:=I;exact⟨.inl ⟨.bool true,.bool true,[],rfl,λ_=>rfl,.bool true,MN l _,λ_=>⟨List.Pairwise.nil,λ_ O=>(nomatch O)⟩⟩,N,R,V⟩
end Att
namespace L2
open PySem PySem.Spec PyProof.Rows
theorem DW:∀{a:gn}{b:d2},IntsAre a b->Vals (b.map V.int) a
 | _,_,.nil=>.nil
 | _,_,.cons n t h=>.cons ⟨t,rfl⟩ (DW h)
def NM(H:Hp):Prop:=∀b,H b=none\/∃o a,H b=some (.X2 o (.lst a))
theorem P1{P:Program}{w:World}{K:f5}{D J:gw}{Y:Xa}{k:Nat}{S a:Addr}{fd:FuncData}{x:Str}{sp:Sp}{c:Shared}{p:gn}{G:d2}(KX:K.In c.heap)(E:c.heap.Ns mainGlobals D)(f:c.heap.Ns builtinsNs J)(O:∀x:Str,x≠"__name__"->J x=bootBuiltins x)(Q:c.heap.NoLimit)(hg:c.gens=#[])(I:c.heap.get? a=some { cls:=.type "list",data:=.seq p.toArray })(hi:IntsAre p G)(hl:G.length<=sizeLine)(hr:ϋ k callerA)(F:∀g:Heap,K.In g->g.Ns mainGlobals D->ϓ P w K D g Y k S fd [x] sp)(L:∀(s:Shared) (u:Value),BindsTo s fd ⟨[u],[]⟩ [(x,u)])(ZP:∀H:Hp,NM H->ξ K H a (G.map V.int)->sp [.ref a] H (λv _=>v=.bl true) λ_ _ _=>False)(U:∀H e i,Y [] H c (λ_ _ _=>False) e i->False):codeAny (model P w) callerA (.call (.ref S) ⟨[.ref a],[]⟩) (λr i=>r=.ok (.ret (.bool true))/\OldK c.heap i.heap/\i.os=c.os/\AllBare i.gens) c:=by
 have rv:=DW hi;have M:=hi.length;have l:∀H:Hp,NM H->ξ K H a (G.map V.int)->Ϭ P w H c.heap->(∀b,H b≠none->b=a)->(H a≠none->K.lookup a=none)->codeAny (model P w) callerA (.call (.ref S) ⟨[.ref a],[]⟩) (λr i=>r=.ok (.ret (.bool true))/\OldK c.heap i.heap/\i.os=c.os/\AllBare i.gens) c:=by
  intro H hO hS ψ Z hK;have Yq:∀{b:Addr}{o:Obj},c.heap.get? b=some o->H b=none->(vP c.heap H).get? b=some o:=λe n=>QE e n;have N:∀{b:Addr}{o:Obj}{t:Array DictEntry}{B:Nat},c.heap.get? b=some o->o.data=.dict t B->H b=none:=λ{b o t B} e d=>by
   cases q:H b with
   | none=>rfl
   | some u=>
     have T:b=a:=Z b (by rw[q];simp);subst T;rw[I]at e;cases e;have d':Data.seq p.toArray _=Data.dict t B:=d;cases d'
  have j:∀{b:Addr}{m:gw},c.heap.Ns b m->(vP c.heap H).Ns b m:=λ{b m} ⟨o,t,B,e,d,r⟩=>⟨o,t,B,Yq e (N e d),d,r⟩;have A:K.In (vP c.heap H):=λb o e=>Yq (KX b o e) (by
   cases q:H b with
   | none=>rfl
   | some u=>
     have T:b=a:=Z b (by rw[q];simp);subst T;rw[hK (by rw[q];simp)]at e;cases e)
  have hM:Mod K D (vP c.heap H):=⟨A,j E,⟨J,j f,O⟩,let ⟨mc,h1,h2⟩:=Q;⟨mc,j h1,h2⟩⟩;have e0:X8 P w K D (vP c.heap H) callerA [] c H:=⟨rfl,hM,λb o e=>RC e,kO (MH _ _),trivial,λb f=>absurd (show b∈([]:gg)from f) (by simp),ψ,.of_eq hg⟩;refine kT ((F _ A (j E)).run callerA [] c H ⟨[.ref a],[]⟩ [.ref a] [.ref a] _ _ hr e0 (L c (.ref a)) (.cons rfl .nil) (ZP H hO hS)) λr i h=>?_;cases r with
  | error e=>exact(U H e i h).elim
  | ok fl=>
    cases fl with
    | next=>exact False.elim h
    | brk=>exact False.elim h
    | cont=>exact False.elim h
    | ret u=>
      obtain⟨v,H',os,y,X,R,r',q⟩:=h;have q':v=.bl true:=q;subst q';obtain rfl:u=Value.bool true:=r';refine⟨rfl,OldK.of_keep λb o e=>?_,os,y⟩;cases q:H b with
      | none=>exact X.keep b o e q (by intro z;exact absurd (show b∈([]:gg)from z) (by simp)) (by simp)
      | some u=>
        rcases hO b with z|⟨ob,xs,z⟩
        .rw[q]at z;cases z
        .have z2:=X.iN b ob _ z;obtain⟨e1,_⟩:=ψ b _ z;obtain⟨e2,_⟩:=R b _ z2;rw[e]at e1;cases e1;exact e2
 cases hk:K.lookup a with
 | some o=>
   have e:=KX a o hk;rw[I]at e;cases e;refine l (λ_=>none) (λ_=>.inl rfl) (.inr ⟨_,p.toArray,_,hk,rfl,rfl,rfl,by rw[aM,M];exact hl,by simpa using rv⟩) (λb u z=>by have C:(none:Option HO)=some u:=z;cases C) (λb z=>absurd rfl z) λz=>absurd rfl z
 | none=>
   refine l (λb=>if b=a then some (.X2 { cls:=.type "list",data:=.seq p.toArray } (.lst (G.map V.int)))else none) (λb=>?_) (.inl (.inr ⟨{ cls:=.type "list",data:=.seq p.toArray },aj rfl⟩)) (λb u z=>?_) (λb z=>?_) λ_=>hk
   .by_cases f:b=a
    .exact .inr ⟨_,_,aj f⟩
    .exact .inl (ag f)
   .by_cases f:b=a
    .have C:=(aj f).symm.trans z;cases C;subst f;exact⟨I,by rw[aa];exact hl,p,_,rv,I⟩
    .have C:=(ag f).symm.trans z;cases C
   .by_cases f:b=a
    .exact f
    .exact absurd (ag f) z
theorem Z8{l:PySem.W.OpenLaw}{n k:Nat}{q:Program}{j:gy}{P:(Str->Option Value)->Heap->Prop}{J:World->Heap->Prop}{d:DefRec}{K:Params->PySem.W.Frag}{CX:World->Xa}{sp:World->Sp}{x:Str}(hn:l.most=some n)(A:n<=sizeLine)(B:d.params.defaults=[])(O:ϋ k callerA)(U:∀(w:World) (h:Heap),J w h->(K w.params).In h)(F:∀(w:World) (p:gw) (t:Addr) (h:Heap),(K w.params).In h->h.Ns mainGlobals p->p d.name=some (.ref t)->∃C:FuncData,(∀(s:Shared) (u:Value),BindsTo s C ⟨[u],[]⟩ [(x,u)])/\∀c:Heap,(K w.params).In c->c.Ns mainGlobals p->ϓ l.prog w (K w.params) p c (CX w) k t C [x] (sp w))(Z:∀(w:World) (H:Hp) (a:Addr) (y:d2),y.length<=n->NM H->ξ (K w.params) H a (y.map V.int)->sp w [.ref a] H (λv _=>v=.bl true) λ_ _ _=>False)(I:∀(w:World) (H:Hp) (s:Shared) (e:Value) (E:Shared),CX w [] H s (λ_ _ _=>False) e E->False):PySem.W.WalkO q j P J l.row.toRowW d [] (λf L=>PySem.call f L):=by
 refine Att.XA hn B λw N r p mb t o pm cd R a L y G Y ho hd YK D z m i hg=>?_;have M:=U w _ Y;obtain⟨C,hb,S⟩:=F w p t _ M G.T.g D;exact P1 M G.T.g G.T.b G.T.builtins G.T.nolimit hg z m (aL i A) O S hb (λH Q X=>Z w H a y i Q X) λH e E=>I w H r e E
def Jw(s:Stmt)(j:Nat):Stmt:=match s with
 | .ClassDef _ _ _ body _ _ _ _ _ _ _=>body.getD j (.Pass ⟨0,0,0,0⟩)
 | _=>.Pass ⟨0,0,0,0⟩
def ja(s:Stmt):Arguments:=match s with
 | .FunctionDef _ a _ _ _ _ _ _ _ _=>a
 | _=>{ posonlyargs:=[],args:=[],vararg:=none,kwonlyargs:=[],kw_defaults:=[],kwarg:=none,defaults:=[] }
def ip(s:Stmt):List Stmt:=match s with
 | .FunctionDef _ _ b _ _ _ _ _ _ _=>b
 | _=>[]
def aK(s:Stmt):Scope:=match s with
 | .FunctionDef _ _ _ _ _ _ sc _ _ _=>sc
 | _=>{ kind:=.function,names:=[],isGenerator:=false,isCoroutine:=false }
abbrev CX0:Xa:=λ_ _ _ _ _ _=>False
abbrev E0:XK:=λ_ _ _=>False
structure Ye(K:f5)(x qual:Str)(st:Stmt)(f:Addr)(fd:FuncData):Prop where
 ex:∃(oc:Value)(od:Option Addr)(kV doc pm:Value)(an:Option Addr)(Α ct:Value)(Zh:Array (Option Value)),fd=PySem.W.fnOf x qual (ja st) (ip st) (aK st) .none kV doc pm an Α ct/\K.lookup f=some ⟨oc,od,.func fd,Zh⟩/\PySem.W.codeIn K Α qual=true
 kp:PySem.W.keepIn K (.ref f)=true
section
variable{P:Program}{w:World}{K:f5}{b:gw}{a:Heap}
theorem Ye.binds{x c:Str}{st:Stmt}{f:Addr}{l:FuncData}{ps:gy}(F:Ye K x c st f l)(h:∀(kV d g:Value) (j:Option Addr) (k e:Value) (i:gn),i.length=ps.length->bindArgs (PySem.W.fnOf x c (ja st) (ip st) (aK st) .none kV d g j k e) ⟨i,[]⟩=pure (ps.zip i)):Binds K l ps []:=by
 obtain⟨p,n,kV,d,g,j,k,e,q,rfl,m,o⟩:=F.ex;exact .all (h kV d g j k e)
theorem AB{x d:Str}{st:Stmt}{f:Addr}{n:Value}{m i:Option Addr}{o:Array (Option Value)}{kV e j g h:Value}(l:K.lookup f=some ⟨n,m,.func (PySem.W.fnOf x d (ja st) (ip st) (aK st) .none kV e j i g h),o⟩)(c:PySem.W.codeIn K g d=true)(k:PySem.W.keepIn K (.ref f)=true):Ye K x d st f (PySem.W.fnOf x d (ja st) (ip st) (aK st) .none kV e j i g h):=⟨⟨n,m,kV,e,j,i,g,h,o,rfl,l,c⟩,k⟩
end
theorem rR{A:Around}{k:Nat}(a:ϋ k A):A.units+1<cLine:=gm (Nat.add_le_add_left (by decide:1<=64) _) a.units
section
variable{X:Cx}
theorem pv(i:Nat){x:Str}{a:Pos}(c:X.N[i]?=some x:=by rfl)(e:Vis X.env.scope x:=by first|exact Or.inl rfl|exact Or.inr (Or.inl rfl)|exact Or.inr (Or.inr rfl))(d:(x==("__debug__":Str))=false:=by decide)(b:(x==("__classdict__":Str))=false:=by decide):PE X (.Name x a) (wD i):=FY c e d b
end
theorem TC{A B:Prop}(h:B):if false=true then A else B:=by
 rw[ag bz];exact h
theorem Us{A B:Prop}(h:A):if true=true then A else B:=by
 rw[aj rfl];exact h
def δ(H a:Hp):Prop:=∀b o,H b=some o->a b=some o
theorem δ.refl(H:Hp):δ H H:=λ_ _ h=>h
theorem δ.trans{H d e:Hp}(a:δ H d)(b:δ d e):δ H e:=λc o h=>b c o (a c o h)
theorem δ.free{H a:Hp}(e:δ H a){l:Addr}(h:a l=Option.none):H l=Option.none:=by
 cases q:H l with
 | none=>rfl
 | some o=>
   rw[e l o q]at h;cases h
theorem δ.seq{K:f5}{H c:Hp}{a:Addr}{b:List V}(e:δ H c)(h:ξ K H a b):ξ K c a b:=by
 rcases h with(h|⟨o,h⟩)|h
 .exact .inl (.inl (e _ _ h))
 .exact .inl (.inr ⟨o,e _ _ h⟩)
 .exact .inr h
section
variable{X:Cx}
theorem Na:lm X (.builtin "len") (λc H Q=>∃a b,c=[V.ref a]/\H a=some (.dK b)/\Q (.int b.length) H):=by
 intro d s k H c i Q I r h;obtain⟨a,b,rfl,g,q⟩:=h;obtain⟨u,rfl,e⟩:=qY r;cases e;exact VA I (.inl g) λt j f=>⟨.int b.length,H,f,⟨t,rfl⟩,q⟩
end
def Cx.comp(X:Cx)(e:gy)(a:Scope)(cl:List (Str×Addr))(C:Addr)(c:Shared)(b:Hp)(d:gg):Cx where
 prog:=X.prog
 w:=X.w
 K:=X.K
 mg:=X.mg
 base:=X.base
 A:=X.A
 N:=e
 s₀:=c
 H₀:=b
 env:=compEnvC a cl C X.env
 outer:=X.stack
 stack:=X.stack
 ex:=d
 fn:=λ_=>false
 calm:=X.calm
 pn:=[]
 xe:=λ_ _=>False
structure ϥ(X:Cx)(Nc:gy)(own:Nat)(js:List Nat)(scope:Scope)(cl:List (Str×Addr)):Prop where
 abz:closureFor scope X.env=pure cl
 kind:scope.kind=.function
 Yg:∀y∈scope.names,y.2≠.cell
 names:∀y∈scope.names,y.2=.local->scope.names.lookup y.1=some .local
 cells:∀x c,cl.lookup x=some c->X.env.cells.lookup x=some c
 has:∀x,((relabel scope X.env).names.lookup x=some .cell\/(relabel scope X.env).names.lookup x=some .free)->∃c,cl.lookup x=some c
 len:Nc.length=own+js.length
 outer:∀i x,Nc[own+i]?=some x->∃j,js[i]?=some j/\X.N[j]?=some x/\X.env.scope.names.lookup x=some .cell/\(relabel scope X.env).names.lookup x=some .cell
def mP(a:Nat)(c:List Nat)(b:St):St:=List.replicate a none++c.map λj=>(b[j]?).getD none
def JJ(h:Nat)(t:List Nat)(r:TI)(g:TG)(q:TT)(s:TE):TE:=λo H Q=>r o H λJ j=>∀p,j p=none->∃W:Nat->Nat->List V->St->Hp->Prop,(∃m,W 0 m [] (mP h t o) (upd j p (.lst [])))/\∀i m c f d,W i m c f d->(J.stop i d/\Q (.ref p) d)\/(J.go i d/\∀x l,J.yld i d x l->g x f l λa u=>q a u λb k=>
 if b=true then s a k λy n=>n p=some (.lst c)/\c.length<sizeLine/\∃e,e<m/\W (i+1) e (c++[y]) a (upd n p (.lst (c++[y])))
 else ∃e,e<m/\W (i+1) e c a k)
def PTs(X:Cx)(b:List Expr)(t:TT):Prop:=∀(a:gf)(s:Shared)(d:St)(H:Hp)(Q:Bool->Hp->Prop),Inv X a d H s->t d H Q->wpAny (model X.prog X.w) X.A (forIn b true λc r=>if r=true then do let e <-isTrue c X.env (eval c X.env);pure (ForInStep.yield e)else pure (ForInStep.yield r)) (TP X a d Q) X.xe s
def abA:TT:=λ_ H Q=>Q true H
theorem jh{X:Cx}:PTs X [] abA:=λa s b H Q I h=>wpAny_tests_nil ⟨H,I,h⟩
theorem xX{X:Cx}{c:Expr}{t:TT}(h:PT X c t):PTs X [c] t:=λa s b H Q I q=>wpAny_tests_one (h a s b H Q I q)
section
variable{a:Program}{w:World}{A:Around}{E:f3}{R:Result->Shared->Prop}{s:Shared}
theorem yQ{y b k:Expr}{t:List Expr}{f:Scope}{G:Pos}{H u:Value}{e:Env}(I:Nat->Shared->Prop)(F:∀n s,I n s->wpAny (model a w) A (pyNext H) (λr g=>match r with
 | none=>R (.ok .next) g
 | some v=>wpAny (model a w) A (letOwnedTupleGo b H v) (λ_ B=>wpAny (model a w) A (assign b e v) (λ_ l=>
  wpAny (model a w) A (forIn t true λc r=>if r=true then do let ok <-isTrue c e (eval c e);pure (ForInStep.yield ok)else pure (ForInStep.yield r)) (λok j=>
   if ok=true then wpAny (model a w) A (eval y e) (λx o=>
    wpAny (model a w) A (call (.builtin "list.append") [u,x]) (λ_ q=>∃m,m<n/\I m q) (λ_ _=>False) o) (λ_ _=>False) j
   else ∃m,m<n/\I m j) (λ_ _=>False) l) (λ_ _=>False) B) (λ_ _=>False) g) (λ_ _=>False) s)(n:Nat)(h:I n s):codeAny (model a w) A (.compLoop (.ListComp y [⟨b,k,t,0⟩] f G) 0 H u e) R s:=by
 refine codeAny_loop rfl I (λn s K=>?_) n h;show wpAny _ A ((compTurn (.ListComp y [⟨b,k,t,0⟩] f G) 0 H u e).onRaise (λx=>do noteFrame x e;theTreesLotGoes x)) _ _ s;refine wpAny_noted ?_;rw[compTurn_list];refine ak (jZ (ak (di (F n s K) (λr g p=>?_) λ_ _ i=>i.elim)));cases r with
 | none=>exact ba p
 | some v=>
   refine ak (di p (λ_ B J=>?_) λ_ _ i=>i.elim);refine ak (di J (λ_ l z=>ak (di z (λok j d=>?_) λ_ _ i=>i.elim)) λ_ _ i=>i.elim);cases ok with
   | true=>
     rw[aj rfl]at d;simp only[if_true];exact ak (ak (di d (λx o D=>ak (di D (λ_ q C=>ba (ba ⟨rfl,C⟩)) λ_ _ i=>i.elim)) λ_ _ i=>i.elim))
   | false=>
     rw[ag bz]at d;simp only[dL,if_false]
     first
      | exact ba ⟨rfl,d⟩
      | exact ak (ba (ba ⟨rfl,d⟩))
end
section
variable{X:Cx}{Nc:gy}{f:Nat}{B:List Nat}{scope:Scope}{l:List (Str×Addr)}
theorem Dn{g:gf}{q:St}{d:Hp}{a:Shared}{C:Addr}{j:gg}(T:ϥ X Nc f B scope l)(I:Inv X g q d a)(k:a.heap.objs.size<=C)(i:∀b∈j,ph X g d b)(n:∀b∈j,b<a.heap.objs.size):(X.comp Nc scope l C a d j).Ok where
 mod:=I.ok.mod
 kind:=by show(relabel scope X.env).kind=_;exact T.kind
 glob:=I.ok.glob
 blt:=I.ok.blt
 above:=k
 inj:=λx y c p m=>I.ok.inj x y c (T.cells x c p) (T.cells y c m)
 has:=λx h=>T.has x h
 cab:=λx c h=>by cases h
 hd:=I.ok.hd
 frames:=I.ok.frames
 stk:=.inl rfl
 exf:=λb hb=>⟨aV (aZ (n b hb) k),λx c h=>(i b hb).2.2.2.2.1 x c (T.cells x c h)⟩
 bs:=I.bs
 ZZ:=aL I.ok.ZZ I.sz
 YH:=λb o e hb=>by
  rcases(i b hb).2.2.2.1 with z|z
  .exact I.ok.YH b o e z
  .exact absurd (aZ (aG (I.ok.bs b o e).1) z) (cU _)
 X4:=λb hb r=>by
  rcases ax.mp (I.X6 b r)with z|z
  .exact(i b hb).2.1 z
  .exact(i b hb).2.2.1 z
 Ac:=I.stack
 frf:=I.Wm
theorem F2{s:gf}{A:St}{g:Hp}{a:Shared}{C D:Addr}{F:gg}{h:Heap}{t:Nat}{m:gw}(T:ϥ X Nc f B scope l)(I:Inv X s A g a)(P:a.heap.objs.size<=C)(E:a.heap.objs.size<=D)(L:D≠C)(f1:∀b∈F,ph X s g b)(ό:∀b∈F,b<a.heap.objs.size)(w:∀b o,a.heap.get? b=some o->h.get? b=some o)(M:h.Ns C m)(K:∃n,h.get? D=some { cls:=.type "list",data:=.seq ([]:gn).toArray n }):Inv (X.comp Nc scope l C a g F) [] (mP f B A) (upd g D (.lst [])) { a with heap:=h,toks:=t }:=by
 obtain⟨Z,K⟩:=K;have r:∀c v,a.heap.IsCell c v->h.IsCell c v:=λc v ⟨o,G,V⟩=>⟨o,w c o G,V⟩;refine⟨Dn T I P f1 ό,rfl,I.bare,Un.laid w E (I.ψ.fresh E),⟨m,M,λi x v Y U e3=>?_⟩,λx c e=>?_,?_,λx c e=>?_,λp hp=>(by cases hp),I.ψ.laid w E ?_,?_⟩
 .have hN:Nc[i]?=some x:=Y;have d:(mP f B A)[i]?=some (some v):=U;unfold mP at d;by_cases Q:i<f
  .rw[dh (by simpa using Q),fD]at d;simp[Q]at d
  .obtain⟨k,rfl⟩:∃k,i=f+k:=⟨i-f,by lia⟩;rw[da (by simp)]at d;simp only[cV,Nat.add_sub_cancel_left,aA]at d;obtain⟨j,hj,hx,O,N⟩:=T.outer k x hN;rw[hj]at d;replace d:some (A[j]?.getD none)=some (some v):=d;have J:A[j]?=some (some v):=by
    cases q:A[j]? with
    | none=>rw[q]at d;simp at d
    | some y=>rw[q]at d;simpa using d
   obtain⟨m0,R,H⟩:=I.loc;obtain⟨u,S,W⟩:=H j x v hx J (.inr (.inl O));refine⟨u,S,.inr ⟨.inl N,?_⟩⟩;rcases W with⟨z,_⟩|⟨_,c,hc,ϸ⟩
   .have z':X.env.scope.names.lookup x=some .local:=z;rw[O]at z';cases z'
   .obtain⟨c',YJ⟩:=T.has x (.inl N);have:=T.cells x c' YJ;rw[hc]at this;cases this;exact⟨c,YJ,r c _ ϸ⟩
 .obtain⟨v,z⟩:=I.cell x c (T.cells x c e);exact⟨v,r c v z⟩
 .show upd g D (.lst []) C=none;rw[aR (Ne.symm L)];exact I.ψ.fresh P
 .have e':=T.cells x c e;obtain⟨v,o,G,_⟩:=I.cell x c e';rw[aR (aV (aZ (aG G) E))];exact I.Ϟ x c e'
 .exact⟨bj _,[],Z,.nil,K⟩
 .show(mP f B A).length=Nc.length;rw[T.len];simp[mP]
theorem DX{g:gf}{A t:St}{d i:Hp}{c s':Shared}{C:Addr}{j:gg}{h':Heap}(I:Inv X g A d c)(D:c.heap.objs.size<=C)(r:∀b∈j,ph X g d b)(p:Inv (X.comp Nc scope l C c d j) [] t i s')(F:Heap.SameBut C s'.heap h'):Inv X g A i { s' with heap:=h' }:=by
 have u:Un (ϭ X.stack) j d i c.heap s'.heap:=p.base;have ne:∀b o,c.heap.get? b=some o->b≠C:=λb o e=>aV (aZ (aG e) D);have k:∀b o,b≠C->s'.heap.get? b=some o->h'.get? b=some o:=λb o n e=>F.extBut b o n e;have E:Un (ϭ X.stack) j d i c.heap h':=⟨λb o e n h m=>k b o (ne b o e) (u.keep b o e n h m),λb o e n h m=>let ⟨sl,q⟩:=u.slot b o e n h m;⟨sl,k b _ (ne b o e) q⟩,u.free,λb o e m=>let ⟨o',q⟩:=u.there b o e m;⟨o',k b o' (ne b o e) q⟩,u.oR,u.iN,u.rW⟩
 have x:i C=none:=p.free;have s:Ϭ X.prog X.w i h':=λa o e=>(p.ψ a o e).iF (λb v h q=>k b v (λz=>by
  rcases h with y|y
  .rw[y]at z;rw[z,x]at e;cases e
  .rw[z,x]at y;cases y) q) (λ_ q=>q) λ_ _ q=>q
 exact I.aaH (s':={ s' with heap:=h' }) (ch:=j) p.os E s p.bare λb h=>⟨(r b h).2.2.2.1,(r b h).2.1,(r b h).2.2.2.2.1,(r b h).2.2.2.2.2⟩
theorem gW{ac a E:Expr}{af:List Expr}{au:Pos}{wi:TI}{g:TG}{tc:TT}{te:TE}(hc:X.calm=true)(T:ϥ X Nc f B scope l)(hi:PI X a E wi)(hg:∀C m D k,PG (X.comp Nc scope l C m D k) a g)(ht:∀C m D k,PTs (X.comp Nc scope l C m D k) af tc)(he:∀C m D k,PE (X.comp Nc scope l C m D k) ac te)(hs:∀x,foldedSetIterable E X.env x=pure x:=by intro _;rfl):PE X (.ListComp ac [⟨a,E,af,0⟩] scope au) (JJ f B wi g tc te):=by
 intro U s σ H Q I h;rw[eval_ListComp];refine wpAny_comprehension_free (use:=none) rfl hs T.abz T.kind T.names (ϑ (hi U s σ H _ I h) λv s1 h1=>ϑ h1 λc3 j h2=>?_);obtain⟨it,k,tn,J,H1,rfl,I1,S,st,f1,R⟩:=h2;have Z9:∀b∈k,b<j.heap.objs.size:=λb z=>let ⟨o,e,_⟩:=S.obj _ _ st b z;aG e;refine gF (wpAny_newFunctionEnv T.Yg (by intro y hy;simp at hy) (λF aC Ϧ=>?_) T.kind);dsimp only at aC Ϧ ⊢;generalize Z:j.heap.push { cls:=.type "list",dict:=none,data:=.seq ([]:gn).toArray }=K at aC Ϧ ⊢;have hC:K.objs.size=j.heap.objs.size+1:=by rw[<-Z,de]
 have av:j.heap.objs.size≠K.objs.size:=by rw[hC];exact aV (fX _)
 have Wq:j.heap.objs.size<=K.objs.size:=by rw[hC];exact fE _
 have b6:∀b,b<j.heap.objs.size->b≠K.objs.size:=λb z=>by rw[hC];exact aV (gI z)
 have a1:∀b o,j.heap.get? b=some o->F.get? b=some o:=λb o e=>Ϧ.extBut b o (b6 b (aG e)) (ar _ (Z▸ar _ e));have By:∃n,F.get? j.heap.objs.size=some { cls:=.type "list",data:=.seq ([]:gn).toArray n }:=⟨_,Ϧ.extBut _ _ av (ar _ (Z▸bf _ rfl))⟩;have XB:tn 0 F:=S.keep _ _ _ st λb _ o e=>a1 b o e;obtain⟨W,⟨m0,w0⟩,a0⟩:=R j.heap.objs.size I1.fresh;have Ic:=F2 (t:=j.toks+([]:List (Str×Value)).length) T I1 Wq (ap _) av f1 Z9 a1 aC By;generalize O:X.comp Nc scope l K.objs.size j H1 k=Xc at Ic;have L:∀{N:Hp},(∀b∈k,N b=none)->∀b∈k,ph Xc [] N b:=λ{N} hn b z=>by
  subst O;exact⟨hn b z,b6 b (Z9 b z),(Dn T I1 Wq f1 Z9).X4 b z,.inl z,λx c e=>(f1 b z).2.2.2.2.1 x c (T.cells x c e),λp hp=>by cases hp⟩
 have b3:∀b∈k,upd H1 j.heap.objs.size (.lst []) b=none:=λb z=>by
  rw[aR (aV (Z9 b z))];exact(f1 b z).1
 have dA:Xc.calm=true:=by subst O;exact hc
 have Y:∀M:Shared,M={ j with heap:=F,toks:=j.toks+([]:List (Str×Value)).length }->codeAny (model X.prog X.w) X.A (.compLoop (.ListComp ac [⟨a,E,af,0⟩] scope au) 0 (.ref it) (.ref j.heap.objs.size) (compEnvC scope l K.objs.size X.env))
  (compPost (model X.prog X.w) X.A X.xe none (EP X U σ Q) (.ref j.heap.objs.size) K.objs.size) M:=by
  rintro M rfl;refine yQ (λn s'=>∃i ys aS N,Inv Xc [] aS N s'/\tn i s'.heap/\(∀b∈k,N b=none)/\W i n ys aS N) ?_ m0 ⟨0,[],_,_,Ic,XB,b3,w0⟩;rintro n s3 ⟨i,ys,P,H3,I3,aT,a2,w3⟩;rcases a0 i n ys P H3 w3 with⟨stop,q⟩|⟨go,step⟩
  .subst O;refine ϑ (S.done (X.comp Nc scope l K.objs.size j H1 k) rfl rfl rfl hc i [] s3 P H3 _ I3 (L a2) aT stop) λr s4 ⟨hr,I4⟩=>?_;subst hr;obtain⟨m4,b1,_⟩:=id I4.loc;exact⟨m4,b1,λh' cd=>⟨.ref j.heap.objs.size,H3,DX I1 Wq f1 I4 cd,rfl,q⟩⟩
  .subst O;refine ϑ (S.item (X.comp Nc scope l K.objs.size j H1 k) rfl rfl rfl hc i [] s3 P H3 _ I3 (L a2) aT go) λr s4 ⟨u,hr,h4⟩=>?_;subst hr;refine ϑ h4 λ_ s5 ⟨x,H5,I5,r5,y5,Zg,Z2⟩=>?_;have bl:=I5.pinned (L Z2) (S.obj _ _ Zg);have V:∀{ae:St}{H7:Hp}{s7:Shared},Inv (X.comp Nc scope l K.objs.size j H1 k) ([]++va k s5.heap) ae H7 s7->Inv (X.comp Nc scope l K.objs.size j H1 k) [] ae H7 s7/\tn (i+1) s7.heap/\∀b∈k,H7 b=none:=λ{ae H7 s7} I7=>by
    refine⟨I7.ϯ,S.keep _ _ _ Zg λb z o e=>(I7.pin (b,o) (aW _ (aW _ (oE z e)))).1,λb z=>?_⟩;obtain⟨o,e,d⟩:=S.obj _ _ Zg b z;exact(I7.pin (b,o) (aW _ (aW _ (oE z e)))).2.1
   refine ϑ (hg _ _ _ _ _ s5 P H5 x u _ bl r5 (step x H5 y5)) λ_ s6 ⟨G,H6,I6,q6⟩=>?_;refine Da (ht _ _ _ _ _ s6 G H6 _ I6 q6) λok s7 H7 I7 q7=>?_;cases ok with
   | false=>
     rw[ag bz]at q7 ⊢;obtain⟨m',hm,w7⟩:=q7;obtain⟨J1,J2,J3⟩:=V I7;exact⟨m',hm,i+1,ys,G,H7,J1,J2,J3,w7⟩
   | true=>
     rw[aj rfl]at q7 ⊢;refine dR (he _ _ _ _ _ s7 G H7 _ I7 q7) λy s8 yv H8 I8 r8 ⟨b2,bd,m',hm,w8⟩=>?_;refine ϑ (fM _ s8 G H8 (.ref j.heap.objs.size) [yv] _ [y] (λv' N=>W (i+1) m' (ys++[yv]) G N) I8 rfl (.cons r8 .nil) ⟨_,ys,yv,rfl,rfl,b2,bd,w8⟩) λv9 s9 ⟨_,H9,I9,_,w9⟩=>?_;obtain⟨J1,J2,J3⟩:=V I9;exact⟨m',hm,i+1,ys++[yv],G,H9,J1,J2,J3,w9⟩
 exact codeAny_compStart_list (Y _ rfl) (S.self _ 0 _ _ _ XB (Y _ rfl))
end
section
variable{X:Cx}
def Yr:V->List V->Hp->VK->Prop:=λx b H Q=>∃(l:Addr)(a:List V)(i:Int)(y:V),x=.ref l/\b=[.int i,y]/\H l=some (.lst a)/\0<=i/\i<=a.length/\a.length<sizeLine/\Q .ω (upd H l (.lst (a.take i.toNat++y::a.drop i.toNat)))
theorem D1:MtM X "list.insert" Yr:=by
 intro g s K H x A v C Q I p o h;obtain⟨l,w,i,y,rfl,rfl,f,J,B,D,q⟩:=h;cases p;obtain⟨E,b,rfl,⟨t,rfl⟩,k⟩:=o.two;obtain⟨z,a,n,r,u,e⟩:=I.Xz f;have G:=tH;have m:Builtin.List.listFitsIndex i=true:=by
  unfold Builtin.List.listFitsIndex;rw[ce];exact⟨bh (by lia),bh (by lia)⟩
 have c:¬(!Builtin.List.listFitsIndex i)=true:=by rw[m];decide
 have d:a.toArray.size<=sizeLine:=by rw[aM,<-u];exact z
 refine call_meets iz ⟨_,e,rfl⟩ PySem.F.entry_list_insert (PySem.F.args_list_insert_3 _ _ _) (PySem.AutoSeq1.list_insert_list_int_val_1 l a.toArray n i t b c d) ⟨e,?_⟩;refine⟨.ω,_,I.Z4 (its':=a.take i.toNat++b::a.drop i.toNat) f e ?_ ((r.take i.toNat).append (.cons k (r.drop i.toNat))) ?_,rfl,q⟩
 .show(a.toArray.extract 0 (if i<0 then(i+(a.toArray.size:Int)).toNat else min i.toNat a.toArray.size)).push b++a.toArray.extract (if i<0 then(i+(a.toArray.size:Int)).toNat else min i.toNat a.toArray.size)=_;have j:(if i<0 then(i+(a.toArray.size:Int)).toNat else min i.toNat a.toArray.size)=i.toNat:=by
   rw[ag (by lia),aM]
   lia
  rw[j];exact PySem.W.kl_ins_eq a i.toNat b
 .rw[aE,aF,bq,fx]
  lia
theorem pD:iS X (binaryOp .Mult) (rI (λi j=>IntMulOk i j) λi j=>.int (i*j)):=opI λi j t u s Q E h q=>PyProof.Rows.mul_int q h
def Rf(K:f5):List V->Hp->VK->Prop:=λd H Q=>∃x c t b,d=[x,c]/\As K H x t/\(∀a,RelV c a->PySem.W.kitOne K t a=some b)/\Q (.bl b) H
theorem uq:lm X (.builtin "isinstance") (Rf X.K):=by
 intro a s m H k l Q I r h;obtain⟨x,c,t,b,rfl,d,f,q⟩:=h;obtain⟨u,i,rfl,e,j⟩:=Kd r;exact Mi I e d (f i j) λg=>⟨.bl b,H,I.tok g,rfl,q⟩
theorem Ga(S:X.calm=true):lm X (.builtin "all") (λm H Q=>∃(p:Addr)(c:List Bool),m=[.ref p]/\ξ X.K H p (c.map V.bl)/\Q (.bl (c.all id)) H):=by
 intro n s Y H m T Q I r h;obtain⟨p,c,rfl,N,q⟩:=h;obtain⟨u,rfl,k⟩:=qY r;cases k;obtain⟨a,w,C,W⟩:=I.list N;have B:=C.isList;have J:=C.lt;have F:X.A.in1.handled=none:=I.ok.hd S;have d:a.length=c.length:=by rw[<-w.length,aa]
 refine call_all_walk (iI B ?_);refine⟨s.heap.objs.size,[s.heap.objs.size,p],[s.heap.objs.size],a.toArray.size,_,_,λi=>(c[i]?).getD true,rfl,Walks.list (A:=X.A.in1) F _ p (aV J) a.toArray,⟨⟨_,bf _ rfl,rfl,rfl⟩,B.push _⟩,λi v P E U M j=>?_,λR O G=>?_⟩
 .have f:a[i]?=some v:=by simpa using M
  have g:i<c.length:=by rw[<-d];exact(az.mp f).1
  obtain⟨u,y,k⟩:=w.get (i:=i) (x:=V.bl c[i]) (by rw[aA,ao g];rfl);rw[f]at y;cases y;cases k;replace j:E (c[i]?.getD true) P:=j;rw[ao g]at j;exact cQ j
 .have e:((List.range a.toArray.size).all λi=>(c[i]?).getD true)=c.all id:=by
   rw[aM,d];rw[dX,dQ,dQ]
   constructor
   .intro z b hb;obtain⟨i,f,rfl⟩:=jP hb;have:=z i (bU.mpr f);rw[ao f]at this;exact this
   .intro z i f;have t:=bU.mp f;rw[ao t];exact z _ (dj t)
  have D:∀b o,s.heap.get? b=some o->R.get? b=some o:=λb o l=>G b o (λL=>by rw[aI.mp L]at l;exact cU _ (aG l)) (ar _ l);rw[e];exact⟨.bl _,H,I.kept (t':=O) D,rfl,q⟩
end
mutual
inductive BV(K:f5)(H:Hp):V->PyData->Prop
 | ω:BV K H .ω .none
 | bl (b:Bool):BV K H (.bl b) (.bool b)
 | int (i:Int):BV K H (.int i) (.int i)
 | str {x:Str}:PyData.canLay0 (.str x)=true->BV K H (.str x) (.str x)
 | lst {a:Addr} {xs:List V} {ds:List PyData}:ξ K H a xs->Ω K H xs ds->BV K H (.ref a) (.list ds)
 | tup {a:Addr} {xs:List V} {ds:List PyData}:Ξ K H a xs->Ω K H xs ds->BV K H (.ref a) (.tuple ds)
inductive Ω(K:f5)(H:Hp):List V->List PyData->Prop
 | nil:Ω K H [] []
 | cons {x:V} {d:PyData} {xs:List V} {ds:List PyData}:BV K H x d->Ω K H xs ds->Ω K H (x::xs) (d::ds)
end
mutual
theorem BV.reads{X:Cx}{f:gf}{q:St}{H:Hp}{s:Shared}(I:Inv X f q H s):∀{x:V}{d:PyData}{u:Value},BV X.K H x d->RelV x u->(∃as,Reads s.heap u d as)/\d.canLay0=true
 | _,_,_,.ω,r=>by cases(show _=Value.none from r);exact⟨⟨_,.none⟩,by simp[PyData.canLay0]⟩
 | _,_,_,.bl b,r=>by cases(show _=Value.bool b from r);exact⟨⟨_,.bool b⟩,by simp[PyData.canLay0]⟩
 | _,_,_,.int i,r=>by obtain⟨t,e⟩:=(show ∃t,_=Value.int i t from r);cases e;exact⟨⟨_,.int i t⟩,by simp[PyData.canLay0]⟩
 | _,_,_,.str (x:=x) h,r=>by obtain⟨t,e⟩:=(show ∃t,_=Value.str x t from r);cases e;exact⟨⟨_,.str x t⟩,h⟩
 | _,_,_,.lst (a:=a) h hs,r=>by
   cases(show _=Value.ref a from r);obtain⟨g,k,⟨o,n,e,c,_,m⟩,p⟩:=I.list h;obtain⟨⟨as,j⟩,l⟩:=Ω.reads I hs k;exact⟨⟨_,.list e c m (by simpa using j)⟩,by simpa[PyData.canLay0]using l⟩
 | _,_,_,.tup (a:=a) h hs,r=>by
   cases(show _=Value.ref a from r);obtain⟨g,k,⟨o,e,c,n,m⟩,p⟩:=I.tuple h;obtain⟨⟨as,j⟩,l⟩:=Ω.reads I hs k;exact⟨⟨_,.tuple e c m (by simpa using j)⟩,by simpa[PyData.canLay0]using l⟩
theorem Ω.reads{X:Cx}{a:gf}{j:St}{H:Hp}{s:Shared}(I:Inv X a j H s):∀{c:List V}{b:List PyData}{d:gn},Ω X.K H c b->Vals c d->(∃as,ReadsAll s.heap d b as)/\PyData.canLayAll0 b=true
 | _,_,_,.nil,.nil=>⟨⟨_,.nil⟩,by simp[PyData.canLayAll0]⟩
 | _,_,_,.cons h hs,.cons r rs=>by
   obtain⟨⟨as,e⟩,i⟩:=BV.reads I h r;obtain⟨⟨k,f⟩,g⟩:=Ω.reads I hs rs;exact⟨⟨_,.cons e f⟩,by simp[PyData.canLayAll0,i,g]⟩
end
section
variable{X:Cx}
def Nk(K:f5):R2:=λx y H Q=>∃d e,BV K H x d/\BV K H y e/\d.depth<=40/\Q (.bl (!PyData.eqv d e)) H
theorem Md(m:X.A.units+64<cLine):iS X (compareOp .NotEq) (Nk X.K):=by
 intro a s o H x y v u Q I i j h;obtain⟨d,e,b,k,l,q⟩:=h;obtain⟨⟨as,c⟩,f⟩:=b.reads I i;obtain⟨⟨n,g⟩,cb⟩:=k.reads I j;exact PySem.SeqAt.compareNe_reads c g f cb (by lia) ⟨.bl _,H,I,rfl,q⟩
end
structure Ge(P:Program)(w:World)(l:Addr)(ob:Obj)(src:Heap->Array Value->Prop)(at':Addr->Nat->Heap->Prop):Prop where
 start:∀(A:Around)(s:Shared)(vs:Array Value)(Q:f3)(E:f3),src s.heap vs->Q (.ref s.heap.objs.size) { s with heap:=s.heap.push ob }->wpAny (model P w) A (pyIter (.ref l)) Q E s
 first:∀it h,h.get? it=some ob->at' it 0 h
 atK:∀it i h h',at' it i h->(∀o,h.get? it=some o->h'.get? it=some o)->at' it i h'
 Xe:∀h h' vs,src h vs->(∀o,h.get? l=some o->h'.get? l=some o)->src h' vs
 obj:∀it i h,at' it i h->∃o,h.get? it=some o/\∀v,o.data≠.cell v
 item:∀(A:Around)(s:Shared)(it:Addr)(i:Nat)(vs:Array Value)(x:Value)(Q:f3)(E:f3),at' it i s.heap->src s.heap vs->vs[i]?=some x->(∀h',at' it (i+1) h'->Heap.SameBut it s.heap h'->Q x { s with heap:=h' })->wpAny (model P w) A (Builtin.SmallTypes.nextOf (.ref it)) Q E s
 fin:∀(A:Around)(s:Shared)(it:Addr)(i:Nat)(vs:Array Value)(Q:f3)(E:f3),A.handled=none->at' it i s.heap->src s.heap vs->vs[i]?=none->(∀h' e,Heap.ExtBut it s.heap h'->(∃o,h'.get? e=some o/\o.cls=.type "StopIteration")->E (.ref e) { s with heap:=h' })->wpAny (model P w) A (Builtin.SmallTypes.nextOf (.ref it)) Q E s
theorem ME{P:Program}{w:World}(l:Addr):Ge P w l { cls:=.type "list_iterator",data:=.fields #[.ref l,.int 0 0] } (λh c=>h.IsList l c) (λa i h=>h.IsListIter a l i) where
 start:=λA s c Q E n b=>iI n b
 first:=λa h e=>⟨_,e,rfl,rfl⟩
 atK:=λa i h p x k=>x.at k
 Xe:=λh p c x k=>x.at k
 obj:=λa i h x=>by
  obtain⟨o,j,_,hd⟩:=x;exact⟨o,j,λv z=>by rw[hd]at z;cases z⟩
 item:=λA s a i c x Q E f g d b=>wpAny_nextOf_list_item f g d b
 fin:=λA s a i c Q E m f g d b=>wpAny_nextOf_list_end m f g d b
section
variable{P:Program}{w:World}{A:Around}{E:f3}{s:Shared}
theorem yw{c t:Addr}{i:Nat}{j:Array Value}{x:Value}{Q:f3}(h:s.heap.IsTupleIter c t i)(l:s.heap.IsTuple t j)(m:j[i]?=some x)(k:∀g,g.IsTupleIter c t (i+1)->Heap.SameBut c s.heap g->Q x { s with heap:=g }):wpAny (model P w) A (Builtin.SmallTypes.nextOf (.ref c)) Q E s:=by
 obtain⟨o,b,f,a⟩:=id h;obtain⟨n,d,_,p,e⟩:=l;unfold Builtin.SmallTypes.nextOf;refine ak (wpAny_callSpecial?_slot (name:=Str.ofString "__next__") h.typeIs fY (gP fY h.typeIs kj ?_ (jR _)));show wpAny (model P w) _ (field (.ref c) 0>>=_) _ _ s;refine ak (cD b a (x:=.ref t) rfl ?_);show wpAny (model P w) _ (if(Value.ref t==Value.none)=true then _ else _) _ _ s;rw[ag (by exact bz)];show wpAny (model P w) _ (field (.ref c) 1>>=_) _ _ s;refine ak (cD b a (x:=.int i 0) rfl ?_);show wpAny (model P w) _ (seqItems? (.ref t)>>=_) _ _ s;refine ak (d5 d e ?_);simp only[bJ,m];refine ak (im b a (by simp) (ba ⟨x,rfl,ba (k _ ?_ (Heap.SameBut.update ..))⟩));exact⟨_,fe _ b (gL (eM a _)),(Obj.cls_mapFields ..).trans f,by rw[eM a];simp[rawInt]⟩
theorem zG{d t:Addr}{i:Nat}{l:Array Value}{Q:f3}(k:A.handled=none)(j:s.heap.IsTupleIter d t i)(p:s.heap.IsTuple t l)(q:l[i]?=none)(n:∀h e,Heap.ExtBut d s.heap h->(∃o,h.get? e=some o/\o.cls=.type "StopIteration")->E (.ref e) { s with heap:=h }):wpAny (model P w) A (Builtin.SmallTypes.nextOf (.ref d)) Q E s:=by
 obtain⟨v,c,r,b⟩:=id j;obtain⟨u,f,_,y,g⟩:=p;unfold Builtin.SmallTypes.nextOf;refine ak (wpAny_callSpecial?_slot (name:=Str.ofString "__next__") j.typeIs fY (gP fY j.typeIs kj ?_ (jR _)));show wpAny (model P w) _ (field (.ref d) 0>>=_) _ _ s;refine ak (cD c b (x:=.ref t) rfl ?_);show wpAny (model P w) _ (if(Value.ref t==Value.none)=true then _ else _) _ _ s;rw[ag (by exact bz)];show wpAny (model P w) _ (field (.ref d) 1>>=_) _ _ s;refine ak (cD c b (x:=.int i 0) rfl ?_);show wpAny (model P w) _ (seqItems? (.ref t)>>=_) _ _ s;refine ak (d5 f g ?_);simp only[bJ,q];refine ak (wpAny_rule (ak (im c b (by simp) ?_)));show wpAny (model P w) _ (newExc (.type "StopIteration") []>>=_) _ _ _;refine ak ?_;simp only[newExc,newTuple];refine ak (gF ?_ (by size_fits));refine ak (m:=firstArgMember _ _) (wpAny_of_eq (a:=Value.none) (by first|rfl|(simp only[firstArgMember];rfl)) ?_);refine gF ?_ (by size_fits);simp only[raiseNew];refine ak (wpAny_handled ?_)
 first|rw[show A.in1.handled=none from k]|rw[k]
 refine ak (ba (wpAny_throw ?_));exact n _ _ (((Heap.SameBut.update ..).extBut.push _).push _) ⟨_,bf _ rfl,rfl⟩
end
theorem OE{P:Program}{w:World}(l:Addr):Ge P w l { cls:=.type "tuple_iterator",data:=.fields #[.ref l,.int 0 0] } (λh d=>h.IsTuple l d) (λa i h=>h.IsTupleIter a l i) where
 start:=λA s d Q E n b=>kg n b
 first:=λa h e=>⟨_,e,rfl,rfl⟩
 atK:=λa i h p x k=>let ⟨o,c,r⟩:=x;⟨o,k o c,r⟩
 Xe:=λh p d x k=>let ⟨o,c,r⟩:=x;⟨o,k o c,r⟩
 obj:=λa i h x=>by
  obtain⟨o,c,_,hd⟩:=x;exact⟨o,c,λv z=>by rw[hd]at z;cases z⟩
 item:=λA s a i d x Q E g j f b=>yw g j f b
 fin:=λA s a i d Q E m g j f b=>zG m g j f b
structure ZAp(z TI TO i1 i2 l1 l2:Addr):Prop where
 a1:TI≠z
 a2:TO≠z
 a3:i1≠z
 a4:i2≠z
 a5:TI≠TO
 a6:TI≠i1
 a7:TI≠i2
 a8:TO≠i1
 a9:TO≠i2
 a0:i1≠i2
 b1:l1≠z/\l1≠TO/\l1≠i1/\l1≠i2
 b2:l2≠z/\l2≠TO/\l2≠i1/\l2≠i2
section
variable{P:Program}{w:World}{A:Around}{E:f3}{s:Shared}{p n:Addr}{f i:Obj}{l k:Heap->Array Value->Prop}{m j:Addr->Nat->Heap->Prop}
theorem GL(M:Ge P w p f l m)(I:Ge P w n i k j){z TI TO h g:Addr}{F J:Nat}{T U:Array Value}{x y a b:Value}{Q:f3}(D:ZAp z TI TO h g p n)(C:IsZip s.heap z TI TO .none)(HI:IsPair s.heap TI (.ref h) (.ref g))(V:IsPair s.heap TO a b)(p1:m h F s.heap)(p2:j g J s.heap)(q1:l s.heap T)(q2:k s.heap U)(hx:T[F]?=some x)(hy:U[J]?=some y)(hQ:∀q,IsZip q z TI TO (rawInt s.heap.objs.size)->IsPair q TO x y->m h (F+1) q->j g (J+1) q->IsPair q s.heap.objs.size x y->q.objs.size=s.heap.objs.size+1->(∀c o,c≠z->c≠TO->c≠h->c≠g->s.heap.get? c=some o->q.get? c=some o)->Q (.ref s.heap.objs.size) { s with heap:=q }):wpAny (model P w) A (Builtin.«zip.__next__» ⟨[.ref z],[]⟩) (λfn s'=>∃v,fn=.done (.ret v)/\Q v s') E s:=by
 show wpAny (model P w) _ (field (.ref z) 2>>=_) _ _ _;refine ak (cD C rfl (x:=.bool false) rfl ?_);show wpAny (model P w) _ (field (.ref z) 3>>=_) _ _ _;refine ak (cD C rfl (x:=.ref TI) rfl ?_);refine ak (d5 HI rfl ?_);show wpAny (model P w) _ (Builtin.SmallTypes.ownedTupleIsFree (.ref z)>>=_) _ _ _;refine ak ?_;unfold Builtin.SmallTypes.ownedTupleIsFree;refine ak (cD C rfl (x:=.none) rfl (ba ?_));simp only[if_true];refine ak (wpAny_rule ?_);refine ak (cD C rfl (x:=.ref TO) rfl ?_);refine ak (fI C (by simp) λg1 S r=>?_);replace S:IsZip g1 z TI TO .ellipsis:=S;refine ak ?_;simp only[List.zipIdx_cons,List.zipIdx_nil,mm,List.forIn_nil];refine ak (ak (jV ?_));show wpAny (model P w) _ (Builtin.SmallTypes.nextOf (.ref h)>>=_) _ _ _;refine ak (M.item _ { s with heap:=g1 } h F T x _ _ (M.atK _ _ _ _ p1 λo e=>r.extBut _ _ D.a3 e) (M.Xe _ _ _ q1 λo e=>r.extBut _ _ D.b1.1 e) hx λg2 Z u=>ba ?_);have o2:IsPair g2 TO a b:=u.extBut _ _ D.a8 (r.extBut _ _ D.a2 V);refine ak (d5 o2 rfl ?_);refine ak (jB o2 λg3 X B=>?_);replace X:IsPair g3 TO x b:=X;refine ak (lA (ba ?_));refine ak (ak (jV ?_));show wpAny (model P w) _ (Builtin.SmallTypes.nextOf (.ref g)>>=_) _ _ _;refine ak (I.item _ { s with heap:=g3 } g J U y _ _ (I.atK _ _ _ _ p2 λo e=>B.extBut _ _ D.a9.symm (u.extBut _ _ D.a0.symm (r.extBut _ _ D.a4 e))) (I.Xe _ _ _ q2 λo e=>B.extBut _ _ D.b2.2.1 (u.extBut _ _ D.b2.2.2.1 (r.extBut _ _ D.b2.1 e))) hy λg4 af G=>ba ?_);have o4:IsPair g4 TO x b:=G.extBut _ _ D.a9 X;refine ak (d5 o4 rfl ?_);refine ak (jB o4 λd N L=>?_);replace N:IsPair d TO x y:=N;refine ak (lA (ba (ba ?_)));refine ak (d5 N rfl ?_);refine ak (wpAny_newTuple ?_);have sz:d.objs.size=s.heap.objs.size:=by rw[L.1,G.1,B.1,u.1,r.1]
 have z5:IsZip d z TI TO .ellipsis:=L.extBut _ _ D.a2.symm (G.extBut _ _ D.a4.symm (B.extBut _ _ D.a2.symm (u.extBut _ _ D.a3.symm S)));have k5:∀c o,c≠z->c≠TO->c≠h->c≠g->s.heap.get? c=some o->d.get? c=some o:=λc o t O Y c4 e=>
  L.extBut _ _ O (G.extBut _ _ c4 (B.extBut _ _ O (u.extBut _ _ Y (r.extBut _ _ t e))))
 have ac:m h (F+1) d:=M.atK _ _ _ _ Z λo e=>L.extBut _ _ D.a8.symm (G.extBut _ _ D.a0 (B.extBut _ _ D.a8.symm e));have ab:j g (J+1) d:=I.atK _ _ _ _ af λo e=>L.extBut _ _ D.a9.symm e;have K:z<d.objs.size:=aG z5;show wpAny (model P w) _ (Builtin.SmallTypes.ownedTupleHandOut (.ref z) (.ref d.objs.size)>>=_) _ _ _;refine ak ?_;unfold Builtin.SmallTypes.ownedTupleHandOut;have z6:IsZip (d.push { cls:=.type "tuple",data:=.seq #[x,y] }) z TI TO .ellipsis:=ar _ z5;refine ak (fI z6 (by simp) λg7 z7 W=>?_);replace z7:IsZip g7 z TI TO (rawInt d.objs.size):=z7;refine fI z7 (by simp) λH R e8=>?_;replace R:IsZip H z TI TO (rawInt d.objs.size):=R;have up:∀c o,c≠z->d.get? c=some o->H.get? c=some o:=λc o t e=>e8.extBut _ _ t (W.extBut _ _ t (ar _ e));have t8:IsPair H d.objs.size x y:=e8.extBut _ _ (eW K) (W.extBut _ _ (eW K) (bf _ rfl));have s8:H.objs.size=d.objs.size+1:=by rw[e8.1,W.1,de]
 rw[sz]at R t8 s8;refine ba ⟨_,rfl,?_⟩;show Q (.ref d.objs.size) _;rw[sz];exact hQ H R (up _ _ D.a2 N) (M.atK _ _ _ _ ac λo e=>up _ o D.a3 e) (I.atK _ _ _ _ ab λo e=>up _ o D.a4 e) t8 s8 λc o t O Y c4 e=>up c o t (k5 c o t O Y c4 e)
theorem G5(N:Ge P w p f l m)(U:Ge P w n i k j){z TI TO r C:Addr}{B M:Nat}{y L:Array Value}{a b:Value}{Q:Fin->Shared->Prop}(hh:A.handled=none)(D:ZAp z TI TO r C p n)(F:IsZip s.heap z TI TO .none)(HI:IsPair s.heap TI (.ref r) (.ref C))(O:IsPair s.heap TO a b)(p1:m r B s.heap)(p2:j C M s.heap)(q1:l s.heap y)(q2:k s.heap L)(S:y[B]?=none\/L[M]?=none)(hE:∀Y e,(∀c o,c≠z->c≠TO->c≠r->c≠C->s.heap.get? c=some o->Y.get? c=some o)->(∃o,Y.get? e=some o/\o.cls=.type "StopIteration")->E (.ref e) { s with heap:=Y }):wpAny (model P w) A (Builtin.«zip.__next__» ⟨[.ref z],[]⟩) Q E s:=by
 show wpAny (model P w) _ (field (.ref z) 2>>=_) _ _ _;refine ak (cD F rfl (x:=.bool false) rfl ?_);show wpAny (model P w) _ (field (.ref z) 3>>=_) _ _ _;refine ak (cD F rfl (x:=.ref TI) rfl ?_);refine ak (d5 HI rfl ?_);show wpAny (model P w) _ (Builtin.SmallTypes.ownedTupleIsFree (.ref z)>>=_) _ _ _;refine ak ?_;unfold Builtin.SmallTypes.ownedTupleIsFree;refine ak (cD F rfl (x:=.none) rfl (ba ?_));simp only[if_true];refine ak (wpAny_rule ?_);refine ak (cD F rfl (x:=.ref TO) rfl ?_);refine ak (fI F (by simp) λG K u=>?_);replace K:IsZip G z TI TO .ellipsis:=K;refine ak ?_;simp only[List.zipIdx_cons,List.zipIdx_nil,mm,List.forIn_nil];refine ak (ak (jV ?_));show wpAny (model P w) _ (Builtin.SmallTypes.nextOf (.ref r)>>=_) _ _ _;have I:m r B G:=N.atK _ _ _ _ p1 λo e=>u.extBut _ _ D.a3 e;have H:l G y:=N.Xe _ _ _ q1 λo e=>u.extBut _ _ D.b1.1 e;cases hx:y[B]? with
 | none=>
   refine ak (N.fin _ { s with heap:=G } r B y _ _ hh I H hx λV e q Z=>?_);obtain⟨X,d,g⟩:=Z;have z2:IsZip V z TI TO .ellipsis:=q _ _ D.a3.symm K;have T:e≠z:=λt=>by subst t;rw[z2]at d;cases d;simp at g
   refine fI z2 (by simp) λW _ v=>hE W e (λc o J _ R _ t=>v.extBut _ _ J (q _ _ R (u.extBut _ _ J t))) ⟨X,v.extBut _ _ T d,g⟩
 | some x=>
   have hy:L[M]?=none:=by
    rcases S with h|h
    .rw[hx]at h;cases h
    .exact h
   refine ak (N.item _ { s with heap:=G } r B y x _ _ I H hx λV an q=>ba ?_);have o2:IsPair V TO a b:=q.extBut _ _ D.a8 (u.extBut _ _ D.a2 O);refine ak (d5 o2 rfl ?_);refine ak (jB o2 λW o3 v=>?_);refine ak (lA (ba ?_));refine ak (ak (jV ?_));show wpAny (model P w) _ (Builtin.SmallTypes.nextOf (.ref C)>>=_) _ _ _;refine ak (U.fin _ { s with heap:=W } C M L _ _ hh (U.atK _ _ _ _ p2 λo e=>v.extBut _ _ D.a9.symm (q.extBut _ _ D.a0.symm (u.extBut _ _ D.a4 e))) (U.Xe _ _ _ q2 λo e=>v.extBut _ _ D.b2.2.1 (q.extBut _ _ D.b2.2.2.1 (u.extBut _ _ D.b2.1 e))) hy λg4 e e4 Z=>?_);obtain⟨X,d,g⟩:=Z;have z4:IsZip g4 z TI TO .ellipsis:=e4 _ _ D.a4.symm (v.extBut _ _ D.a2.symm (q.extBut _ _ D.a3.symm K));have T:e≠z:=λt=>by subst t;rw[z4]at d;cases d;simp at g
   refine fI z4 (by simp) λg5 _ e5=>hE g5 e (λc o J c2 R c4 t=>e5.extBut _ _ J (e4 _ _ c4 (v.extBut _ _ c2 (q.extBut _ _ R (u.extBut _ _ J t))))) ⟨X,e5.extBut _ _ T d,g⟩
abbrev zp1(h:Heap)(f i:Obj):Heap:=(h.push f).push i
abbrev zp2(h:Heap)(f i:Obj):Heap:=(zp1 h f i).push { cls:=.type "tuple",data:=.seq #[.ref h.objs.size,.ref (h.push f).objs.size] }
abbrev zp3(h:Heap)(f i:Obj):Heap:=(zp2 h f i).push { cls:=.type "tuple",data:=.seq #[.none,.none] }
abbrev zp4(h:Heap)(f i:Obj):Heap:=(zp3 h f i).push { cls:=.type "zip",data:=.fields #[.none,.bool false,.bool false,.ref (zp1 h f i).objs.size,.ref (zp2 h f i).objs.size] }
theorem Ei(F:∀P w,Ge P w p f l m)(t:∀P w,Ge P w n i k j)(ne:∀h x,k h x->∃o,h.get? n=some o)(c q:Array Value):Meets (Builtin.«zip.__new__» ⟨[.type "zip",.ref p,.ref n],[]⟩) (λ_ R s=>l s.heap c/\k s.heap q/\R (.ok (.ret (.ref (zp3 s.heap f i).objs.size))) { s with heap:=zp4 s.heap f i }):=.of_wp λa w A R s b=>by
 obtain⟨u,g,d,v,os⟩:=s;obtain⟨y,B,r⟩:=b;have C:=sub_zip;have z:l (Shared.heap ⟨u,g,d,v,os⟩) c:=y;have D:k (Shared.heap ⟨u.push f,g,d,v,os⟩) q:=(t a w).Xe _ _ _ B λo e=>ar _ e
 wp_walk using ((F a w).start _ _ _ _ _ z),((t a w).start _ _ _ _ _ D)
 exact⟨_,rfl,r⟩
theorem OV(C:∀P w,Ge P w p f l m)(y:∀P w,Ge P w n i k j)(ne:∀h G,k h G->∃o,h.get? n=some o){t u:Array Value}{Q:f3}(H:l s.heap t)(J:k s.heap u)(h:∀a,IsZip a (s.heap.objs.size+4) (s.heap.objs.size+2) (s.heap.objs.size+3) .none->IsPair a (s.heap.objs.size+2) (.ref s.heap.objs.size) (.ref (s.heap.objs.size+1))->IsPair a (s.heap.objs.size+3) .none .none->m s.heap.objs.size 0 a->j (s.heap.objs.size+1) 0 a->(∀c o,s.heap.get? c=some o->a.get? c=some o)->Q (.ref (s.heap.objs.size+4)) { s with heap:=a })(I:f.isFreed=false)(D:i.isFreed=false):wpAny (model P w) A (call (.type "zip") [.ref p,.ref n]) Q E s:=by
 refine callType_new F.called_zip (by decide) (F.typeCall_zip_2 _ _) (F.newCall_zip_2 _ _) (λb=>F.args_object_init_3 b _ _) F.entry_zip_new (Ei C y ne t u) ⟨H,J,?_⟩;have g:(s.heap.push f).objs.size=s.heap.objs.size+1:=de ..;have d:(zp1 s.heap f i).objs.size=s.heap.objs.size+2:=by rw[de,g]
 have r:(zp2 s.heap f i).objs.size=s.heap.objs.size+3:=by rw[de,d]
 have x:(zp3 s.heap f i).objs.size=s.heap.objs.size+4:=by rw[de,r]
 have q:(zp4 s.heap f i).get? (zp3 s.heap f i).objs.size=some _:=bf _ rfl;have z:(zp4 s.heap f i).get? (zp2 s.heap f i).objs.size=some _:=ar _ (bf _ rfl);have v:(zp4 s.heap f i).get? (zp1 s.heap f i).objs.size=some _:=ar _ (ar _ (bf _ rfl));have B:(zp4 s.heap f i).get? (s.heap.push f).objs.size=some i:=ar _ (ar _ (ar _ (bf _ D)));have K:(zp4 s.heap f i).get? s.heap.objs.size=some f:=ar _ (ar _ (ar _ (ar _ (bf _ I))));show _/\_;rw[d,r,x]at q;rw[g,d]at v;rw[r]at z;rw[g]at B;rw[x];exact⟨⟨_,q,rfl⟩,h _ q v z ((C P w).first _ _ K) ((y P w).first _ _ B) λc o e=>ar _ (ar _ (ar _ (ar _ (ar _ e))))⟩
end
def Ϫ(K:f5):Bool->Hp->Addr->List V->Prop
 | true,H,a,xs=>ξ K H a xs
 | false,H,a,xs=>Ξ K H a xs
def Itz(K:f5)(c d:Bool)(a b:Addr):It:=⟨λi H=>∃e f x y,Ϫ K c H a e/\Ϫ K d H b f/\e[i]?=some x/\f[i]?=some y,λi H v g=>∃p x y,H p=none/\v=.ref p/\g=upd H p (.tup [x,y])/\(∀e,Ϫ K c H a e->e[i]?=some x)/\∀f,Ϫ K d H b f->f[i]?=some y,λi H=>∃e f,Ϫ K c H a e/\Ϫ K d H b f/\(e.length<=i\/f.length<=i)⟩
def S4(a:Addr):Bool->Obj
 | true=>{ cls:=.type "list_iterator",data:=.fields #[.ref a,.int 0 0] }
 | false=>{ cls:=.type "tuple_iterator",data:=.fields #[.ref a,.int 0 0] }
def Lg(a:Addr):Bool->Heap->Array Value->Prop
 | true,h,vs=>h.IsList a vs
 | false,h,vs=>h.IsTuple a vs
def zAt(a:Addr):Bool->Addr->Nat->Heap->Prop
 | true,it,i,h=>h.IsListIter it a i
 | false,it,i,h=>h.IsTupleIter it a i
theorem ke(a:Addr)(c:Bool)(P:Program)(w:World):Ge P w a (S4 a c) (Lg a c) (zAt a c):=by
 cases c
 .exact OE a
 .exact ME a
theorem wZ(a:Addr)(c:Bool):(S4 a c).isFreed=false:=by cases c<;>rfl
theorem ss(a:Addr)(c:Bool)(h:Heap)(b:Array Value)(e:Lg a c h b):∃o,h.get? a=some o:=by
 cases c
 .obtain⟨o,ho,_⟩:=e;exact⟨o,ho⟩
 .obtain⟨o,ho,_⟩:=e;exact⟨o,ho⟩
theorem Inv.WX{X:Cx}{d:gf}{k:St}{H:Hp}{s:Shared}{c:Bool}{a:Addr}{e:List V}(I:Inv X d k H s)(h:Ϫ X.K c H a e):∃b:List Value,Vals e b/\Lg a c s.heap b.toArray:=by
 cases c with
 | true=>
   obtain⟨b,r,i,_⟩:=I.list h;exact⟨b,r,i.isList⟩
 | false=>
   obtain⟨b,r,⟨o,g,j,n,f⟩,_⟩:=I.tuple h;exact⟨b,r,⟨o,g,j,n,f⟩⟩
theorem Inv.Xf{X:Cx}{b:gf}{g:St}{H:Hp}{s:Shared}{c:Bool}{a:Addr}{d e:List V}(I:Inv X b g H s)(h:Ϫ X.K c H a d)(f:Ϫ X.K c H a e):d=e:=by
 cases c with
 | true=>exact I.iO h f
 | false=>exact I.WV h f
theorem QP{P:Program}{w:World}{K:f5}{Z:List Expr}{x1}{We:Pos}(c d:Bool)(a b z TI TO i1 i2:Addr)(D:ZAp z TI TO i1 i2 a b):Turn P w K (.Tuple Z x1 We) (Itz K c d a b) [z,TI,TO,i1,i2] z (λi h=>IsZip h z TI TO .none/\IsPair h TI (.ref i1) (.ref i2)/\(∃u v,IsPair h TO u v)/\zAt a c i1 i h/\zAt b d i2 i h) where
 mem:=by simp
 obj:=λi h t e he=>by
  obtain⟨t1,J,⟨u,v,N⟩,M,L⟩:=t;simp only[ax,dI,or_false]at he;rcases he with rfl|rfl|rfl|rfl|rfl
  .exact⟨_,t1,λv z=>by cases z⟩
  .exact⟨_,J,λv z=>by cases z⟩
  .exact⟨_,N,λv z=>by cases z⟩
  .exact(ke a c P w).obj _ _ _ M
  .exact(ke b d P w).obj _ _ _ L
 keep:=λi h h' t k=>by
  obtain⟨t1,J,⟨u,v,N⟩,M,L⟩:=t;exact⟨k z (by simp) _ t1,k TI (by simp) _ J,⟨u,v,k TO (by simp) _ N⟩,(ke a c P w).atK _ _ _ _ M λo e=>k i1 (by simp) o e,(ke b d P w).atK _ _ _ _ L λo e=>k i2 (by simp) o e⟩
 item:=λX e1 e2 e3 hc i B s σ H E I f t g=>by
  subst e1 e2 e3;obtain⟨t1,J,⟨u,v,N⟩,M,L⟩:=t;obtain⟨xs,ys,x,y,s1,s2,hx,hy⟩:=g;obtain⟨us,r1,q1⟩:=I.WX s1;obtain⟨vs,r2,q2⟩:=I.WX s2;obtain⟨xu,bp,rx⟩:=r1.get hx;obtain⟨yu,a8,ry⟩:=r2.get hy;have U:s.TypeIs (.ref z) "zip":=⟨_,t1,rfl⟩;unfold pyNext;refine ak (wpAny_attempt (wpAny_callSpecial?_slot (name:=Str.ofString "__next__") U jJ (gP jJ U F.entry_zip_next
   (GL (ke a c _ _) (ke b d _ _) D t1 J N M L q1 q2 (x:=xu) (y:=yu) (by simpa using bp) (by simpa using a8) λh' w1 w2 w3 w4 w5 w6 w7=>ba ?_) (F.args_zip_next_1 _))))
  refine⟨_,rfl,wpAny_letOwnedTupleGo_zip w1 λV n1 S=>?_⟩;have G:∀q∈[z,TI,TO,i1,i2],ph X B H q:=f;have av:s.heap.objs.size≠z:=eW (aG t1);have ai:IsPair V s.heap.objs.size xu yu:=S.extBut _ _ av w5;have kp:∀q o,q∉[z,TI,TO,i1,i2]->s.heap.get? q=some o->V.get? q=some o:=λq o j e=>by
   simp only[ax,dI,or_false,not_or]at j;exact S.extBut _ _ j.1 (w7 q o j.1 j.2.2.1 j.2.2.2.1 j.2.2.2.2 e)
  have bt:V.get? TI=some _:=S.extBut _ _ D.a1 (w7 TI _ D.a1 D.a5 D.a6 D.a7 J);have Hn:∀q u,H q=some u->q∉[z,TI,TO,i1,i2]:=λq u e j=>by rw[(G q j).1]at e;cases e
  have C:Inv X B σ H { s with heap:=V }:=by
   refine I.step (g':=s.gens) (d':=s.drawn) (t':=s.toks) (ch:=[z,TI,TO,i1,i2]) (λq j=>⟨(G q j).2.2.2.1,(G q j).2.1,(G q j).2.2.2.2.1,(G q j).2.2.2.2.2⟩) (λq o _ _ j e _=>kp q o j e) (λq o _ _ j e _=>⟨o.slots,kp q o j e⟩) (λ_ _ _ _ n=>n)
    (λq o j e=>⟨o,kp q o j e⟩) (λ_ _ e=>e) (λ_ _ _ e=>e) (λq ps e=>⟨#[],by rw[e];simp⟩) (λm hm=>?_) (λq u e=>?_) I.bare
   .obtain⟨o,es,ep,O,r⟩:=hm;exact⟨o,es,ep,kp _ o (λj=>(G _ j).2.1 rfl) O,r⟩
   .refine(I.ψ q u e).iF (λY v Wn l=>kp Y v ?_ l) (λ_ l=>l) λ_ _ l=>l;rcases Wn with rfl|Wn
    .exact Hn _ u e
    .exact Hn _ _ Wn
  have R:H s.heap.objs.size=none:=I.fresh;have I3:Inv X B σ (upd H s.heap.objs.size (.tup [x,y])) { s with heap:=V }:=by
   refine⟨C.ok,C.os,C.bare,?_,C.loc,C.cell,?_,λn c e=>?_,λp hp=>?_,λq u e=>?_,C.len⟩
   .refine⟨C.base.keep,C.base.slot,λq o e n hx=>?_,C.base.there,λq xs e=>?_,λq o u e=>?_,λq ps e=>?_⟩
    .have lt:q<X.s₀.heap.objs.size:=aG e;rw[aR (aV (aZ lt I.sz))];exact C.base.free q o e n hx
    .have l:=C.base.oR q xs e;rw[aR (λz=>by rw[z,R]at l;cases l)];exact l
    .have l:=C.base.iN q o u e;rw[aR (λz=>by rw[z,R]at l;cases l)];exact l
    .obtain⟨more,l⟩:=C.base.rW q ps e;exact⟨more,by rw[aR (λz=>by rw[z,R]at l;cases l)];exact l⟩
   .rw[aR (aV I.lt)];exact C.free
   .obtain⟨vv,o,O,_⟩:=I.cell n c e;rw[aR (aV (aG O))];exact C.Ϟ n c e
   .obtain⟨k1,k2,k3⟩:=I.pin p hp;rw[aR (aV (aG k1))];exact C.pin p hp
   .by_cases j:q=s.heap.objs.size
    .subst j;rw[ay]at e;cases e;exact⟨by show 2<=sizeLine;decide,[xu,yu],.cons rx (.cons ry .nil),_,ai,rfl,_,rfl⟩
    .rw[aR j]at e;refine(C.ψ q u e).iF (λ_ _ _ l=>l) (λY l=>?_) λY xs l=>?_
     .rw[aR (λz=>by rw[z,R]at l;cases l)];exact l
     .rw[aR (λz=>by rw[z,R]at l;cases l)];exact l
  refine⟨.ref s.heap.objs.size,_,I3,rfl,⟨_,x,y,R,rfl,rfl,λci q=>?_,λaT q=>?_⟩,⟨n1,bt,⟨_,_,S.extBut _ _ D.a2 w2⟩,(ke a c X.prog X.w).atK _ _ _ _ w3 λo e=>S.extBut _ _ D.a3 e,(ke b d X.prog X.w).atK _ _ _ _ w4 λo e=>S.extBut _ _ D.a4 e⟩,λq j=>?_⟩
  .rw[<-I.Xf s1 q];exact hx
  .rw[<-I.Xf s2 q];exact hy
  .have ό:q<s.heap.objs.size:=by
    simp only[ax,dI,or_false]at j;rcases j with rfl|rfl|rfl|rfl|rfl
    .exact aG t1
    .exact aG J
    .exact aG N
    .exact let ⟨o,e,_⟩:=(ke a c X.prog X.w).obj _ _ _ M;aG e
    .exact let ⟨o,e,_⟩:=(ke b d X.prog X.w).obj _ _ _ L;aG e
   rw[aR (aV ό)];exact(G q j).1
 done:=λX e1 e2 e3 hc i B s σ H E I f t g=>by
  subst e1 e2 e3;obtain⟨t1,J,⟨u,v,N⟩,M,L⟩:=t;obtain⟨xs,ys,s1,s2,a9⟩:=g;obtain⟨us,r1,q1⟩:=I.WX s1;obtain⟨vs,r2,q2⟩:=I.WX s2;have G:∀q∈[z,TI,TO,i1,i2],ph X B H q:=f;have hh:X.A.handled=none:=I.ok.hd hc;have U:s.TypeIs (.ref z) "zip":=⟨_,t1,rfl⟩;have a0:us.toArray[i]?=none\/vs.toArray[i]?=none:=by
   rcases a9 with e|e
   .exact .inl (by have:=r1.length;simp;lia)
   .exact .inr (by have:=r2.length;simp;lia)
  unfold pyNext;refine ak (wpAny_attempt (wpAny_callSpecial?_slot (name:=Str.ofString "__next__") U jJ (gP jJ U F.entry_zip_next
   (G5 (ke a c _ _) (ke b d _ _) hh D t1 J N M L q1 q2 a0 λh' e hk he=>?_) (F.args_zip_next_1 _))))
  obtain⟨o,O,aS⟩:=he;refine ak (wpAny_isInstance (T:="StopIteration") (b:=true) ⟨o,O,aS⟩ isSubtype_stop (ba ⟨rfl,?_⟩));have kp:∀q o,q∉[z,TI,TO,i1,i2]->s.heap.get? q=some o->h'.get? q=some o:=λq o j e=>by
   simp only[ax,dI,or_false,not_or]at j;exact hk q o j.1 j.2.2.1 j.2.2.2.1 j.2.2.2.2 e
  have Hn:∀q u,H q=some u->q∉[z,TI,TO,i1,i2]:=λq u e j=>by rw[(G q j).1]at e;cases e
  refine I.step (g':=s.gens) (d':=s.drawn) (t':=s.toks) (ch:=[z,TI,TO,i1,i2]) (λq j=>⟨(G q j).2.2.2.1,(G q j).2.1,(G q j).2.2.2.2.1,(G q j).2.2.2.2.2⟩) (λq o _ _ j e _=>kp q o j e) (λq o _ _ j e _=>⟨o.slots,kp q o j e⟩) (λ_ _ _ _ n=>n)
   (λq o j e=>⟨o,kp q o j e⟩) (λ_ _ e=>e) (λ_ _ _ e=>e) (λq ps e=>⟨#[],by rw[e];simp⟩) (λm hm=>?_) (λq u e=>?_) I.bare
  .obtain⟨o,es,ep,O,r⟩:=hm;exact⟨o,es,ep,kp _ o (λj=>(G _ j).2.1 rfl) O,r⟩
  .refine(I.ψ q u e).iF (λY v Wn l=>kp Y v ?_ l) (λ_ l=>l) λ_ _ l=>l;rcases Wn with rfl|Wn
   .exact Hn _ u e
   .exact Hn _ _ Wn
 self:=λA i s Q E t q=>wpAny_pyIter_zip t.1 q
section
variable{X:Cx}{b:gf}{g:St}{H d:Hp}{s f:Shared}{a:Addr}{o:HO}
theorem Inv.adE(I:Inv X b g H s)(i:Inv X b g d f)(k:s.heap.objs.size<=a)(j:d a=none)(l:Γ X.prog X.w (upd d a o) f.heap a o):Inv X b g (upd d a o) f:=by
 refine⟨i.ok,i.os,i.bare,?_,i.loc,i.cell,?_,λn c e=>?_,λp t=>?_,λq u e=>?_,i.len⟩
 .refine⟨i.base.keep,i.base.slot,λq m e n v=>?_,i.base.there,λq r e=>?_,λq m u e=>?_,λq y e=>?_⟩
  .rw[aR (aV (aZ (aZ (aG e) I.sz) k))];exact i.base.free q m e n v
  .have h:=i.base.oR q r e;rw[aR (λz=>by rw[z,j]at h;cases h)];exact h
  .have h:=i.base.iN q m u e;rw[aR (λz=>by rw[z,j]at h;cases h)];exact h
  .obtain⟨more,h⟩:=i.base.rW q y e;exact⟨more,by rw[aR (λz=>by rw[z,j]at h;cases h)];exact h⟩
 .rw[aR (aV (aZ I.lt k))];exact i.free
 .obtain⟨vv,oc,ho,_⟩:=I.cell n c e;rw[aR (aV (aZ (aG ho) k))];exact i.Ϟ n c e
 .obtain⟨k1,k2,k3⟩:=I.pin p t;rw[aR (aV (aZ (aG k1) k))];exact i.pin p t
 .by_cases hq:q=a
  .subst hq;rw[ay]at e;cases e;exact l
  .rw[aR hq]at e;refine(i.ψ q u e).iF (λ_ _ _ h=>h) (λx h=>?_) λx r h=>?_
   .rw[aR (λz=>by rw[z,j]at h;cases h)];exact h
   .rw[aR (λz=>by rw[z,j]at h;cases h)];exact h
end
theorem Kf:typeLookup (.type "list_reverseiterator") "__len__"=pure none:=by rw[typeLookup_type,builtinLookup_eq_fast];kernel_rfl
theorem O9:typeLookup (.type "list_reverseiterator") "__length_hint__"=pure (some (.builtin "list_reverseiterator.__length_hint__")):=by rw[typeLookup_type,builtinLookup_eq_fast];kernel_rfl
section
variable{P:Program}{w:World}{A:Around}{E:f3}{s:Shared}
theorem ON{f:Addr}{Q:Bool->Shared->Prop}(d:s.TypeIs (.ref f) "list_reverseiterator")(h:Q false s):wpAny (model P w) A (Builtin.List.listLengthHint (.ref f)) Q E s:=by
 unfold Builtin.List.listLengthHint;refine ak (lJ d Kf ?_);refine f8 (λa=>absurd a (by decide)) (λ_=>?_);refine f8 (λa=>absurd a (by decide)) (λ_=>?_);refine ak (lJ d O9 ?_);generalize c:("list_reverseiterator.__length_hint__":String)=e
 wp_delta
 rw[show splitId e=some ("list_reverseiterator","__length_hint__")from by subst c;decide +kernel];subst c;refine ak (wpAny_isInstance (T:="list_reverseiterator") (b:=true) d (by rw[isSubtype_type];kernel_rfl) ?_);refine f8 (λa=>absurd a (by decide)) (λ_=>?_);refine f8 (λ_=>?_) (λa=>absurd (by decide +kernel) a);refine f8 (λa=>absurd a (by decide +kernel)) (λ_=>?_);exact ba h
end
def KP(I l:Addr)(a:Array Value)(i:Nat)(h:Heap):Prop:=i<=a.size/\h.IsRevIter I l ((a.size:Int)-1-(i:Int))/\h.IsList l a
def JD(a:Array Value)(i:Nat)(v:Value):Prop:=a[a.size-1-i]?=some v
section
variable{P:Program}{w:World}{A:Around}{E:f3}{s:Shared}{R:Result->Shared->Prop}
theorem Kc(t:A.handled=none){I l S:Addr}{its:Array Value}{g:Value}{k:Nat}(st:KP I l its 0 s.heap)(ne:l≠I)(m:S≠I)(z:S≠l)(x:its.size<=sizeLine)(B:s.heap.get? S=some { cls:=.type "list",data:=.seq #[] k })(y:∀c d h,Moved [S,I] (λa b=>b=a) s c->c.heap.get? S=some { cls:=.type "list",dict:=none,data:=.seq d h,slots:=#[] }->ItemsOf (JD its) d its.size->R (.ok (.ret g)) c):wpAny (model P w) A.in1 (Builtin.List.listExtendWith (.ref S) (.ref I) g) (λo c=>match o with|.done f=>R (.ok f) c|.again h=>h.quiet=true/\codeAny (model P w) A h R c) (λe c=>R (.error e) c) s:=by
 have W:=(Walks.listRev (prog:=P) (w:=w) (A:=A.in1) t I l ne its).toS;have j:s.TypeIs (.ref I) "list_reverseiterator":=st.2.1.typeIs;unfold Builtin.List.listExtendWith;refine ak (wpAny_typeOf j ?_);have p:Builtin.List.listSameRef (.ref S) (.ref I)=false:=by simp[Builtin.List.listSameRef,m]
 have q:(Value.type "list_reverseiterator" == Value.type "list")=false:=by decide
 have n:(Value.type "list_reverseiterator" == Value.type "tuple")=false:=by decide
 simp only[p,q,n,Bool.or_false,dL,if_false];refine ak (jA st.2.1 ?_);refine ak (gM (ON j ?_));refine f8 (λr=>absurd r (by decide +kernel)) (λ_=>?_);refine ba ⟨plainId_quiet F.plain_extend_loop _,codeAny_extend_loopS W x S (by simp[m,z]) g its.size 0 _ #[] k rfl (bj _) st B (ItemsOf.nil _) λc d h u i v=>?_⟩;exact y c d h u i v
theorem D7(q:A.handled=none){I l:Addr}{its:Array Value}{Q:f3}(st:KP I l its 0 s.heap)(ne:l≠I)(u:its.size<=sizeLine)(y:∀(d:Shared) (a:Array Value) (m:Nat),d.os=s.os->d.gens=s.gens->d.drawn=s.drawn->(∀b o,b≠I->s.heap.get? b=some o->d.heap.get? b=some o)->d.heap.get? s.heap.objs.size=some { cls:=.type "list",dict:=none,data:=.seq a m,slots:=#[] }->ItemsOf (JD its) a its.size->Q (.ref s.heap.objs.size) d):wpAny (model P w) A (call (.type "list") [.ref I]) Q E s:=by
 obtain⟨D,k,_⟩:=id st.2.1;obtain⟨C,hol,_⟩:=id st.2.2;have r:s.heap.objs.size≠I:=eW (aG k);have x:s.heap.objs.size≠l:=eW (aG hol);refine callType_codes (Q₁:=λf c=>f=.ref s.heap.objs.size/\c={ s with heap:=s.heap.push { cls:=.type "list",data:=.seq #[] } }) F.called_list (F.typeCall_list_1 _) F.entry_list_init (code_list_new _ ⟨rfl,rfl⟩) λf c g=>?_;obtain⟨rfl,rfl⟩:=g;have i:(s.heap.push { cls:=.type "list",data:=.seq #[] }).get? s.heap.objs.size=some { cls:=.type "list",data:=.seq #[] }:=bf _ rfl;refine⟨⟨_,i,rfl⟩,F.args_list_init_2 _ _,?_⟩;show wpAny (model P w) A.in1.in1 (do let p <-Builtin.List.listItems (.ref s.heap.objs.size);Builtin.List.listUpdate (.ref s.heap.objs.size) (λ_=>#[]);letGo p.toList.reverse;Builtin.List.listExtendWith (.ref s.heap.objs.size) (.ref I) .none) _ _ _;refine ak ?_;unfold Builtin.List.listItems;refine ak (d5 i rfl (ba ?_));show wpAny (model P w) A.in1.in1 (updateSeq s.heap.objs.size (λ_=>#[])>>=λ_=>letGo (#[]:Array Value).toList.reverse>>=λ_=>Builtin.List.listExtendWith (.ref s.heap.objs.size) (.ref I) .none) _ _ _;refine ak (wpAny_updateSeq i rfl ?_);have B:=fe (Obj.mapSeq (λ_=>(#[]:Array Value))) i rfl;have j:∀b o,s.heap.get? b=some o->((s.heap.push { cls:=.type "list",data:=.seq #[] }).update s.heap.objs.size (Obj.mapSeq (λ_=>(#[]:Array Value)))).get? b=some o:=λb o e=>(dq _ _ (eW (aG e))).trans (ar _ e)
 refine ak (lA ?_);refine Kc (A:=A.in1) q (I:=I) (l:=l) (its:=its) ⟨st.1,st.2.1.at λo e=>j _ o e,st.2.2.at λo e=>j _ o e⟩ ne r x u B λd a m h n t=>?_;refine⟨rfl,y d a m h.os h.gens h.drawn (λb o v e=>h.heap b o (λz=>?_) (j b o e)) n t⟩;simp only[ax,dI,or_false]at z;rcases z with z|z
 .exact absurd (aG e) (by rw[z];exact cU _)
 .exact v z
end
theorem Mo{b a:gn}(h:ItemsOf (JD b.toArray) a.toArray b.toArray.size):a=b.reverse:=by
 obtain⟨e,d⟩:=h;simp only[aM]at e;refine eA λj=>?_;by_cases c:j<a.length
 .have q:=d j a[j] (by simp[c]);unfold JD at q;rw[ao c,cB (by lia)];simp only[aM,List.getElem?_toArray]at q;exact q.symm
 .rw[bI (by lia),bI (by rw[bc];lia)]
section
variable{X:Cx}{e:Expr}{g:TE}{i f d c:Pos}
def Q5(K:f5)(g:TE):TE:=λj H Q=>g j H λx b=>∃a h,x=.ref a/\ξ K b a h/\∀l,b l=none->Q (.ref l) (upd b l (.lst h.reverse))
theorem R7{j:gf}{s:Shared}{o:St}{H:Hp}{R:List Value->Shared->Prop}(E:Gl X "reversed")(D:X.mg "reversed"=none)(J:PE X e g)(I:Inv X j o H s){p:V->Hp->Prop}(h:g o H p)(L:starEach [.Call (.Name "reversed" f) [e] [] c] X.env=[(false,eval (.Call (.Name "reversed" f) [e] [] c) X.env)])(t:starEach [e] X.env=[(false,eval e X.env)])(k:∀l m x a n (b:gn),Inv X j o m l->p x m->x=.ref a->ξ X.K m a n->Vals n b->KP l.heap.objs.size a b.toArray 0 (l.heap.push (revObj a ((b.toArray.size:Int)-1)))->a≠l.heap.objs.size->b.toArray.size<=sizeLine->R [.ref l.heap.objs.size] { l with heap:=l.heap.push (revObj a ((b.toArray.size:Int)-1)) })(C:∀x m,p x m->∃a n,x=.ref a/\ξ X.K m a n):wpAny (model X.prog X.w) X.A (spliced (backTo d (starEach [.Call (.Name "reversed" f) [e] [] c] X.env))) R X.xe s:=by
 rw[L];show wpAny _ _ (spliced ((false,eval (.Call (.Name "reversed" f) [e] [] c) X.env)::backTo d [])) _ _ s;refine gG ?_;refine Call_ (oP I E D boot_reversed (cG ?_ t rfl));rw[t];show wpAny _ _ (spliced ((false,eval e X.env)::backTo c [])) _ _ s;refine gG (dR (J j s o H _ I h) λu l x m z G v=>gQ ?_);obtain⟨a,n,B,r⟩:=C x m v;subst B;cases G;obtain⟨b,y,q,F⟩:=z.list r;have ne:a≠l.heap.objs.size:=aV q.lt;refine call_reversed_list q.isList (gQ ?_);refine k l m _ a n b z v rfl r y ⟨bj _,⟨_,bf _ rfl,rfl,?_⟩,q.isList.push _⟩ ne (by rw[aM,<-y.length];exact F);simp[revObj]
theorem Ro(hc:X.calm=true)(hg:Gl X "reversed")(W:X.mg "reversed"=none)(t:Gl X "list")(w:X.mg "list"=none)(he:PE X e g)(P:starEach [.Call (.Name "reversed" f) [e] [] c] X.env=[(false,eval (.Call (.Name "reversed" f) [e] [] c) X.env)]:=by rfl)(V:starEach [e] X.env=[(false,eval e X.env)]:=by rfl):PE X (.Call (.Name "list" i) [.Call (.Name "reversed" f) [e] [] c] [] d) (Q5 X.K g):=by
 intro j s R H Q I h;refine Call_ (oP I t w boot_list (cG ?_ P rfl));refine R7 hg W he I h P V (λl z x a r k p Y A v G st ne L=>?_) λx z ⟨a,r,A,v,_⟩=>⟨a,r,A,v⟩;obtain⟨a',aT,m,y,q⟩:=Y;rw[A]at m;cases m;have ey:=p.iO v y;subst ey;refine D7 (p.ok.hd hc) st ne L λs' n Z F D O E B By=>?_;obtain⟨S,gs,ds,ts,ae⟩:=s';simp only at F D O E B;subst F D O;obtain⟨N,rfl⟩:∃N:List Value,n=N.toArray:=⟨n.toList,by simp⟩;have U:=Mo By;subst U;have T:∀b u,l.heap.get? b=some u->S.get? b=some u:=λb u J=>E b u (aV (aG J)) (ar _ J);have I2:Inv X j R z { l with heap:=S,toks:=ts }:=p.kept T;have M:(l.heap.push (revObj a ((k.toArray.size:Int)-1))).objs.size=l.heap.objs.size+1:=de ..;rw[M]at B;show EP X j R Q (.ref (l.heap.push (revObj a ((k.toArray.size:Int)-1))).objs.size) _;rw[M];have C:z (l.heap.objs.size+1)=none:=p.ψ.fresh (fE _);refine⟨.ref _,_,p.adE (o:=.lst r.reverse) I2 (fE _) C ⟨?_,k.reverse,Z,G.reverse,B⟩,rfl,q _ C⟩;rw[bc,G.length]
 simpa using L
end
theorem kP{a b:Nat}(h:a<b\/b<a):a≠b:=by lia
theorem UQ(n a b:Nat)(d:a<n)(c:b<n):ZAp (n+4) (n+2) (n+3) n (n+1) a b:=⟨kP (by lia),kP (by lia),kP (by lia),kP (by lia),kP (by lia),kP (by lia),kP (by lia),kP (by lia),kP (by lia),kP (by lia),⟨kP (by lia),kP (by lia),kP (by lia),kP (by lia)⟩,⟨kP (by lia),kP (by lia),kP (by lia),kP (by lia)⟩⟩
section
variable{X:Cx}
def Op(K:f5)(c d:Bool)(j:TA):TI:=λi H R=>j i H λh e=>∃a b,h=[.ref a,.ref b]/\(∃f,Ϫ K c e a f)/\(∃g,Ϫ K d e b g)/\R (Itz K c d a b) e
theorem U7{k:List Expr}{x1}{We:Pos}{ea eb:Expr}{ta:TA}{p pos:Pos}(c d:Bool)(hg:Gl X "zip")(hm:X.mg "zip"=none)(ha:PA X [ea,eb] ta)(hs:starEach [ea,eb] X.env=[(false,eval ea X.env),(false,eval eb X.env)]:=by rfl)(hs2:starEach [eb] X.env=[(false,eval eb X.env)]:=by rfl):PI X (.Tuple k x1 We) (.Call (.Name "zip" p) [ea,eb] [] pos) (Op X.K c d ta):=by
 intro g s P H R I h;refine Call_ (oP I hg hm boot_zip (cG (uh (ha pos g s P H _ I h) λJ f E A j t l=>?_) (by rw[hs,hs2]) (by rw[hs2];rfl)));obtain⟨a,b,e,⟨Q,z⟩,⟨S,N⟩,q⟩:=l;subst e;obtain⟨u,v,rfl,y,L⟩:=Kd t;cases y;cases L;obtain⟨J,t,l⟩:=j.WX z;obtain⟨E,V,w⟩:=j.WX N;obtain⟨U,n⟩:=ss a c _ _ l;obtain⟨T,m⟩:=ss b d _ _ w;have C:=aG n;have G:=aG m;refine OV (ke a c) (ke b d) (ss b d) l w (λW r B O F M x=>?_) (wZ a c) (wZ b d);refine wpAny_pyIter_zip r ?_;have D:=UQ f.heap.objs.size a b C G;refine⟨_,[f.heap.objs.size+4,f.heap.objs.size+2,f.heap.objs.size+3,f.heap.objs.size,f.heap.objs.size+1],_,_,A,rfl,j.kept (t':=f.toks) x,QP c d a b _ _ _ _ _ D,⟨r,B,⟨_,_,O⟩,F,M⟩,λq o=>?_,q⟩;have i:f.heap.objs.size<=q:=by
  simp only[ax,dI,or_false]at o;rcases o with rfl|rfl|rfl|rfl|rfl
  .exact iV _ 4
  .exact iV _ 2
  .exact iV _ 3
  .exact ap _
  .exact iV _ 1
 exact j.YL i (j.ψ.fresh i)
end
end L2
namespace Pb
structure Road where
 a:Int
 b:Int
 t:Int
 u:Int
 deriving DecidableEq
abbrev hH:=List Road
def Mq(m:Int)(c:hH):Prop:=∀S:Int->Prop,S 0->(∀r∈c,(S r.a↔S r.b))->∀v,0<=v->v<m->S v
structure Xg(m:Int)(r:Road):Prop where
 a0:0<=r.a
 a1:r.a<m
 b0:0<=r.b
 b1:r.b<m
 ne:r.a≠r.b
 t0:2<=r.t
 t1:r.t<=1000000
 u0:2<=r.u
 u1:r.u<=1000000
structure Good(m:Int)(rs:hH):Prop where
 m1:1<=m
 Ο:m<=24
 len:(rs.length:Int)=m-1
 ok:∀r∈rs,Xg m r
 jn:Mq m rs
theorem pf{c:Type}[DecidableEq c]:∀{l l':List c},l.Nodup->(∀x∈l,x∈l')->l.length<=l'.length
 | [],_,_,_=>bj _
 | x::r,l',hn,hs=>by
   obtain⟨f,d⟩:=bg.mp hn;have a:x∈l':=hs x aJ;have:r.length<=(l'.erase x).length:=pf d λy b=>(mF (λ(e:y=x)=>f (by rw[<-e];exact b))).mpr (hs y (aH _ b));rw[List.length_erase_of_mem a]at this;have g:0<l'.length:=List.length_pos_of_mem a;rw[aF]
   lia
def b6(n:Nat):List Int:=(List.range n).map λ(k:Nat)=>(k:Int)
theorem dN{n:Nat}{v:Int}:v∈b6 n↔0<=v/\v<n:=by
 unfold b6;rw[aP]
 constructor
 .rintro⟨k,hk,rfl⟩;have:=bU.mp hk
  lia
 .rintro⟨h0,h1⟩;exact⟨v.toNat,bU.mpr (by lia),by lia⟩
theorem b7(n:Nat):(b6 n).length=n:=by simp[b6]
theorem hV(n:Nat):(b6 n).Nodup:=by
 unfold b6;refine List.Pairwise.map _ (λa b h=>?_) (List.nodup_range (n:=n));intro e;exact h (by lia)
theorem fC{m:Int}{l:d2}(c:0<=m)(b:l.Nodup)(h:∀x∈l,0<=x/\x<m):(l.length:Int)<=m:=by
 have:=pf (l':=b6 m.toNat) b λx a=>dN.mpr ⟨(h x a).1,by have:=(h x a).2;lia⟩;rw[b7]at this
 lia
theorem O2{m:Int}{l:d2}(d:0<=m)(h:∀v,0<=v->v<m->v∈l):m<=(l.length:Int):=by
 have:=pf (l:=b6 m.toNat) (l':=l) (hV _) λx a=>by
  obtain⟨b,c⟩:=dN.mp a;exact h x b (by lia)
 rw[b7]at this
 lia
def t7(p:Int)(r:Road):List Int:=(if r.a=p then[r.b]else[])++(if r.b=p then[r.a]else[])
def gi(a:hH)(p:Int):List Int:=a.flatMap (t7 p)
theorem sU{d:hH}{p e:Int}:e∈gi d p↔∃r∈d,(r.a=p/\r.b=e)\/(r.b=p/\r.a=e):=by
 unfold gi t7;rw[dM]
 constructor
 .rintro⟨r,hr,h⟩;refine⟨r,hr,?_⟩;rcases aY.mp h with h|h
  .by_cases c:r.a=p
   .rw[aj c]at h;exact .inl ⟨c,(aI.mp h).symm⟩
   .rw[ag c]at h;cases h
  .by_cases c:r.b=p
   .rw[aj c]at h;exact .inr ⟨c,(aI.mp h).symm⟩
   .rw[ag c]at h;cases h
 .rintro⟨r,hr,h⟩;refine⟨r,hr,aY.mpr ?_⟩;rcases h with⟨h1,h2⟩|⟨h1,h2⟩
  .exact .inl (by rw[aj h1,h2];exact aI.mpr rfl)
  .exact .inr (by rw[aj h1,h2];exact aI.mpr rfl)
theorem EW(e:hH)(p:Int):(gi e p).length<=2*e.length:=by
 unfold gi
 induction e with
 | nil=>simp
 | cons r e ih=>
   rw[bC,aE,aF];have:(t7 p r).length<=2:=by
    unfold t7;rw[aE];by_cases c:r.a=p<;>by_cases d:r.b=p<;>simp[c,d]
   lia
theorem tP(a:hH)(r:Road)(p:Int):gi (a++[r]) p=gi a p++t7 p r:=by
 unfold gi;rw[fJ];simp
def Ay(c:List Int×List Int)(e:Int):List Int×List Int:=if e∈c.1 then c else(c.1++[e],c.2++[e])
structure XD(m:Int)(rs:hH)(ks ws:d2):Prop where
 nd:ks.Nodup
 zero:0∈ks
 Χ:∀k∈ks,0<=k/\k<m
 sub:∀w∈ws,w∈ks
 cl:∀k∈ks,k∉ws->∀e∈gi rs k,e∈ks
 wl:ws.length<=ks.length
theorem Kw{l:d2}{e:Int}(h:l.Nodup)(d:e∉l):(l++[e]).Nodup:=by
 rw[dC];refine⟨h,by simp,λa f b c=>?_⟩;rw[aI.mp c];exact λz=>d (z▸f)
structure Xh(m:Int)(rs:hH)(p:Int)(es ks ws ks0:d2)(n0:Nat):Prop where
 nd:ks.Nodup
 zero:0∈ks
 Χ:∀k∈ks,0<=k/\k<m
 sub:∀w∈ws,w∈ks
 cl:∀k∈ks,k∉ws->k=p\/∀e∈gi rs k,e∈ks
 seen:∀e∈es,e∈ks
 pin:p∈ks
 mu:ks.length+n0=ks0.length+ws.length
 up:ks0.length<=ks.length
 wl:ws.length<=ks.length
theorem Xh.start{m:Int}{b:hH}{ks a:d2}{p:Int}(h:XD m b ks (a++[p])):Xh m b p [] ks a ks a.length where
 nd:=h.nd
 zero:=h.zero
 Χ:=h.Χ
 sub:=λw hw=>h.sub w (bo _ hw)
 cl:=λk hk hw=>by
  by_cases e:k=p
  .exact .inl e
  .exact .inr (h.cl k hk λz=>by
    rcases aY.mp z with z|z
    .exact hw z
    .exact e (aI.mp z))
 seen:=λe c=>by cases c
 pin:=h.sub p (aW _ (aI.mpr rfl))
 mu:=rfl
 up:=ap _
 wl:=by have:=h.wl;rw[aE]at this;simp at this;lia
theorem Xh.step{m:Int}{l:hH}{p:Int}{j d i a:d2}{n:Nat}{e:Int}(h:Xh m l p j d i a n)(q:0<=e)(o:e<m):Xh m l p (j++[e]) (Ay (d,i) e).1 (Ay (d,i) e).2 a n:=by
 unfold Ay;by_cases c:e∈d
 .rw[aj c];refine⟨h.nd,h.zero,h.Χ,h.sub,h.cl,λx b=>?_,h.pin,h.mu,h.up,h.wl⟩;rcases aY.mp b with z|z
  .exact h.seen x z
  .rw[aI.mp z];exact c
 .rw[ag c];dsimp only;refine⟨Kw h.nd c,bo _ h.zero,λk g=>?_,λw f=>?_,λk g f=>?_,λx b=>?_,bo _ h.pin,?_,by have:=h.up;simp;lia,by have:=h.wl;simp;exact this⟩
  .rcases aY.mp g with z|z
   .exact h.Χ k z
   .rw[aI.mp z];exact⟨q,o⟩
  .rcases aY.mp f with z|z
   .exact bo _ (h.sub w z)
   .exact aW _ z
  .rcases aY.mp g with z|z
   .rcases h.cl k z λy=>f (bo _ y)with y|y
    .exact .inl y
    .exact .inr λx b=>bo _ (y x b)
   .exact absurd (aW _ z) f
  .rcases aY.mp b with z|z
   .exact bo _ (h.seen x z)
   .exact aW _ z
  .have:=h.mu;simp only[aE,aF,dU]
   lia
theorem Xh.done{m:Int}{a:hH}{p:Int}{ks c b:d2}{d:Nat}(h:Xh m a p (gi a p) ks c b d):XD m a ks c where
 nd:=h.nd
 zero:=h.zero
 Χ:=h.Χ
 sub:=h.sub
 cl:=λk hk hw=>by
  rcases h.cl k hk hw with z|z
  .rw[z];exact h.seen
  .exact z
 wl:=h.wl
theorem XD.start{m:Int}{a:hH}(b:1<=m):XD m a [0] [0] where
 nd:=by simp
 zero:=by simp
 Χ:=λk hk=>by rw[aI.mp hk];lia
 sub:=λw hw=>hw
 cl:=λk hk hw=>absurd hk hw
 wl:=by simp
theorem XD.all{m:Int}{e:hH}{c:d2}(h:XD m e c [])(f:1<=m)(j:Mq m e):(c.length:Int)=m:=by
 have up:=fC (by lia) h.nd h.Χ;have:∀v,0<=v->v<m->v∈c:=j (λv=>v∈c) h.zero λr d=>by
  constructor
  .intro ha;exact h.cl r.a ha (by simp) r.b (sU.mpr ⟨r,d,.inl ⟨rfl,rfl⟩⟩)
  .intro hb;exact h.cl r.b hb (by simp) r.a (sU.mpr ⟨r,d,.inr ⟨rfl,rfl⟩⟩)
 have:=O2 (by lia) this
 lia
theorem QQ{m:Int}{a:hH}(h:∀r∈a,Xg m r){p e:Int}(c:e∈gi a p):0<=e/\e<m:=by
 obtain⟨r,b,z⟩:=sU.mp c;have k:=h r b;rcases z with⟨_,rfl⟩|⟨_,rfl⟩
 .exact⟨k.b0,k.b1⟩
 .exact⟨k.a0,k.a1⟩
structure Row where
 k:Int
 un:Int
 t:Int
 u:Int
 sw:Int
 sp:Int
structure Ys(r:Row):Prop where
 u0:0<=r.un
 u1:r.un<r.k
 t0:2<=r.t
 t1:r.t<=1000000
 v0:2<=r.u
 v1:r.u<=1000000
 s0:0<=r.sp
 s1:r.sp<r.k
structure Rows(n:Nat)(rows:List Row):Prop where
 len:rows.length=n
 ok:∀(i:Nat)(r:Row),rows[i]?=some r->r.k=(i:Int)+1/\Ys r
structure ϔ(n:Nat)(ls:d2):Prop where
 len:ls.length=n
 nd:ls.Nodup
 all:∀v:Int,0<=v->v<n->v∈ls
 Χ:∀v∈ls,0<=v/\v<n
theorem ϔ.nil:ϔ 0 []:=⟨rfl,by simp,λv a b=>(by lia),λv h=>(by cases h)⟩
theorem sv{a:Type}{l:List a}{k:Nat}{x y:a}:y∈l.take k++x::l.drop k↔y=x\/y∈l:=by
 rw[aY,ax]
 constructor
 .rintro(h|h|h)
  .exact .inr (fU h)
  .exact .inl h
  .exact .inr (b5 h)
 .rintro(h|h)
  .exact .inr (.inl h)
  .rw[<-b8 k l]at h;rcases aY.mp h with z|z
   .exact .inl z
   .exact .inr (.inr z)
theorem ϔ.put{n:Nat}{a:d2}(h:ϔ n a)(k:Nat)(hk:k<=n):ϔ (n+1) (a.take k++(n:Int)::a.drop k) where
 len:=by
  rw[aE,aF,bq,fx,h.len]
  lia
 nd:=by
  have p:(a.take k++(n:Int)::a.drop k).Perm ((n:Int)::a):=by
   refine List.perm_middle.trans ?_;rw[b8]
  refine p.nodup_iff.mpr (bg.mpr ⟨λz=>?_,h.nd⟩);have:=(h.Χ _ z).2
  lia
 all:=λv b c=>by
  rw[sv];by_cases e:v=n
  .exact .inl e
  .exact .inr (h.all v b (by lia))
 Χ:=λv hv=>by
  rcases sv.mp hv with z|z
  .lia
  .have:=h.Χ v z
   lia
def mZ(a:d2)(r:Row):Road:=if r.sw=1 then⟨a.getD r.un.toNat 0,a.getD r.k.toNat 0,r.t,r.u⟩else⟨a.getD r.k.toNat 0,a.getD r.un.toNat 0,r.t,r.u⟩
structure Put(ls:d2)(rows:List Row)(rs:hH):Prop where
 len:rs.length=rows.length
 of:∀r∈rs,∃w∈rows,r=mZ ls w
 to:∀w∈rows,mZ ls w∈rs
theorem Put.nil(a:d2):Put a [] []:=⟨rfl,λr h=>(by cases h),λr h=>(by cases h)⟩
theorem Put.step{c:d2}{a:List Row}{d:hH}(h:Put c a d)(w:Row)(k:Nat):Put c (a++[w]) (d.take k++mZ c w::d.drop k) where
 len:=by
  rw[aE,aF,bq,fx,aE,h.len];simp
  lia
 of:=λr hr=>by
  rcases sv.mp hr with z|z
  .exact⟨w,by simp,z⟩
  .obtain⟨b,hw,e⟩:=h.of r z;exact⟨b,bo _ hw,e⟩
 to:=λb hw=>by
  rw[sv];rcases aY.mp hw with z|z
  .exact .inr (h.to b z)
  .exact .inl (by rw[aI.mp z])
theorem sx{a:d2}{n:Nat}(h:ϔ n a){i:Nat}(b:i<n):a[i]?=some (a.getD i 0):=by
 have:i<a.length:=by rw[h.len];exact b
 simp[List.getD,ao this]
theorem Fm{a:d2}{n:Nat}(h:ϔ n a){i:Nat}(b:i<n):a.getD i 0∈a:=aQ (sx h b)
theorem NP{a:d2}{n:Nat}(h:ϔ n a){i j:Nat}(l:i<n)(g:j<n)(e:a.getD i 0=a.getD j 0):i=j:=by
 have c:i<a.length:=by rw[h.len];exact l
 have b:j<a.length:=by rw[h.len];exact g
 have d:=sx h l;have f:=sx h g;rw[e]at d;have k:a[i]'c=a[j]'b:=by
  rw[ao c]at d;rw[ao b]at f;exact bi (d.trans f.symm)
 have nd:=f6.mp h.nd;rcases iG i j with z|z|z
 .exact absurd k (nd i j c b z)
 .exact z
 .exact absurd k.symm (nd j i b c z)
theorem Rl{n:Nat}{f:d2}{a:List Row}{s:hH}(q:1<=n)(y:n<=24)(L:ϔ n f)(W:Rows (n-1) a)(P:Put f a s):Good n s where
 m1:=by lia
 Ο:=by lia
 len:=by rw[P.len,W.len];lia
 ok:=λr hr=>by
  obtain⟨w,hw,rfl⟩:=P.of r hr;obtain⟨i,b⟩:=cJ hw;obtain⟨ek,ok⟩:=W.ok i w b;have d:i<a.length:=(az.mp b).1;rw[W.len]at d;have hk:w.k.toNat<n:=by lia
  have h:w.un.toNat<n:=by have:=ok.u0;have:=ok.u1;lia
  have l:=L.Χ _ (Fm L hk);have m:=L.Χ _ (Fm L h);have ne:f.getD w.k.toNat 0≠f.getD w.un.toNat 0:=λe=>by
   have:=NP L hk h e;have:=ok.u0;have:=ok.u1
   lia
  unfold mZ;by_cases c:w.sw=1
  .rw[aj c];exact⟨m.1,m.2,l.1,l.2,ne.symm,ok.t0,ok.t1,ok.v0,ok.v1⟩
  .rw[ag c];exact⟨l.1,l.2,m.1,m.2,ne,ok.t0,ok.t1,ok.v0,ok.v1⟩
 jn:=by
  intro S s0 t;have g:∀i:Nat,i<n->(S (f.getD i 0)↔S (f.getD 0 0)):=by
   intro i
   induction i using Nat.strongRecOn with
   | ind i ih=>
     intro b;by_cases z:i=0
     .rw[z]
     .have d:i-1<a.length:=(by rw[W.len];lia);obtain⟨ek,ok⟩:=W.ok (i-1) a[i-1] (ao d);have u:=P.to a[i-1] (dj d);have hr:=t _ u;have hk:(a[i-1]).k.toNat=i:=(by lia);have h:(a[i-1]).un.toNat<i:=(by have:=ok.u0;have:=ok.u1;lia);have p:=ih _ h (by lia);unfold mZ at hr;rw[hk]at hr;by_cases c:(a[i-1]).sw=1
      .rw[aj c]at hr;exact hr.symm.trans p
      .rw[ag c]at hr;exact hr.trans p
  have at_:∀v,0<=v->v<(n:Int)->∃i,i<n/\f.getD i 0=v:=λv o q=>by
   obtain⟨i,b⟩:=cJ (L.all v o q);have d:i<n:=(by have:=(az.mp b).1;rw[L.len]at this;exact this);refine⟨i,d,?_⟩;have:=sx L d;rw[b]at this;exact(bi this).symm
  intro v o hv;obtain⟨i,b,rfl⟩:=at_ v o hv;obtain⟨j,A,x⟩:=at_ 0 (by lia) (by lia);refine(g i b).mpr ((g j A).mp ?_);rw[x];exact s0
def YN(c:hH)(a b:Int):Prop:=∃x∈c,(x.a=a/\x.b=b)\/(x.b=a/\x.a=b)
theorem YN.symm{c:hH}{a b:Int}(h:YN c a b):YN c b a:=by
 obtain⟨x,d,h⟩:=h;rcases h with⟨h1,h2⟩|⟨h1,h2⟩
 .exact⟨x,d,.inr ⟨h2,h1⟩⟩
 .exact⟨x,d,.inl ⟨h2,h1⟩⟩
theorem zE{c:hH}{a b:Int}:b∈gi c a↔YN c a b:=sU
theorem Good.adj{m:Int}{c:hH}(g:Good m c){a b:Int}(h:YN c a b):(0<=a/\a<m)/\(0<=b/\b<m)/\a≠b:=by
 obtain⟨x,d,h⟩:=h;have k:=g.ok x d;rcases h with⟨h1,h2⟩|⟨h1,h2⟩
 .subst h1 h2;exact⟨⟨k.a0,k.a1⟩,⟨k.b0,k.b1⟩,k.ne⟩
 .subst h1 h2;exact⟨⟨k.b0,k.b1⟩,⟨k.a0,k.a1⟩,k.ne.symm⟩
theorem Good.from{m:Int}{d:hH}(g:Good m d){r:Int}(k:0<=r)(e:r<m)(S:Int->Prop)(f:S r)(i:∀x∈d,(S x.a↔S x.b)):∀v,0<=v->v<m->S v:=by
 have c:∀v,0<=v->v<m->(S v↔S 0):=g.jn (λv=>S v↔S 0) Iff.rfl λx j=>by
  have:=i x j;exact⟨λh=>this.symm.trans h,λh=>this.trans h⟩
 intro v a b;exact(c v a b).mpr ((c r k e).mp f)
inductive Ws(rs:hH)(r:Int):Nat->Int->Prop
 | zero:Ws rs r 0 r
 | step {n:Nat} {u v:Int}:Ws rs r n u->YN rs u v->Ws rs r (n+1) v
theorem VD{P:Nat->Prop}:∀n,P n->∃k,P k/\∀j,j<k->¬P j:=by
 intro n
 induction n using Nat.strongRecOn with
 | ind n ih=>
   intro h;by_cases z:∃j,j<n/\P j
   .obtain⟨j,b,a⟩:=z;exact ih j b a
   .exact⟨n,h,λj b a=>z ⟨j,b,a⟩⟩
structure ζ(m:Int)(rs:hH)(r:Int)(par:d3)(dep:fz):Prop where
 root:dep r=0
 up:∀v,0<=v->v<m->v≠r->(0<=par v/\par v<m)/\YN rs v (par v)/\dep (par v)+1=dep v
 road:∀x∈rs,(x.a≠r/\par x.a=x.b)\/(x.b≠r/\par x.b=x.a)
 one:(rs.map λx=>if x.a≠r/\par x.a=x.b then x.a else x.b).Nodup
theorem Sa{n:Nat}{l:List Nat}(b:l.Nodup)(d:l.length=n)(a:∀x∈l,x<n):∀i,i<n->i∈l:=by
 intro i c;by_cases z:i∈l
 .exact z
 .have:=pf (l:=i::l) (l':=List.range n) (bg.mpr ⟨z,b⟩) λx hx=>by
   rcases ax.mp hx with rfl|hx
   .exact bU.mpr c
   .exact bU.mpr (a x hx)
  rw[aF,bD]at this
  lia
theorem B0{m:Int}{s:hH}(g:Good m s){r:Int}(Z:0<=r)(h1:r<m):∃f o,ζ m s r f o:=by
 classical
 have C:∀v,0<=v->v<m->∃n,Ws s r n v:=g.from Z h1 (λv=>∃n,Ws s r n v) ⟨0,.zero⟩ λx hx=>by
  constructor
  .rintro⟨n,d⟩;exact⟨n+1,d.step ⟨x,hx,.inl ⟨rfl,rfl⟩⟩⟩
  .rintro⟨n,d⟩;exact⟨n+1,d.step ⟨x,hx,.inr ⟨rfl,rfl⟩⟩⟩
 have hd:∀v,∃k,(0<=v/\v<m)->Ws s r k v/\∀j,j<k->¬Ws s r j v:=λv=>by
  by_cases z:0<=v/\v<m
  .obtain⟨n,d⟩:=C v z.1 z.2;obtain⟨k,h⟩:=VD (P:=λk=>Ws s r k v) n d;exact⟨k,λ_=>h⟩
  .exact⟨0,λh=>absurd h z⟩
 obtain⟨o,U⟩:∃o:Int->Nat,∀v,0<=v->v<m->Ws s r (o v) v/\∀j,j<o v->¬Ws s r j v:=⟨λv=>(hd v).choose,λv a b=>(hd v).choose_spec ⟨a,b⟩⟩;have dr:o r=0:=by
  have:=(U r Z h1).2 0;by_cases z:o r=0
  .exact z
  .exact absurd Ws.zero (this (by lia))
 have hp:∀v,∃u,(0<=v/\v<m/\v≠r)->YN s v u/\o u+1=o v:=λv=>by
  by_cases z:0<=v/\v<m/\v≠r
  .obtain⟨a,b,c⟩:=z;obtain⟨d,dm⟩:=U v a b;generalize hk:o v=k at d dm;cases d with
   | zero=>exact absurd rfl c
   | @step n u _ d e=>
     refine⟨u,λ_=>⟨e.symm,?_⟩⟩;obtain⟨⟨u0,u1⟩,_⟩:=g.adj e;have l1:o u<=n:=by
      by_cases w:o u<=n
      .exact w
      .exact absurd d ((U u u0 u1).2 n (by lia))
     have l2:¬o u<n:=λw=>dm (o u+1) (by lia) ((U u u0 u1).1.step e)
     lia
  .exact⟨0,λh=>absurd h z⟩
 obtain⟨f,G⟩:∃f:Int->Int,∀v,0<=v->v<m->v≠r->YN s v (f v)/\o (f v)+1=o v:=⟨λv=>(hp v).choose,λv a b c=>(hp v).choose_spec ⟨a,b,c⟩⟩;have hi:∀v,∃i:Nat,(0<=v/\v<m/\v≠r)->∃x,s[i]?=some x/\((x.a=v/\x.b=f v)\/(x.b=v/\x.a=f v)):=λv=>by
  by_cases z:0<=v/\v<m/\v≠r
  .obtain⟨x,hx,h⟩:=(G v z.1 z.2.1 z.2.2).1;obtain⟨i,e⟩:=cJ hx;exact⟨i,λ_=>⟨x,e,h⟩⟩
  .exact⟨0,λh=>absurd h z⟩
 obtain⟨t,N⟩:∃t:Int->Nat,∀v,0<=v->v<m->v≠r->∃x,s[t v]?=some x/\((x.a=v/\x.b=f v)\/(x.b=v/\x.a=f v)):=⟨λv=>(hi v).choose,λv a b c=>(hi v).choose_spec ⟨a,b,c⟩⟩;have X:∀v u,0<=v->v<m->v≠r->0<=u->u<m->u≠r->t v=t u->v=u:=by
  intro v u a b c K I J e;obtain⟨x,hx,h⟩:=N v a b c;obtain⟨y,Q,h'⟩:=N u K I J;rw[e,Q]at hx;cases hx;have T:=(G v a b c).2;have O:=(G u K I J).2;rcases h with⟨p,q⟩|⟨p,q⟩<;>rcases h' with⟨p',q'⟩|⟨p',q'⟩
  .exact p.symm.trans p'
  .exfalso
   have D:v=f u:=p.symm.trans q';have F:u=f v:=p'.symm.trans q;rw[<-D]at O;rw[<-F]at T
   lia
  .exfalso
   have D:v=f u:=p.symm.trans q';have F:u=f v:=p'.symm.trans q;rw[<-D]at O;rw[<-F]at T
   lia
  .exact p.symm.trans p'
 let A:List Int:=(b6 m.toNat).filter λv=>decide (v≠r)
 have H:∀v,v∈A↔(0<=v/\v<m/\v≠r):=λv=>by
  rw[bG,dN,bM]
  constructor
  .rintro⟨⟨a,b⟩,c⟩;exact⟨a,by lia,c⟩
  .rintro⟨a,b,c⟩;exact⟨⟨a,by lia⟩,c⟩
 have nv:A.Nodup:=(hV _).filter _;have lv:A.length=s.length:=by
  have D:(r::A).length<=(b6 m.toNat).length:=pf (bg.mpr ⟨λh=>((H r).mp h).2.2 rfl,nv⟩) λx hx=>by
   rcases ax.mp hx with rfl|hx
   .exact dN.mpr ⟨Z,by lia⟩
   .have:=(H x).mp hx;exact dN.mpr ⟨this.1,by lia⟩
  have F:(b6 m.toNat).length<=(r::A).length:=pf (hV _) λx hx=>by
   have:=dN.mp hx;by_cases z:x=r
   .rw[z];exact aJ
   .exact aH _ ((H x).mpr ⟨this.1,by lia,z⟩)
  rw[b7,aF]at D F;have:=g.len;have:=g.m1
  lia
 have il:(A.map t).Nodup:=by
  have:∀(l:d2),l.Nodup->(∀v∈l,0<=v/\v<m/\v≠r)->(l.map t).Nodup:=by
   intro l
   induction l with
   | nil=>intro _ _;simp
   | cons v l ih=>
     intro hn Y;obtain⟨n1,n2⟩:=bg.mp hn;rw[aq];refine bg.mpr ⟨λz=>?_,ih n2 λu S=>Y u (aH _ S)⟩;obtain⟨u,S,e⟩:=aP.mp z;obtain⟨a,b,c⟩:=Y v aJ;obtain⟨K,I,J⟩:=Y u (aH _ S);exact n1 (X u v K I J a b c e▸S)
  exact this A nv λv E=>(H v).mp E
 have ib:∀i∈A.map t,i<s.length:=λi R=>by
  obtain⟨v,E,rfl⟩:=aP.mp R;obtain⟨a,b,c⟩:=(H v).mp E;obtain⟨x,hx,_⟩:=N v a b c;exact(az.mp hx).1
 have V:=Sa il (by rw[aa,lv]) ib;have B:∀i x,s[i]?=some x->∃v,(0<=v/\v<m/\v≠r)/\t v=i/\((x.a=v/\x.b=f v)\/(x.b=v/\x.a=f v)):=λi x e=>by
  obtain⟨v,E,rfl⟩:=aP.mp (V i (az.mp e).1);obtain⟨a,b,c⟩:=(H v).mp E;obtain⟨y,Q,h⟩:=N v a b c;rw[e]at Q;cases Q;exact⟨v,⟨a,b,c⟩,rfl,h⟩
 have W:∀v,0<=v->v<m->v≠r->f v≠r->f (f v)≠v:=λv a b c J z=>by
  have T:=G v a b c;obtain⟨_,⟨K,I⟩,_⟩:=g.adj T.1;have O:=G (f v) K I J;rw[z]at O
  lia
 have M:∀i x,s[i]?=some x->∃v,(0<=v/\v<m/\v≠r)/\t v=i/\(if x.a≠r/\f x.a=x.b then x.a else x.b)=v:=λi x e=>by
  obtain⟨v,⟨a,b,c⟩,E,h⟩:=B i x e;refine⟨v,⟨a,b,c⟩,E,?_⟩;rcases h with⟨p,q⟩|⟨p,q⟩
  .rw[aj ⟨by rw[p];exact c,by rw[p];exact q.symm⟩];exact p
  .rw[ag]
   .exact p
   .rintro⟨z1,z2⟩;rw[q]at z1 z2;exact W v a b c z1 (z2.trans p)
 refine⟨f,o,dr,λv a b c=>?_,λx hx=>?_,?_⟩
 .obtain⟨p,q⟩:=G v a b c;obtain⟨_,w,_⟩:=g.adj p;exact⟨w,p,q⟩
 .obtain⟨i,e⟩:=cJ hx;obtain⟨v,⟨a,b,c⟩,_,h⟩:=B i x e;rcases h with⟨p,q⟩|⟨p,q⟩
  .exact .inl ⟨by rw[p];exact c,by rw[p];exact q.symm⟩
  .exact .inr ⟨by rw[p];exact c,by rw[p];exact q.symm⟩
 .refine f6.mpr λi j R L lt=>?_;rw[aa]at R L;rw[iT,iT];intro z;obtain⟨v,_,D,k1⟩:=M i s[i] (ao R);obtain⟨u,_,F,k2⟩:=M j s[j] (ao L);rw[k1,k2]at z;rw[z]at D
  lia
theorem Ky{m:Int}{n:hH}(g:Good m n){p:Int}(C:0<=p)(B:p<m):(gi n p).Nodup:=by
 obtain⟨f,u,R⟩:=B0 g C B;have one:=R.one;have ok:=g.ok;have road:=R.road;clear R g
 induction n with
 | nil=>simp[gi]
 | cons x l ih=>
   have o:=ok x aJ;have r:∀y∈l,Xg m y:=λy hy=>ok y (aH _ hy);rw[aq]at one;obtain⟨q,A⟩:=bg.mp one;have k:=ih A r λy hy=>road y (aH _ hy);have e:gi (x::l) p=t7 p x++gi l p:=by unfold gi;rw[bC]
   rw[e];have j:∀y,Xg m y->((y.a≠p/\f y.a=y.b)\/(y.b≠p/\f y.b=y.a))->(y.a=p->(if y.a≠p/\f y.a=y.b then y.a else y.b)=y.b)/\(y.b=p->(if y.a≠p/\f y.a=y.b then y.a else y.b)=y.a):=λy D hy=>by
    constructor
    .intro z;rw[ag (λw=>w.1 z)]
    .intro z;rcases hy with hy|hy
     .rw[aj hy]
     .exact absurd z hy.1
   have t:=j x o (road x aJ);have i:∀e∈gi l p,e∈l.map λy=>if y.a≠p/\f y.a=y.b then y.a else y.b:=λe v=>by
    obtain⟨y,hy,h⟩:=sU.mp v;have s:=j y (r y hy) (road y (aH _ hy));refine aP.mpr ⟨y,hy,?_⟩;rcases h with⟨p1,q1⟩|⟨p1,q1⟩
    .rw[s.1 p1];exact q1
    .rw[s.2 p1];exact q1
   unfold t7;by_cases c:x.a=p
   .have d:¬x.b=p:=λz=>o.ne (c.trans z.symm);rw[aj c,ag d,bH];refine bg.mpr ⟨λz=>q ?_,k⟩;rw[t.1 c];exact i _ z
   .rw[ag c,ga];by_cases d:x.b=p
    .rw[aj d];refine bg.mpr ⟨λz=>q ?_,k⟩;rw[t.2 d];exact i _ z
    .rw[ag d];exact k
def mj(m:Int)(a:hH)(p:Int):List Int:=(b6 m.toNat).filter λq=>decide (q∈gi a p)
theorem tT:∀{l c:d2},l.Perm c->l.Pairwise (·<=·)->c.Pairwise (·<=·)->l=c
 | [],c,p,_,_=>(List.Perm.nil_eq p)
 | a::l,c,p,h,h'=>by
   cases c with
   | nil=>exact absurd p.symm.nil_eq (by simp)
   | cons b r=>
     obtain⟨k,j⟩:=List.pairwise_cons.mp h;obtain⟨d,f⟩:=List.pairwise_cons.mp h';have e:a=b:=by
      have g:a∈b::r:=p.subset aJ;have i:b∈a::l:=p.symm.subset aJ;rcases ax.mp g with z|z
      .exact z
      .rcases ax.mp i with w|w
       .exact w.symm
       .have:=k b w;have:=d a z
        lia
     subst e;rw[tT (List.Perm.cons_inv p) j f]
theorem xC(n:Nat):(b6 n).Pairwise (·<=·):=by
 unfold b6;refine List.Pairwise.map _ (λa b (h:a<b)=>?_) List.pairwise_lt_range
 lia
theorem yI(m:Int)(a:hH)(p:Int):(mj m a p).Pairwise (·<=·):=(xC _).filter _
theorem B3(m:Int)(a:hH)(p:Int):(mj m a p).Nodup:=(hV _).filter _
theorem FN{m:Int}{c:hH}(g:Good m c){p q:Int}:q∈mj m c p↔YN c p q:=by
 unfold mj;rw[bG,bM,zE,dN]
 constructor
 .exact λh=>h.2
 .intro h;obtain⟨_,⟨a,b⟩,_⟩:=g.adj h;exact⟨⟨a,by lia⟩,h⟩
theorem gK:∀{l c:d2},l.Nodup->c.Nodup->(∀x,x∈l↔x∈c)->l.Perm c
 | [],c,_,_,h=>by
   cases c with
   | nil=>exact .nil
   | cons b r=>exact absurd ((h b).mpr aJ) (by simp)
 | a::l,c,n,n',h=>by
   obtain⟨e,f⟩:=bg.mp n;have d:a∈c:=(h a).mp aJ;refine List.Perm.trans (List.Perm.cons a ?_) (List.perm_cons_erase d).symm;refine gK f (n'.erase a) λx=>?_
   constructor
   .intro hx;have ne:x≠a:=λz=>e (z▸hx);exact(mF ne).mpr ((h x).mp (aH _ hx))
   .intro hx;have:x≠a:=λz=>by
     subst z;exact(List.Nodup.not_mem_erase n') hx
    rcases ax.mp ((h x).mpr (List.mem_of_mem_erase hx))with z|z
    .exact absurd z this
    .exact z
theorem Rp{m:Int}{a:hH}(g:Good m a){p:Int}(e:0<=p)(c:p<m){b:d2}(d:b.Perm (gi a p))(f:b.Pairwise (·<=·)):b=mj m a p:=by
 refine tT (d.trans (gK (Ky g e c) (B3 m a p) λx=>?_)) f (yI m a p);rw[FN g,zE]
def iW(a b:Int)(x:Road):Option Int:=if x.a=a/\x.b=b then some x.t else if x.a=b/\x.b=a then some x.u else none
def cP(c:hH)(a b:Int):Option Int:=c.findSome? (iW a b)
theorem ze{e:hH}{a b:Int}:(cP e a b).isSome=true↔YN e a b:=by
 unfold cP;rw[List.findSome?_isSome_iff]
 constructor
 .rintro⟨x,hx,h⟩;unfold iW at h;by_cases c:x.a=a/\x.b=b
  .exact⟨x,hx,.inl c⟩
  .rw[ag c]at h;by_cases d:x.a=b/\x.b=a
   .exact⟨x,hx,.inr ⟨d.2,d.1⟩⟩
   .rw[ag d]at h;cases h
 .rintro⟨x,hx,h⟩;refine⟨x,hx,?_⟩;unfold iW;rcases h with h|h
  .rw[aj h];rfl
  .by_cases c:x.a=a/\x.b=b
   .rw[aj c];rfl
   .rw[ag c,aj ⟨h.2,h.1⟩];rfl
def rX(x:Road)(a b:Int):Prop:=(x.a=a/\x.b=b)\/(x.b=a/\x.a=b)
theorem DJ{m:Int}{d:hH}(g:Good m d){a b:Int}{i j:Nat}{x y:Road}(r:d[i]?=some x)(C:d[j]?=some y)(l:rX x a b)(D:rX y a b):i=j:=by
 obtain⟨⟨t,u⟩,_,_⟩:=g.adj (show YN d a b from⟨x,aQ r,l⟩);obtain⟨c,E,R⟩:=B0 g t u;have e:∀z∈d,rX z a b->(if z.a≠a/\c z.a=z.b then z.a else z.b)=b:=λz A s=>by
  rcases s with⟨p,q⟩|⟨p,q⟩
  .rw[ag (λw=>w.1 p)];exact q
  .rcases R.road z A with w|w
   .rw[aj w];exact q
   .exact absurd p w.1
 have h:=(az.mp r);have f:=(az.mp C);obtain⟨h,v⟩:=h;obtain⟨f,B⟩:=f;have n:=f6.mp R.one;have k:(d.map λz=>if z.a≠a/\c z.a=z.b then z.a else z.b)[i]'(by rw[aa];exact h)=b:=by
  rw[iT];exact e _ (dj h) (v▸l)
 have o:(d.map λz=>if z.a≠a/\c z.a=z.b then z.a else z.b)[j]'(by rw[aa];exact f)=b:=by
  rw[iT];exact e _ (dj f) (B▸D)
 rcases iG i j with z|z|z
 .exact absurd (k.trans o.symm) (n i j _ _ z)
 .exact z
 .exact absurd (o.trans k.symm) (n j i _ _ z)
theorem Kv{a b:Int}{x:Road}(h:¬rX x a b):iW a b x=none:=by
 unfold iW;rw[ag (λz=>h (.inl z)),ag (λz=>h (.inr ⟨z.2,z.1⟩))]
theorem wR{m:Int}{d:hH}(g:Good m d){a b:Int}{i:Nat}{x:Road}(l:d[i]?=some x)(j:rX x a b):cP d a b=iW a b x:=by
 have lt:=(az.mp l);obtain⟨lt,o⟩:=lt;have e:d=d.take i++x::d.drop (i+1):=by rw[<-o,lS,b8]
 have f:cP (d.take i) a b=none:=by
  unfold cP;rw[List.findSome?_eq_none_iff];intro y p;refine Kv λr=>?_;obtain⟨k,h⟩:=cJ p;have n:=(az.mp h).1;rw[bq]at n;rw[iA (by lia)]at h;have:=DJ g h l r j
  lia
 have q:(iW a b x).isSome=true:=by
  unfold iW;rcases j with z|z
  .rw[aj z];rfl
  .by_cases c:x.a=a/\x.b=b
   .rw[aj c];rfl
   .rw[ag c,aj ⟨z.2,z.1⟩];rfl
 obtain⟨v,s⟩:=ft.mp q;have:cP (d.take i++x::d.drop (i+1)) a b=iW a b x:=by
  unfold cP at f ⊢;rw[ju,f,j0,s]
  rfl
 rw[<-e]at this;exact this
theorem Mg{c:hH}{a b:Int}(h:¬YN c a b):cP c a b=none:=by
 cases q:cP c a b with
 | none=>rfl
 | some v=>exact absurd (ze.mp (by rw[q];rfl)) h
theorem Pg{x:Road}(h:x.a≠x.b):iW x.a x.b x=some x.t:=by unfold iW;rw[aj ⟨rfl,rfl⟩]
theorem Qq{x:Road}(h:x.a≠x.b):iW x.b x.a x=some x.u:=by unfold iW;rw[ag (λz=>h z.1),aj ⟨rfl,rfl⟩]
theorem MF{m:Int}{a:hH}(p:Int):mj m a p=(b6 m.toNat).filter λq=>(cP a p q).isSome:=by
 unfold mj
 congr 1
 funext q
 rw[dX,bM,ze,zE]
end Pb
namespace L2
open PySem PySem.Spec PyProof.Rows
def cg(b:Xa):Prop:=∀a H s e c,¬b a H s E0 e c
theorem tN{a:Xa}(q:cg a){X:Cx}:rd a X E0:=λ_ _ _ _ _ _ _ h=>(q _ _ _ _ _ h).elim
structure Df(K:f5)(mg:gw)(x:Str)(st:Stmt)(ps:gy)(f:Addr)(fd:FuncData):Prop where
 F:Ye K x x st f fd
 m:mg x=some (.ref f)
 b:Binds K fd ps []
section
variable{P:Program}{w:World}{K:f5}{c:gw}{a:Heap}{b:Xa}
theorem Ye.Ϙ{x e:Str}{st:Stmt}{f:Addr}{n:FuncData}{N m:gy}{k:Nat}{j:Sp}(F:Ye K x e st f n)(S:η N m (aK st))(l:∀g H Q E,j g H Q E->g.length=m.length)(z:∀(i:Value) (A:Around) (d:List Env) (s:Shared) (H:Hp) (g:List V) (Q:VK) (E:XK),ϋ k (A.deeper (envOfC e (aK st) s.heap.objs.size f i))->j g H Q E->∃t,X7 (rD b P w K c a N e (aK st) f i A d s H E).nox (ip st) t/\t { nx:=λ_ y=>Q .ω y,rt:=Q } (start N g) H):ϓ P w K c a b (k+1) f n m j:=by
 obtain⟨C,B,kV,u,G,J,i,D,I,rfl,p,r⟩:=F.ex;refine Q4 p r S l λA d s H g Q E o v=>?_;obtain⟨t,h,q⟩:=z i A d s H g Q E o v;exact⟨t,h.nox,q⟩
end
structure Zq(sc:Scope)(x:Str):Prop where
 l:sc.names.lookup x=some .local
 d:(x==("__debug__":Str))=false
 c:(x==("__classdict__":Str))=false
structure YQ(sc:Scope)(x:Str):Prop where
 l:sc.names.lookup x=some .cell
 d:(x==("__debug__":Str))=false
 c:(x==("__classdict__":Str))=false
structure Ϝ(sc:Scope)(x:Str):Prop where
 g:sc.names.lookup x=some .globalImplicit
 d:(x==("__debug__":Str))=false
 n:x≠"__name__"
theorem us1{a:gn}(h:a.length=1):∃b,a=[b]:=List.length_eq_one_iff.mp h
theorem us2{a:gn}(h:a.length=2):∃b c,a=[b,c]:=by
 cases a with
 | nil=>cases h
 | cons b t=>
   obtain⟨c,e⟩:=us1 (kR h);subst e;exact⟨b,c,rfl⟩
theorem us3{b:gn}(h:b.length=3):∃c d a,b=[c,d,a]:=by
 cases b with
 | nil=>cases h
 | cons c t=>
   obtain⟨d,a,e⟩:=us2 (kR h);subst e;exact⟨c,d,a,rfl⟩
theorem us4{c:gn}(h:c.length=4):∃d f a b,c=[d,f,a,b]:=by
 cases c with
 | nil=>cases h
 | cons d t=>
   obtain⟨f,a,b,e⟩:=us3 (kR h);subst e;exact⟨d,f,a,b,rfl⟩
theorem us5{d:gn}(h:d.length=5):∃f g a b c,d=[f,g,a,b,c]:=by
 cases d with
 | nil=>cases h
 | cons f t=>
   obtain⟨g,a,b,c,e⟩:=us4 (kR h);subst e;exact⟨f,g,a,b,c,rfl⟩
def nmL(a:Scope)(x:Str):Bool:=decide (a.names.lookup x=some .local)&&!(x==("__debug__":Str))&&!(x==("__classdict__":Str))
def nmC(a:Scope)(x:Str):Bool:=decide (a.names.lookup x=some .cell)&&!(x==("__debug__":Str))&&!(x==("__classdict__":Str))
def nmG(a:Scope)(x:Str):Bool:=decide (a.names.lookup x=some .globalImplicit)&&!(x==("__debug__":Str))&&!decide (x="__name__")
theorem Zq.of{a:Scope}{x:Str}(h:nmL a x=true):Zq a x:=by
 unfold nmL at h;simp only[ce,bM,fW]at h;exact⟨h.1.1,h.1.2,h.2⟩
theorem YQ.of{a:Scope}{x:Str}(h:nmC a x=true):YQ a x:=by
 unfold nmC at h;simp only[ce,bM,fW]at h;exact⟨h.1.1,h.1.2,h.2⟩
theorem Ϝ.of{a:Scope}{x:Str}(h:nmG a x=true):Ϝ a x:=by
 unfold nmG at h;simp only[ce,bM,fW,decide_eq_false_iff_not]at h;exact⟨h.1.1,h.1.2,h.2⟩
def Uh(N b:gy)(a:Scope):Bool:=decide (a.kind=.function)&&!a.isCoroutine&&!a.isGenerator&&decide N.Nodup&&decide (N.take b.length=b)&&(b.all λx=>decide (a.names.lookup x=some .local\/a.names.lookup x=some .cell))&&(a.names.all λy=>decide (y.2≠.free))
theorem η.of{N a:gy}{b:Scope}(h:Uh N a b=true:=by kernel_rfl):η N a b:=by
 unfold Uh at h;simp only[ce,bM,fW,dQ]at h;obtain⟨⟨⟨⟨⟨⟨i,e⟩,d⟩,j⟩,f⟩,g⟩,c⟩:=h;exact⟨i,e,d,j,f,g,c⟩
theorem pvl{X:Cx}(i:Nat){x:Str}{a:Pos}(n:Zq X.env.scope x)(b:X.N[i]?=some x:=by rfl):PE X (.Name x a) (wD i):=FY b (.inl n.l) n.d n.c
theorem pvc{X:Cx}(i:Nat){x:Str}{a:Pos}(n:YQ X.env.scope x)(b:X.N[i]?=some x:=by rfl):PE X (.Name x a) (wD i):=FY b (.inr (.inl n.l)) n.d n.c
theorem Lx{e:Xa}{P:Program}{w:World}{K:f5}{g:gw}{c:Heap}{N:gy}{d:Str}{a:Scope}{f:Addr}{h:Value}{A:Around}{b:List Env}{s:Shared}{H:Hp}{E:XK}:(rD e P w K g c N d a f h A b s H E).K=K:=rfl
theorem DQ(D:Ends)(a:St)(H:Hp):Zf D a H=False:=rfl
theorem Rc(i j:Int):rM (.int i) (.int j)=true:=rfl
theorem Rn(i j:Bool):rM (.bl i) (.bl j)=true:=rfl
theorem RH(i:Int):rM (.int i) .ω=true:=rfl
theorem Sf(i:Int):rM .ω (.int i)=true:=rfl
theorem Sg:rM .ω .ω=true:=rfl
theorem RY(i j:Str):rM (.str i) (.str j)=true:=rfl
theorem WZ{K:f5}{H:Hp}{p:Addr}{a:List V}{i:Int}{v:V}{Q:VK}(h:H p=some (.tup a))(e:ϲ a i=some v)(q:Q v H):Pf K (.ref p) (.int i) H Q:=⟨p,a,i,v,rfl,rfl,Ξ.of h,e,q⟩
theorem Υ{K:f5}{H:Hp}{p:Addr}{a:List V}{i:Int}{v:V}{Q:VK}(h:H p=some (.lst a))(e:ϲ a i=some v)(q:Q v H):zq K (.ref p) (.int i) H Q:=⟨p,a,i,v,rfl,rfl,ξ.of h,e,q⟩
theorem ixS{K:f5}{H:Hp}{p:Addr}{a:List V}{i:Int}{v:V}{Q:VK}(h:ξ K H p a)(e:ϲ a i=some v)(q:Q v H):zq K (.ref p) (.int i) H Q:=⟨p,a,i,v,rfl,rfl,h,e,q⟩
theorem Io{K:f5}{H:Hp}{l:Addr}{a:List V}(h:H l=some (.lst a)):tyV K "list" (.ref l) H:=.inl ⟨rfl,_,ξ.of h⟩
theorem oZ{H:Hp}{l:Addr}{a:List V}{y:V}{Q:VK}(h:H l=some (.lst a))(b:a.length<sizeLine)(q:Q .ω (upd H l (.lst (a++[y])))):Xd (.ref l) [y] H Q:=⟨l,a,y,rfl,rfl,h,b,q⟩
theorem SS{H:Hp}{l:Addr}{a:List V}{i:Int}{y:V}{Q:VK}(h:H l=some (.lst a))(b:0<=i)(d:i<=a.length)(c:a.length<sizeLine)(q:Q .ω (upd H l (.lst (a.take i.toNat++y::a.drop i.toNat)))):Yr (.ref l) [.int i,y] H Q:=⟨l,a,i,y,rfl,rfl,h,b,d,c,q⟩
theorem JI{H:Hp}{l:Addr}{a:List V}{y:V}{Q:VK}(h:H l=some (.lst (a++[y])))(q:Q y (upd H l (.lst a))):ado (.ref l) [] H Q:=⟨l,a++[y],y,rfl,rfl,h,by simp,by rw[List.dropLast_concat];exact q⟩
theorem d4{n:Nat}(h:n<=100000):n<sizeLine:=gm h (by decide)
theorem cm{n:Nat}(h:n<=100000):n<=sizeLine:=i9 (d4 h)
theorem cT{b:Type}{a:List b}{i:Int}{v:b}(c:0<=i)(h:a[i.toNat]?=some v):ϲ a i=some v:=by
 obtain⟨n,rfl⟩:∃n:Nat,i=n:=⟨i.toNat,by lia⟩;exact IH (by simpa using h)
theorem vB{X:Cx}{x:Str}{i:Int}{a:Pos}(b:Gl X x)(c:∃t,X.mg x=some (.int i t))(hd:(x==("__debug__":Str))=false:=by decide):PE X (.Name x a) (tC (.int i)):=by
 obtain⟨t,e⟩:=c;exact Rb b e ⟨t,rfl⟩ hd
def Itx(K:f5):Bool->Addr->It
 | true,a=>Itl K a
 | false,a=>Itt K a
def NL(K:f5)(c:Bool)(e:TE):TI:=λf H R=>e f H λx b=>∃a,x=.ref a/\(∃d,Ϫ K c b a d)/\R (Itx K c a) b
theorem LV{X:Cx}{d l:Expr}{a:TE}(c:Bool)(b:PE X l a):PI X d l (NL X.K c a):=by
 cases c
 .exact uT b
 .exact g6 b
def uP(J:It)(p:Addr)(Q:VK)(g:TG)(o:TT)(q:TE)(h:St)(n:Hp):Prop:=∃W:Nat->Nat->List V->St->Hp->Prop,(∃m,W 0 m [] h n)/\∀i m c f d,W i m c f d->(J.stop i d/\Q (.ref p) d)\/(J.go i d/\∀x k,J.yld i d x k->g x f k λa r=>o a r λb j=>
 if b=true then q a j λy l=>l p=some (.lst c)/\c.length<sizeLine/\∃e,e<m/\W (i+1) e (c++[y]) a (upd l p (.lst (c++[y])))
 else ∃e,e<m/\W (i+1) e c a j)
theorem DK{a:Nat}{d:List Nat}{f:TI}{g:TG}{e:TT}{h:TE}{b:St}{H:Hp}{Q:VK}:JJ a d f g e h b H Q=f b H λJ c=>∀p,c p=none->uP J p Q g e h (mP a d b) (upd c p (.lst [])):=rfl
def rZ(J:It)(D:Ends)(g:TG)(f:TS)(c:St)(H:Hp):Prop:=∃W:Nat->Nat->St->Hp->Prop,(∃m,W 0 m c H)/\∀i m c H,W i m c H->(J.stop i H/\D.nx c H)\/(J.go i H/\∃N:St->Hp->Prop,(∀a b,N a b->∃e,e<m/\W (i+1) e a b)/\∀x b,J.yld i H x b->g x c b λd h=>f { D with nx:=N,ct:=N,bk:=D.nx } d h)
theorem Ig{c:TI}{g:TG}{b:TS}{D:Ends}{a:St}{H:Hp}:Vd c g b D a H=c a H λJ d=>rZ J D g b a d:=rfl
theorem lO{K:f5}{c:Bool}{a p:Addr}{xs:List V}{Q:VK}{g:TG}{v:TT}{w:TE}{o:St}{t:Hp}(k:Nat->List V->St->Hp->Prop)(G:k 0 [] o t)(D:∀i d f H,i<=xs.length->k i d f H->Ϫ K c H a xs)(I:∀(i:Nat) (x:V) (d:List V) (f:St) (H:Hp) (N:List V->St->Hp->Prop),(∀n h l,k (i+1) n h l->N n h l)->xs[i]?=some x->k i d f H->g x f H λj E=>v j E λb u=>
 if b=true then w j u λy A=>A p=some (.lst d)/\d.length<sizeLine/\N (d++[y]) j (upd A p (.lst (d++[y])))else N d j u)(B:∀d f H,k xs.length d f H->Q (.ref p) H):uP (Itx K c a) p Q g v w o t:=by
 refine⟨λi m d f H=>m=xs.length-i/\i<=xs.length/\k i d f H,⟨xs.length,by simp,bj _,G⟩,?_⟩;rintro i m d f H ⟨rfl,F,pv⟩;have q:=D i d f H F pv;by_cases r:i<xs.length
 .refine .inr ⟨?_,λx l y=>?_⟩
  .cases c
   .exact⟨xs,xs[i],q,by simp[r]⟩
   .exact⟨xs,xs[i],q,by simp[r]⟩
  .have e:l=H/\xs[i]?=some x:=by
    cases c
    .exact⟨y.1,y.2 xs q⟩
    .exact⟨y.1,y.2 xs q⟩
   obtain⟨rfl,C⟩:=e;exact I i x d f _ (λn h l=>∃z,z<xs.length-i/\(z=xs.length-(i+1)/\i+1<=xs.length/\k (i+1) n h l)) (λn h l s=>⟨xs.length-(i+1),by lia,rfl,r,s⟩) C pv
 .have e:i=xs.length:=by lia
  subst e;refine .inl ⟨?_,B d f H pv⟩;cases c
  .exact⟨xs,q,ap _⟩
  .exact⟨xs,q,ap _⟩
theorem oC{lo:Int}{n:Nat}{p:Addr}{Q:VK}{g:TG}{t:TT}{u:TE}{l:St}{r:Hp}(h:Nat->List V->St->Hp->Prop)(B:h 0 [] l r)(C:∀(i:Nat) (a:List V) (f:St) (H:Hp) (N:List V->St->Hp->Prop),(∀k c j,h (i+1) k c j->N k c j)->i<n->h i a f H->g (.int (lo+i)) f H λd A=>t d A λb s=>
 if b=true then u d s λy w=>w p=some (.lst a)/\a.length<sizeLine/\N (a++[y]) d (upd w p (.lst (a++[y])))else N a d s)(z:∀a f H,h n a f H->Q (.ref p) H):uP (ZN lo n) p Q g t u l r:=by
 refine⟨λi m a f H=>m=n-i/\i<=n/\h i a f H,⟨n,by simp,bj _,B⟩,?_⟩;rintro i m a f H ⟨rfl,D,pv⟩;by_cases o:i<n
 .refine .inr ⟨o,λx j y=>?_⟩;obtain⟨rfl,rfl⟩:=y;exact C i a f _ (λk c j=>∃v,v<n-i/\(v=n-(i+1)/\i+1<=n/\h (i+1) k c j)) (λk c j q=>⟨n-(i+1),by lia,rfl,o,q⟩) o pv
 .have e:i=n:=by lia
  subst e;exact .inl ⟨ap _,z a f H pv⟩
theorem Tr:bootBuiltins "int"=some (.type "int"):=by decide +kernel
theorem Fo:bootBuiltins "tuple"=some (.type "tuple"):=by decide +kernel
theorem Rq:bootBuiltins "bool"=some (.type "bool"):=by decide +kernel
section
variable{X:Cx}{a b o e:Expr}{k:List Expr}{n i m:TE}{t:TA}{g c j:Pos}{f d:Str}{T q:String}{r:V->List V->Hp->VK->Prop}
theorem B9(K:f5)(h:X.K=K):lm X (.type "tuple") (λu H Q=>∃p s,u=[.ref p]/\((ξ K H p s/\∀l,H l=none->Q (.ref l) (upd H l (.tup s)))\/(Ξ K H p s/\Q (.ref p) H))):=by subst h;exact oU
theorem pi(K:f5)(h:X.K=K):IxR X (zq K):=by subst h;exact bL
theorem Cn(K:f5)(h:X.K=K):IxR X (Pf K):=by subst h;exact jv
end
theorem Av{x:Str}{k:NameKind}:∀{l:List (Str×NameKind)},l.lookup x=some k->∃y,(y,k)∈l
 | [],h=>by simp at h
 | (n,j)::r,h=>by
   rw[cH]at h;cases q:x==n with
   | true=>
     rw[q]at h;cases h;exact⟨n,aJ⟩
   | false=>
     rw[q]at h;obtain⟨y,a⟩:=Av h;exact⟨y,aH _ a⟩
theorem tj{X:Cx}{Nc:gy}{a:Scope}(own:Nat)(hf:∀y∈a.names,y.2≠.free)(hc:∀y∈a.names,y.2≠.cell)(hk:a.kind=.function)(p:∀y∈a.names,y.2=.local->a.names.lookup y.1=some .local)(o:Nc.length=own):ϥ X Nc own [] a [] where
 abz:=closureFor_none hf
 kind:=hk
 Yg:=hc
 names:=p
 cells:=λx c h=>by cases h
 has:=λx h=>by
  have b:∀k,(relabel a X.env).names.lookup x=some k->k≠.cell/\k≠.free:=λk e=>by
   obtain⟨y,j⟩:=Av e;obtain⟨⟨n,k0⟩,f,d⟩:=aP.mp j;have g:=hf _ f;have l:=hc _ f;have m:(k0==NameKind.free)=false:=(by simpa using g);simp only[m,iY,dL,if_false]at d;cases d;exact⟨l,g⟩
  rcases h with h|h
  .exact absurd rfl (b _ h).1
  .exact absurd rfl (b _ h).2
 len:=by simpa using o
 outer:=λi x h=>by
  rw[bI (by lia)]at h;cases h
theorem xp{K:f5}{a:Addr}{xs:List V}{g:TG}{h:TS}{D:Ends}{b:St}{H:Hp}(c:Nat->St->Hp->Prop)(n:c 0 b H)(l:∀i b H,i<=xs.length->c i b H->ξ K H a xs)(o:∀(i:Nat) (x:V) (b:St) (H:Hp) (N:St->Hp->Prop),(∀d f,c (i+1) d f->N d f)->xs[i]?=some x->c i b H->g x b H λe m=>h { D with nx:=N,ct:=N,bk:=D.nx } e m)(j:∀b H,c xs.length b H->D.nx b H):rZ (Itl K a) D g h b H:=Qf c n l (λi x b H k p=>o i x b H (c (i+1)) (λ_ _ z=>z) k p) j
theorem FG{K:f5}{a:Addr}{xs:List V}{g:TG}{h:TS}{D:Ends}{b:St}{H:Hp}(c:Nat->St->Hp->Prop)(n:c 0 b H)(l:∀i b H,i<=xs.length->c i b H->Ξ K H a xs)(o:∀(i:Nat) (x:V) (b:St) (H:Hp) (N:St->Hp->Prop),(∀d f,c (i+1) d f->N d f)->xs[i]?=some x->c i b H->g x b H λe m=>h { D with nx:=N,ct:=N,bk:=D.nx } e m)(j:∀b H,c xs.length b H->D.nx b H):rZ (Itt K a) D g h b H:=B5 c n l (λi x b H k p=>o i x b H (c (i+1)) (λ_ _ z=>z) k p) j
theorem pW{lo:Int}{n:Nat}{g:TG}{f:TS}{D:Ends}{a:St}{H:Hp}(b:Nat->St->Hp->Prop)(l:b 0 a H)(j:∀(i:Nat) (a:St) (H:Hp) (N:St->Hp->Prop),(∀c e,b (i+1) c e->N c e)->i<n->b i a H->g (.int (lo+i)) a H λd k=>f { D with nx:=N,ct:=N,bk:=D.nx } d k)(h:∀a H,b n a H->D.nx a H):rZ (ZN lo n) D g f a H:=Mj b l (λi a H m p=>j i a H (b (i+1)) (λ_ _ z=>z) m p) h
theorem u9{c:TT}{i:TS}{D:Ends}{e:St}{H:Hp}(W:Nat->St->Hp->Prop)(j:Nat)(m:W j e H)(o:∀(n:Nat) (e:St) (H:Hp) (N:St->Hp->Prop),(∀g a d,g<n->W g a d->N a d)->(∀a d,N a d->∃f,f<n/\W f a d)->W n e H->c e H λb h=>if b=true then ∃N:St->Hp->Prop,(∀a d,N a d->∃f,f<n/\W f a d)/\i { D with nx:=N,ct:=N,bk:=D.nx } e h else D.nx e h):Ff c i D e H:=⟨W,⟨j,m⟩,λn e H w=>o n e H (λa d=>∃f,f<n/\W f a d) (λg _ _ l k=>⟨g,l,k⟩) (λ_ _ z=>z) w⟩
theorem xR{a:Int}{n:Nat}(h:a.natAbs<2^n):Builtin.Int.intBits a<=n:=by
 unfold Builtin.Int.intBits;by_cases z:a=0
 .subst z;simp
 .have hz:(a==0)=false:=by simpa using z
  rw[hz];simp only[dL,if_false];have:=(Nat.log2_lt (by lia)).mpr h
  lia
theorem Sx{a b:Int}(d:a.natAbs<2^4000)(c:b.natAbs<2^4000):IntMulOk a b:=IntMulOk.of_bits (aL (xR d) (by decide)) (aL (xR c) (by decide))
open Pb
def lu(r:Road):List V:=[.int r.a,.int r.b,.int r.t,.int r.u]
abbrev ν(H:Hp):List Addr->List Road->Prop:=Paired λp r=>H p=some (.tup (lu r))
theorem ν.same{H c:Hp}(e:δ H c){a:gg}{b:hH}(h:ν H a b):ν c a b:=Paired.imp' (λp r q=>e p _ q) h
theorem ν.get{H:Hp}:∀{c:gg}{d:hH}{i:Nat}{x:V},ν H c d->(c.map V.ref)[i]?=some x->∃p r,x=.ref p/\c[i]?=some p/\d[i]?=some r/\H p=some (.tup (lu r))
 | _,_,i,x,.nil,e=>by simp at e
 | _,_,0,x,.cons (a:=p) (b:=r) h hs,e=>⟨p,r,by simpa using e.symm,by simp,by simp,h⟩
 | a::l1,_,i+1,x,.cons h hs,e=>by
   have k:(List.map V.ref l1)[i]?=some x:=by simpa using e
   obtain⟨p,r,g,j,f,l⟩:=ν.get hs k;exact⟨p,r,g,by simpa using j,by simpa using f,l⟩
theorem δ.tup{K:f5}{H b:Hp}{a:Addr}{xs:List V}(e:δ H b)(h:Ξ K H a xs):Ξ K b a xs:=by
 rcases h with(h|⟨o,h⟩)|h
 .exact .inl (.inl (e _ _ h))
 .exact .inl (.inr ⟨o,e _ _ h⟩)
 .exact .inr h
theorem δ.WX{K:f5}{H d:Hp}{c:Bool}{a:Addr}{b:List V}(e:δ H d)(h:Ϫ K c H a b):Ϫ K c d a b:=by
 cases c
 .exact δ.tup e h
 .exact δ.seq e h
theorem δ.new{H:Hp}{p:Addr}(o:HO)(h:H p=none):δ H (upd H p o):=λb u e=>by rw[aR (cq e h)];exact e
end L2
namespace L2
open PySem PySem.Spec PyProof.Rows
abbrev bmV:List Value:=[.type "ValueError",.type "Exception",.type "BaseException",.type "object"]
def pZ(h:Heap)(e:Addr)(cls:Value)(d:Option Addr)(a:Value):Prop:=∃b c,h.get? e=some b/\b.cls=cls/\b.dict=d/\b.data=.fields c/\c[1]?=some a/\c[2]?=some .none
def TbO(h:Heap)(T:Addr)(c:Value):Prop:=∃b a,h.get? T=some b/\b.data=.fields a/\a[3]?=some c
structure ZR(h:Heap)(ea T:Addr)(cls:Value)(od:Option Addr)(fl:Value):Prop where
 e:pZ h ea cls od (.ref T)
 t:TbO h T fl
 ne:T≠ea
structure Kept(fs xs:gg)(h h':Heap):Prop where
 keep:∀b o,h.get? b=some o->b∉fs->b∉xs->h'.get? b=some o
 slot:∀b o,h.get? b=some o->b∈fs->b∉xs->∃sl,h'.get? b=some { o with slots:=sl }
 there:∀b o,h.get? b=some o->∃o',h'.get? b=some o'
theorem Kept.mono{d a c:gg}{h g:Heap}(k:Kept d a h g)(s:∀b∈a,b∈c):Kept d c h g:=⟨λb o e f x=>k.keep b o e f λz=>x (s b z),λb o e f x=>k.slot b o e f λz=>x (s b z),k.there⟩
theorem Kept.trans{g d:gg}{h k j:Heap}(a:Kept g d h k)(b:Kept g d k j):Kept g d h j where
 keep:=λc o e f x=>b.keep c o (a.keep c o e f x) f x
 slot:=λc o e f x=>by
  obtain⟨s1,i⟩:=a.slot c o e f x;obtain⟨l,m⟩:=b.slot c _ i f x;exact⟨l,m⟩
 there:=λc o e=>by
  obtain⟨n,i⟩:=a.there c o e;exact b.there c n i
theorem Kept.abG{d c:gg}{h a:Heap}(k:∀b o,h.get? b=some o->a.get? b=some o):Kept d c h a:=⟨λb o e _ _=>k b o e,λb o e _ _=>⟨o.slots,k b o e⟩,λb o e=>⟨o,k b o e⟩⟩
theorem zF{g d:gg}{h:Heap}{a:Addr}{f:Obj}{k:Array Value}{i:Nat}{v:Value}(m:h.get? a=some f)(j:f.data=.fields k)(l:a∈d):Kept g d h (h.update a (Obj.mapFields (·.setIfInBounds i v))):=by
 have c:∀b o,h.get? b=some o->b∉d->(h.update a (Obj.mapFields (·.setIfInBounds i v))).get? b=some o:=λb o e x=>by
  rw[dq _ _ (λ(z:a=b)=>x (z▸l))];exact e
 refine⟨λb o e _ x=>c b o e x,λb o e _ x=>⟨o.slots,c b o e x⟩,λb o e=>?_⟩;by_cases z:b=a
 .subst z;exact⟨_,fe _ m (gL (eM j _))⟩
 .rw[dq _ _ (Ne.symm z)];exact⟨o,e⟩
theorem Nn{h:Heap}{b:Addr}{a i v:Value}{g:Option Addr}(e:pZ h b a g i):pZ (h.update b (Obj.mapFields (·.setIfInBounds 1 v))) b a g v:=by
 obtain⟨q,k,r,j,m,f,l,o⟩:=e;have n:1<k.size:=(f7.mp l).1;refine⟨_,_,fe _ r (gL (eM f _)),?_,?_,eM f _,by simp[n],by rw[Array.getElem?_setIfInBounds_ne (by decide)];exact o⟩
 .rw[<-j];exact Obj.cls_mapFields _ _
 .rw[<-m];obtain⟨c,d,p,s⟩:=q;cases p<;>rfl
theorem Ao{h:Heap}{c a:Addr}{b g:Value}{d:Option Addr}{f:Obj->Obj}(e:pZ h c b d g)(ne:a≠c):pZ (h.update a f) c b d g:=by
 obtain⟨i,k,l,j⟩:=e;exact⟨i,k,by rw[dq _ _ ne];exact l,j⟩
theorem DM{h f:Heap}{b:Addr}{a d:Value}{c:Option Addr}(e:pZ h b a c d)(k:∀o,h.get? b=some o->f.get? b=some o):pZ f b a c d:=by
 obtain⟨g,j,l,i⟩:=e;exact⟨g,j,k _ l,i⟩
theorem M0{h a:Heap}{d:Addr}{b i:Value}{g:Option Addr}{l:List Env}(e:pZ h d b g i)(f:h.FunFrames a l):d∉ϭ l:=λz=>by
 obtain⟨p,j,k,_,_,m,_⟩:=e;obtain⟨_,o,c,n⟩:=f.mem z;rw[k]at c;cases c;exact n j m
theorem Nm{h a:Heap}{T:Addr}{c:Value}{l:List Env}(e:TbO h T c)(f:h.FunFrames a l):T∉ϭ l:=λz=>by
 obtain⟨k,d,g,i,_⟩:=e;obtain⟨_,o,b,j⟩:=f.mem z;rw[g]at b;cases b;exact j d i
section
variable{M:Model}{A:Around}{E:f3}{s:Shared}{Q:Unit->Shared->Prop}{fs:gg}{i T L:Addr}{g l k:Value}{j:Option Addr}{base:Heap}{d:Env}{c:List Env}
theorem IU(r:ZR s.heap i T g j l)(h:∀b,ZR b i T g j .none->Kept fs [T] s.heap b->Q () { s with heap:=b }):wpAny M A (setFlight (.ref i) none) Q E s:=by
 obtain⟨⟨q,w,n,v,t,o,m,x⟩,⟨y,u,e,a,p⟩,ne⟩:=r;have f:3<u.size:=(f7.mp p).1;unfold setFlight;refine ak (cD n o m ?_);rw[aj (by simp:(Value.ref T != Value.none)=true)];refine im e a f (h _ ⟨Ao ⟨q,w,n,v,t,o,m,x⟩ ne,⟨_,_,fe _ e (gL (eM a _)),eM a _,by simp[f]⟩,ne⟩ (zF e a (by simp)))
theorem Fh{m:Value}{v:Bool}(u:A.frames=some (d::c))(F:s.heap.FunFrames base (d::c))(I:d.frame=some L)(r:pZ s.heap i g j k)(h:∀w C,ZR w i C g j (rawInt L)->Kept (ϭ (d::c)) [i] s.heap w->s.heap.get? C=none->Q () { s with heap:=w }):wpAny M A (do let a <-frameOf d;let p <-entryPlaceOf L v;let b <-EntryCells.newEntry m a .none (rawInt L) .none p;setField (.ref i) 1 b) Q E s:=by
 have N:=M0 r F;refine ak (wpAny_frameOf_fun u F I λn q=>ak (wpAny_entryPlaceOf λp K=>?_));unfold EntryCells.newEntry newFields;refine ak (gF ?_ (K.sizeOk5 _ _ _ _ _));have D:pZ n i g j k:=DM r λo e=>(q.2.1 i N).trans e;generalize B:({ cls:=.type "traceback",dict:=none,data:=.fields ([m,.ref L,.none,rawInt L,.none]++(if p.isEmpty then List.replicate 6 Value.none else p)).toArray }:Obj)=t;have G:pZ (n.push t) i g j k:=DM D λo e=>ar _ e;obtain⟨V,S,y,O,U,x,J,R⟩:=id G;have lt:i<n.objs.size:=by
  obtain⟨_,_,e,_⟩:=D;exact aG e
 have H:(n.push t).get? n.objs.size=some t:=bf n (by rw[<-B];rfl);refine im y x (f7.mp J).1 (h _ n.objs.size ⟨Nn G,⟨t,([m,.ref L,.none,rawInt L,.none]++(if p.isEmpty then List.replicate 6 Value.none else p)).toArray,?_,by rw[<-B],by simp⟩,eW lt⟩ ?_ ?_)
 .rw[dq _ _ (aV lt)];exact H
 .have k1:Kept (ϭ (d::c)) [i] s.heap n:=⟨λb o e f _=>(q.2.1 b f).trans e,λb o e _ _=>q.2.2 b o e,λb o e=>by
   obtain⟨P,z⟩:=q.2.2 b o e;exact⟨_,z⟩⟩
  exact k1.trans ((Kept.abG λb o e=>ar _ e).trans (zF y x (by simp)))
 .exact Heap.get?_none_of_le (by rw[q.1];exact ap _)
theorem PB(b:A.frames=some (d::c))(p:s.heap.FunFrames base (d::c))(f:d.frame=some L)(r:pZ s.heap i g j .none)(h:∀a e,ZR a i e g j (rawInt L)->Kept (ϭ (d::c)) [i] s.heap a->s.heap.get? e=none->Q () { s with heap:=a }):wpAny M A (noteFrame (.ref i) d) Q E s:=by
 obtain⟨q,v,m,u,w,o,n,t⟩:=id r;unfold noteFrame;simp only[f];refine ak (cD m o n ?_);rw[ag (by decide)];exact Fh b p f r h
theorem R0(u:A.frames=some (d::c))(y:s.heap.FunFrames base (d::c))(x:d.frame=some L)(r:ZR s.heap i T g j .none)(h:∀f a,ZR f i a g j (rawInt L)->Kept (ϭ (d::c)) [i,T] s.heap f->s.heap.get? a=none->Q () { s with heap:=f }):wpAny M A (noteFrame (.ref i) d) Q E s:=by
 have S:=Nm r.t y;obtain⟨⟨R,N,C,J,P,B,F,K⟩,⟨U,G,m,p,v⟩,ne⟩:=id r;unfold noteFrame;simp only[x];refine ak (cD C B F ?_);rw[aj (by simp:(Value.ref T != Value.none)=true)];refine ak (cD m p v ?_);rw[ag (by simp[rawInt])];have w:Kept (ϭ (d::c)) [i,T] s.heap (s.heap.update T (Obj.mapFields (·.setIfInBounds 3 Value.none))):=zF m p (by simp);refine ak (im m p (f7.mp v).1 ?_);refine Fh u (y.of_keeps λb o e H=>⟨o,?_,rfl⟩) x (Ao r.e ne) λf a I D n=>h f a I (w.trans (D.mono (by simp))) ?_
 .by_cases z:b=T
  .subst z;rw[m]at e;cases e;exact absurd p (H G)
  .rw[dq _ _ (Ne.symm z)];exact e
 .cases q:s.heap.get? a with
  | none=>rfl
  | some o=>
    obtain⟨O,z⟩:=w.there a o q;rw[z]at n;cases n
theorem MR(m:A.frames=some (d::c))(z:s.heap.FunFrames base (d::c))(w:d.frame=some L)(r:pZ s.heap i g j .none)(h:∀q t,ZR q i t g j .none->Kept (ϭ (d::c)) [i] s.heap q->s.heap.get? t=none->Q () { s with heap:=q }):wpAny M A (leaving d (.ref i)) Q E s:=by
 unfold leaving;refine ak (PB m z w r λD B y a n=>IU (fs:=ϭ (d::c)) (s:={ s with heap:=D }) y λv C p=>h v B C ⟨λb o e f x=>p.keep b o (a.keep b o e f x) f ?_,λb o e f x=>?_,λb o e=>?_⟩ n)
 .simp only[aI];rintro rfl;rw[n]at e;cases e
 .obtain⟨s1,e1⟩:=a.slot b o e f x;obtain⟨F,u⟩:=p.slot b _ e1 f (by
   simp only[aI];rintro rfl;rw[n]at e;cases e)
  exact⟨F,u⟩
 .obtain⟨o1,e1⟩:=a.there b o e;exact p.there b o1 e1
theorem QI(m:A.frames=some (d::c))(z:s.heap.FunFrames base (d::c))(w:d.frame=some L)(r:ZR s.heap i T g j .none)(h:∀q t,ZR q i t g j .none->Kept (ϭ (d::c)) [i,T] s.heap q->s.heap.get? t=none->Q () { s with heap:=q }):wpAny M A (leaving d (.ref i)) Q E s:=by
 unfold leaving;refine ak (R0 m z w r λD B y a n=>IU (fs:=ϭ (d::c)) (s:={ s with heap:=D }) y λv C p=>h v B C ⟨λb o e f x=>p.keep b o (a.keep b o e f x) f ?_,λb o e f x=>?_,λb o e=>?_⟩ n)
 .simp only[aI];rintro rfl;rw[n]at e;cases e
 .obtain⟨s1,e1⟩:=a.slot b o e f x;obtain⟨F,u⟩:=p.slot b _ e1 f (by
   simp only[aI];rintro rfl;rw[n]at e;cases e)
  exact⟨F,u⟩
 .obtain⟨o1,e1⟩:=a.there b o e;exact p.there b o1 e1
end
def Ε(P:Program)(w:World):Xa:=λa H s E e d=>∃(f T:Addr)(b:Value)(g:Option Addr)(c:Hp),e=.ref f/\d.os=s.os/\AllBare d.gens/\Un (ϭ a) [] H c s.heap d.heap/\Ϭ P w c d.heap/\c f=none/\c T=none/\s.heap.get? f=none/\s.heap.get? T=none/\ZR d.heap f T b g .none/\E b g c
theorem bW{P:Program}{w:World}:cg (Ε P w):=λa H s e b h=>by
 obtain⟨_,_,_,_,_,_,_,_,_,_,_,_,_,_,_,z⟩:=h;exact z
theorem F1{P:Program}{w:World}{H:Hp}{h g:Heap}{d c:gg}(x:Ϭ P w H h)(k:Kept d c h g)(f:∀b∈d,H b=none)(u:∀b∈c,H b=none):Ϭ P w H g:=λa o e=>by
 refine(x a o e).iF (λb i hb q=>k.keep b i q ?_ ?_) (λ_ q=>q) λ_ _ q=>q
 .intro z;rcases hb with rfl|hb
  .rw[f _ z]at e;cases e
  .rw[f _ z]at hb;cases hb
 .intro z;rcases hb with rfl|hb
  .rw[u _ z]at e;cases e
  .rw[u _ z]at hb;cases hb
theorem Kt{P:Program}{w:World}{H:Hp}{h:Heap}{b:Addr}(x:Ϭ P w H h)(n:h.get? b=none):H b=none:=by
 cases q:H b with
 | none=>rfl
 | some o=>
   have lt:=x.lt q;cases z:h.get? b with
   | some o'=>rw[z]at n;cases n
   | none=>
     exfalso
     have:=(x b o q);cases o with
     | lst xs=>obtain⟨_,_,_,_,e⟩:=this;rw[n]at e;cases e
     | tup xs=>obtain⟨_,_,_,a,e,_⟩:=this;rw[n]at e;cases e
     | dK θ=>obtain⟨_,_,_,_,a,_,_,e,_⟩:=this;rw[n]at e;cases e
     | dT θ=>obtain⟨_,_,_,_,a,_,_,e,_⟩:=this;rw[n]at e;cases e
     | set S m=>obtain⟨a,_,_,_,e,_⟩:=this;rw[n]at e;cases e
     | ins C dx fs=>obtain⟨_,_,_,e,_⟩:=this;rw[n]at e;cases e
     | own y=>obtain⟨_,e⟩:=this;rw[n]at e;cases e
     | xd fs=>obtain⟨_,⟨_,_,_,e,_⟩,_⟩:=this;rw[n]at e;cases e
     | Χ lo hi=>obtain⟨_,_,_,e⟩:=this;rw[n]at e;cases e
     | X2 a u=>obtain⟨e,_⟩:=this;rw[n]at e;cases e
     | tbl ps=>have e:h.get? b=some _:=this;rw[n]at e;cases e
     | met f y=>have e:h.get? b=some _:=this;rw[n]at e;cases e
     | ext φ=>obtain⟨_,⟨_,e⟩,_⟩:=this;rw[n]at e;cases e
section
variable{P:Program}{w:World}{K:f5}{i:gw}{base:Heap}{N:gy}{d:Str}{c:Scope}{f:Addr}{g:Value}{A:Around}{a:List Env}{s:Shared}{H:Hp}{E:XK}
theorem FW{v:Xa}{j:gf}{B:St}{r:Hp}{t:Shared}{u:Heap}{q:gg}(J:Inv (rD v P w K i base N d c f g A a s H E) j B r t)(k:Kept (ϭ (envOfC d c s.heap.objs.size f g::a)) q t.heap u)(x:∀b∈q,s.heap.get? b=none):Un (ϭ a) [] H r s.heap u:=by
 have h:Un (ϭ a) [] H r s.heap t.heap:=J.base;have nl:∀b o,s.heap.get? b=some o->b∉q:=λb o e z=>by rw[x b z]at e;cases e
 have y:∀b o,s.heap.get? b=some o->b∉ϭ a->b∉ϭ (envOfC d c s.heap.objs.size f g::a):=λb o e z m=>by
  unfold ϭ at m z;rw[ir]at m;have:(envOfC d c s.heap.objs.size f g).frame=some s.heap.objs.size:=rfl;rw[this]at m;rcases ax.mp m with m|m
  .exact absurd (aG e) (by rw[m];exact cU _)
  .exact z m
 refine⟨λb o e n p l=>k.keep b o (h.keep b o e n p l) (y b o e p) (nl b o e),λb o e n p l=>?_,h.free,λb o e l=>?_,h.oR,h.iN,h.rW⟩
 .obtain⟨sl,e1⟩:=h.slot b o e n p l;by_cases m:b∈ϭ (envOfC d c s.heap.objs.size f g::a)
  .obtain⟨s2,e2⟩:=k.slot b _ e1 m (nl b o e);exact⟨s2,e2⟩
  .exact⟨sl,k.keep b _ e1 m (nl b o e)⟩
 .obtain⟨o1,e1⟩:=h.there b o e l;exact k.there b o1 e1
theorem qG{m:Xa}{h:gf}{l:St}{k:Hp}{j:Shared}(J:Inv (rD m P w K i base N d c f g A a s H E) h l k j){b:Addr}(n:j.heap.get? b=none):s.heap.get? b=none:=by
 cases q:s.heap.get? b with
 | none=>rfl
 | some o=>
   have p:Un (ϭ a) [] H k s.heap j.heap:=J.base;obtain⟨r,e⟩:=p.there b o q (by simp);rw[n]at e;cases e
theorem dW:rd (Ε P w) (rD (Ε P w) P w K i base N d c f g A a s H E) E:=by
 intro o O F G e L I h;obtain⟨D,T,j,x,r,rfl,os,bare,u,m,n,C,p,z,v,q⟩:=h;have J:=I.aaH (ch:=[]) os u m bare (by simp);refine QI (base:=base) J.ok.frames J.stack rfl v λM B l k t=>?_;have y:∀b∈ϭ (envOfC d c s.heap.objs.size f g::a),r b=none:=J.Wm;refine⟨D,B,j,x,r,rfl,J.os,J.bare,FW J k ?_,F1 m k y ?_,n,Kt m t,qG I p,qG J t,l,q⟩
 .intro b hb;simp only[ax,List.not_mem_nil,or_false]at hb;rcases hb with rfl|rfl
  .exact qG I p
  .exact qG I z
 .intro b hb;simp only[ax,List.not_mem_nil,or_false]at hb;rcases hb with rfl|rfl
  .exact n
  .exact C
end
def Mh(X:Cx)(E:XK):Prop:=∀(c:gf)(h:St)(H:Hp)(s:Shared)(e:Addr)(a:Value)(f:Option Addr)(d:Heap)(g:Nat),Inv X c h H s->(∀b o,s.heap.get? b=some o->d.get? b=some o)->s.heap.get? e=none->pZ d e a f .none->E a f H->X.xe (.ref e) { s with heap:=d,toks:=g }
section
variable{P:Program}{w:World}{K:f5}{h:gw}{c:Heap}{N:gy}{e:Str}{a:Scope}{f:Addr}{g:Value}{A:Around}{d:List Env}{s:Shared}{H:Hp}{E:XK}
theorem qL:Mh (rD (Ε P w) P w K h c N e a f g A d s H E) E:=by
 intro n D m B x j r C v I y i p q;have J:=I.kept (t':=v) y;refine MR (base:=c) J.ok.frames J.stack rfl p λz u l k o=>?_;have t:∀b∈ϭ (envOfC e a s.heap.objs.size f g::d),m b=none:=J.Wm;refine⟨x,u,j,r,m,rfl,J.os,J.bare,FW J k ?_,F1 J.ψ k t ?_,Kt I.ψ i,Kt J.ψ o,qG I i,qG J o,l,q⟩
 .intro b hb;rw[aI.mp hb];exact qG I i
 .intro b hb;rw[aI.mp hb];exact Kt I.ψ i
end
def pX(K:f5)(C:Addr):Prop:=∃(l h:Str)(N:Addr)(f d:gn)(a:Bool)(e:gy)(c:gn)(n:Bool)(b:Option Bool)(m:Option Addr)(o g i k j:Option Value),K.lookup C=some (excClassObj l h C N f d a e c n b m o g i k j "ValueError.__new__")/\PySem.W.nsOkIn K N=true/\PySem.W.nsIn K N "__init__"=some none/\PySem.W.tailIn K bmV d=true
theorem RM{K:f5}{C:Addr}{o:Obj}(s k:Str)(N:Addr)(t h:gn)(d:Bool)(p:gy)(g:gn)(n:Bool)(f:Option Bool)(u:Option Addr)(j i q r m:Option Value)(l:K.lookup C=some o)(e:o=excClassObj s k C N t h d p g n f u j i q r m "ValueError.__new__")(a:PySem.W.nsOkIn K N=true)(b:PySem.W.nsIn K N "__init__"=some none)(c:PySem.W.tailIn K bmV h=true):pX K C:=by
 subst e;exact⟨_,_,_,_,_,_,_,_,_,_,_,_,_,_,_,_,l,a,b,c⟩
def LD(C:Addr)(E:XK)(t:TA):TS:=λ_ c H=>t c H λb a=>b.length<=sizeLine/\E (.ref C) none a
section
variable{X:Cx}{x:Str}{e c d:Pos}{b:Expr}{a:List Expr}{t:TA}{C:Addr}{E:XK}
theorem py(q:pX X.K C)(R:X.calm=true)(L:Mh X E)(J:Gl X x)(z:X.mg x=some (.ref C))(U:PA X (b::a) t)(hdb:(x==("__debug__":Str))=false:=by decide)(n:starEach (b::a) X.env=(false,eval b X.env)::starEach a X.env:=by rfl)(P:(backTo c (starEach a X.env)).any (·.1)=false:=by rfl):PS X (.Raise (some (.Call (.Name x e) (b::a) [] c)) none d) (LD C E t):=by
 intro f s p H D I h;obtain⟨nm,w,N,bs,bm,hdct,sn,sub,ab,col,dd,k0,k1,k2,k3,k5,u,o,y,v⟩:=q;have B:=I.mod.kin;have j:=PySem.W.tail_of_in B v;have G:X.base.Ns N (X.base.nsMap N):=.of_isNs (PySem.W.isNs_of_in B o);have M:(backTo c (starEach (b::a) X.env)).any (·.1)=false:=by
  rw[n];show(false||(backTo c (starEach a X.env)).any (·.1))=false;rw[P]
  rfl
 refine wpAny_Raise_call_subT (C:=C) (nm:=nm) (q:=w) (N:=N) (bs:=bs) (bm:=bm) (hdct:=hdct) (sn:=sn) (sub:=sub) (ab:=ab) (col:=col) (dd:=dd) (k0:=k0) (k1:=k1) (k2:=k2) (k3:=k3) (k5:=k5) PySem.F.excBase_ValueError
  (j.hasType (by decide +kernel)) (I.ok.hd R) M (PySem.W.nsMap_none_of_in B o y) (xM I J z ⟨rfl,?_⟩ hdb)
 have g:=U c f s p H _ I h;rw[n]at g ⊢;refine Calls.evalArgs_plain (ϑ g λA l ⟨V,r,i,O,k⟩=>⟨rfl,by show A.length<=_;rw[<-O.length];exact k.1,i.bk _ _ (B _ _ u),G.keeps i.bk,j.keeps i.bk,λS T m=>?_⟩);obtain⟨Y,Q,_,_⟩:=m.there;exact L f p r l T (.ref C) none S l.toks i m.keeps m.new ⟨_,_,Q,rfl,rfl,rfl,rfl,rfl⟩ k.2
end
abbrev TH:=Ends->St->Value->Option Addr->Hp->Prop
def sZ(a:List (Str×Addr)):List (Str×NameKind)->List (Str×Addr)->List (Str×Addr)
 | [],acc=>acc
 | (n,k)::r,acc=>if k==.free then sZ a r ((n,(a.lookup n).getD 0)::acc)else sZ a r acc
theorem JR{b:Scope}{d:Env}(h:∀y∈b.names,y.2=.free->(d.cells.lookup y.1).isSome=true):closureFor b d=pure (sZ d.cells b.names []):=by
 have f:∀(l:List (Str×NameKind))(e:List (Str×Addr)),(∀y∈l,y.2=.free->(d.cells.lookup y.1).isSome=true)->(forIn l e λ(y:Str×NameKind)(c:List (Str×Addr))=>(if y.2==NameKind.free then do let a <-cellOf d y.1;pure (ForInStep.yield ((y.1,a)::c))else pure (ForInStep.yield c):Sem (ForInStep (List (Str×Addr)))))=(pure (sZ d.cells l e):Sem (List (Str×Addr))):=by
  intro l
  induction l with
  | nil=>intro e _;rfl
  | cons y l ih=>
    obtain⟨n,k⟩:=y;intro e g;have o:=g (n,k) aJ;have i:∀y∈l,y.2=.free->(d.cells.lookup y.1).isSome=true:=λy m=>g y (aH _ m);rw[mm];unfold sZ;cases q:k==NameKind.free with
    | false=>
      simp only[dL,if_false,pure_bind];exact ih e i
    | true=>
      obtain⟨c,j⟩:=ft.mp (o (by simpa using q));dsimp only at j;simp only[if_true,cellOf,j,pure_bind,Option.getD_some];exact ih _ i
 have:=f b.names [] h;unfold closureFor;simp only[bind_pure];exact this
theorem zU{b:List (Str×Addr)}{x:Str}{c:Addr}:∀{l:List (Str×NameKind)}{e:List (Str×Addr)},(∀y∈l,y.2=.free->(b.lookup y.1).isSome=true)->(∀x c,e.lookup x=some c->b.lookup x=some c)->(sZ b l e).lookup x=some c->b.lookup x=some c
 | [],e,_,h2,h3=>h2 x c h3
 | (n,k)::r,e,h1,h2,h3=>by
   have g:∀y∈r,y.2=.free->(b.lookup y.1).isSome=true:=λy f=>h1 y (aH _ f);unfold sZ at h3;cases q:k==NameKind.free with
   | false=>
     rw[q]at h3;exact zU g h2 (by simpa using h3)
   | true=>
     rw[q]at h3;simp only[if_true]at h3;obtain⟨a,h⟩:=ft.mp (h1 (n,k) aJ (by simpa using q));dsimp only at h;rw[h]at h3;refine zU g (λy d f=>?_) h3;rw[cH]at f;cases z:y==n with
     | true=>
       rw[z]at f;cases f;rw[eq_of_beq z];exact h
     | false=>
       rw[z]at f;exact h2 y d f
theorem zN{a:List (Str×Addr)}{x:Str}:∀{l:List (Str×NameKind)}{b:List (Str×Addr)},((∃c,b.lookup x=some c)\/(x,NameKind.free)∈l)->∃c,(sZ a l b).lookup x=some c
 | [],b,h=>by
   rcases h with h|h
   .exact h
   .cases h
 | (n,k)::r,b,h=>by
   unfold sZ;cases q:k==NameKind.free with
   | false=>
     simp only[dL,if_false];refine zN ?_;rcases h with h|h
     .exact .inl h
     .rcases ax.mp h with z|z
      .cases z;simp at q
      .exact .inr z
   | true=>
     simp only[if_true];refine zN ?_;by_cases z:x=n
     .subst z;exact .inl ⟨(a.lookup x).getD 0,by rw[cH];simp⟩
     .rcases h with⟨c,h⟩|h
      .refine .inl ⟨c,?_⟩;rw[cH];have:(x==n)=false:=(by simpa using z);rw[this];exact h
      .rcases ax.mp h with y|y
       .cases y;exact absurd rfl z
       .exact .inr y
theorem qw{env:Env}{x:Str}{k:NameKind}:∀{l:List (Str×NameKind)},l.lookup x=some k->(l.map λ(n,k)=>if(k==NameKind.free&&env.scope.kind==.function&&env.kindOf n==some .cell)then(n,NameKind.cell)else(n,k)).lookup x=some (if(k==NameKind.free&&env.scope.kind==.function&&env.kindOf x==some .cell)then NameKind.cell else k)
 | [],h=>by simp at h
 | (n,j)::r,h=>by
   have a:=@qw env x k r;rw[aq];rw[cH]at h;cases z:x==n with
   | true=>
     rw[z]at h;cases h;have e:=eq_of_beq z;subst e;by_cases q:(k==NameKind.free&&env.scope.kind==.function&&env.kindOf x==some .cell)=true
     .simp only[q,if_true,cH,z]
     .simp only[q,if_false,cH,z,dL]
   | false=>
     rw[z]at h;dsimp only;by_cases q:(j==NameKind.free&&env.scope.kind==.function&&env.kindOf n==some .cell)=true
     .rw[aj q,cH,z];exact a h
     .rw[ag q,cH,z];exact a h
theorem Rz{X:Cx}{d:gy}{scope:Scope}(a:Nat)(b:List Nat)(p:∀y∈scope.names,y.2≠.cell)(B:scope.kind=.function)(G:∀y∈scope.names,y.2=.local->scope.names.lookup y.1=some .local)(F:d.length=a+b.length)(m:∀y∈scope.names,y.2=.free->X.env.scope.names.lookup y.1=some .cell)(C:X.env.scope.kind=.function)(t:∀x,X.env.scope.names.lookup x=some .cell->∃c,X.env.cells.lookup x=some c)(D:∀i,i<b.length->∃x j,d[a+i]?=some x/\b[i]?=some j/\X.N[j]?=some x/\scope.names.lookup x=some .free):ϥ X d a b scope (sZ X.env.cells scope.names []):=by
 have s:∀y∈scope.names,y.2=.free->(X.env.cells.lookup y.1).isSome=true:=λy A e=>by
  obtain⟨c,q⟩:=t _ (m y A e);rw[q]
  rfl
 have v:∀x,scope.names.lookup x=some .free->X.env.scope.names.lookup x=some .cell:=λx h=>m (x,.free) (dE h) rfl;refine⟨JR s,B,p,G,λx c h=>zU s (λx c z=>by simp at z) h,λx h=>?_,F,λi x h=>?_⟩
 .cases q:scope.names.lookup x with
  | none=>
    exfalso
    have:(relabel scope X.env).names.lookup x=none:=by
     unfold relabel;dsimp only
     revert q
     generalize scope.names=l
     induction l with
     | nil=>intro _;rfl
     | cons y l ih=>
       obtain⟨n,k⟩:=y;intro q;rw[cH]at q;cases z:x==n with
       | true=>rw[z]at q;cases q
       | false=>
         rw[z]at q;rw[aq];dsimp only;by_cases w:(k==NameKind.free&&X.env.scope.kind==.function&&X.env.kindOf n==some .cell)=true
         .rw[aj w,cH,z];exact ih q
         .rw[ag w,cH,z];exact ih q
    rw[this]at h;rcases h with h|h<;>cases h
  | some k=>
    have r:(relabel scope X.env).names.lookup x=some _:=qw (env:=X.env) q;cases k with
    | free=>exact zN (.inr (dE q))
    | cell=>exact absurd rfl (p _ (dE q))
    | _=>
      rw[r]at h;simp at h
 .have hi:i<b.length:=by
   have:=(az.mp h).1
   lia
  obtain⟨y,j,g,u,E,f⟩:=D i hi;rw[h]at g;cases g;have o:=v x f;refine⟨j,u,E,o,?_⟩;have r:(relabel scope X.env).names.lookup x=some _:=qw (env:=X.env) f;rw[r];have:X.env.kindOf x=some .cell:=o;rw[this,C]
  rfl
theorem Jr:∀{a:d2}{b:gn},Vals (a.map V.int) b->IntsAre b a
 | [],_,h=>by cases h;exact .nil
 | n::a,_,h=>by
   cases h with
   | cons r t=>
     obtain⟨k,rfl⟩:=(show ∃t,_=Value.int n t from r);exact .cons n k (Jr t)
theorem Jj:∀{b:d2}{a:gn},IntsAre a b->Vals (b.map V.int) a
 | _,_,.nil=>.nil
 | _,_,.cons n t r=>.cons ⟨t,rfl⟩ (Jj r)
section
variable{X:Cx}
theorem yW:lm X (.builtin "sorted") (λi H Q=>∃(p:Addr)(f:d2),i=[.ref p]/\ξ X.K H p (f.map V.int)/\f.length<64/\∀(l:Addr)(c:d2),H l=none->c.Perm f->c.Pairwise (·<=·)->Q (.ref l) (upd H l (.lst (c.map V.int)))):=by
 intro j s G H i E Q I r h;obtain⟨p,f,rfl,y,A,q⟩:=h;obtain⟨u,rfl,t⟩:=qY r;cases t;obtain⟨g,x,B,F⟩:=I.list y;have m:=Jr x;have D:=IntsAre.length m;refine sorted_ints B.isList m (by lia) λd c w k n=>?_;obtain⟨e,C⟩:=sortedAll_at s.heap g d;have z:H (s.heap.objs.size+1)=none:=I.ψ.fresh (fE _);have v:c.length=f.length:=k.length_eq;refine⟨.ref (s.heap.objs.size+1),_,I.laid (a:=s.heap.objs.size+1) (o:=.lst (c.map V.int)) (t':=s.toks) (λb o e=>sortedAll_old e) (fE _) ⟨?_,d.toList,e,Jj w,?_⟩,rfl,q _ c z k n⟩
 .rw[aa,v];exact cm (by lia)
 .exact C
end
section
variable{P:Program}{w:World}{K:f5}{b:gw}{a:Heap}
theorem Ye.W0{x d:Str}{st:Stmt}{f:Addr}{l:FuncData}{N j:gy}{k:Nat}{h:Sp}(F:Ye K x d st f l)(S:η N j (aK st))(i:∀e H Q E,h e H Q E->e.length=j.length)(u:∀(g:Value) (A:Around) (c:List Env) (s:Shared) (H:Hp) (e:List V) (Q:VK) (E:XK),ϋ k (A.deeper (envOfC d (aK st) s.heap.objs.size f g))->h e H Q E->∃t,X7 (rD (Ε P w) P w K b a N d (aK st) f g A c s H E) (ip st) t/\t { nx:=λ_ r=>Q .ω r,rt:=Q } (start N e) H):ϓ P w K b a (Ε P w) (k+1) f l j h:=by
 obtain⟨y,v,kV,p,B,D,g,z,C,rfl,n,o⟩:=F.ex;exact Q4 n o S i λA c s H e Q E m q=>u g A c s H e Q E m q
end
theorem DR{C:Addr}{E:XK}{t:TA}{D:Ends}{a:St}{H:Hp}:LD C E t D a H=t a H λc b=>c.length<=sizeLine/\E (.ref C) none b:=rfl
theorem VQ{H:Hp}{l b:Addr}{a c:List V}{Q:VK}(f:H l=some (.lst a))(e:H b=some (.lst c))(d:a.length+c.length<=sizeLine)(q:∀p,H p=none->Q (.ref p) (upd H p (.lst (a++c)))):adp (.ref l) (.ref b) H Q:=⟨l,b,a,c,rfl,rfl,f,e,d,q⟩
theorem δ.put{H a:Hp}{l:Addr}(e:δ H a)(n:H l=none)(o:HO):δ H (upd a l o):=λb u h=>by rw[aR (cq h n)];exact e b u h
theorem NY{M:Model}{A:Around}{E:f3}{s:Shared}{a:Env}{x:Str}{b:Pos}{v:Value}{Q:Unit->Shared->Prop}(h:wpAny M A (storeName a x v) Q E s):wpAny M A (assign (.Name x b) a v) Q E s:=by
 show wpAny M A (do standAt b;bindName a x v) Q E s;exact ak (jZ (wpAny_bindName h))
section
variable{X:Cx}{Nc:gy}{f:Nat}{j:List Nat}{scope:Scope}{a:List (Str×Addr)}
theorem KD{i:Nat}{x:Str}{px a1:Pos}{Q k z:Expr}{V:List Expr}{ϟ:Pos}{wi:TI}{g:TG}{tc:TT}{te:TE}(hN:X.N.Nodup)(b1:X.N[i]?=some x)(aT:X.env.scope.names.lookup x=some .local)(hc:X.calm=true)(T:ϥ X Nc f j scope a)(hi:PI X k z wi)(hg:∀C B G m,PG (X.comp Nc scope a C B G m) k g)(ht:∀C B G m,PTs (X.comp Nc scope a C B G m) V tc)(he:∀C B G m,PE (X.comp Nc scope a C B G m) Q te)(hs:∀x,foldedSetIterable z X.env x=pure x:=by intro _;rfl)(c0:swapsWith (.ListComp Q [⟨k,z,V,0⟩] scope ϟ) (some (.Name x px)) a1.line X.env=pure true:=by rfl):PS X (.Assign [.Name x px] (.ListComp Q [⟨k,z,V,0⟩] scope ϟ) a1) (Dg (JJ f j wi g tc te) (vC i)):=by
 intro M s σ H D I h;rw[exec_Assign_Name_used _ _ _ _ c0];refine ak (jZ (ak ?_));rw[arm_evalThenUse_ListComp];refine ak ?_;refine wpAny_comprehension_free (use:=some (assign (.Name x px) X.env)) rfl hs T.abz T.kind T.names (ϑ (hi M s σ H _ I h) λv s1 h1=>ϑ h1 λdO l h2=>?_);obtain⟨it,m,tn,J,H1,rfl,I1,Z,st,f1,R⟩:=h2;have Z9:∀b∈m,b<l.heap.objs.size:=λb F=>let ⟨o,e,_⟩:=Z.obj _ _ st b F;aG e;refine gF (wpAny_newFunctionEnv T.Yg (by intro y hy;simp at hy) (λK aC Ϧ=>?_) T.kind);dsimp only at aC Ϧ ⊢;generalize af:l.heap.push { cls:=.type "list",dict:=none,data:=.seq ([]:gn).toArray }=E at aC Ϧ ⊢;have hC:E.objs.size=l.heap.objs.size+1:=by rw[<-af,de]
 have a2:l.heap.objs.size≠E.objs.size:=by rw[hC];exact aV (fX _)
 have Wq:l.heap.objs.size<=E.objs.size:=by rw[hC];exact fE _
 have b6:∀b,b<l.heap.objs.size->b≠E.objs.size:=λb F=>by rw[hC];exact aV (gI F)
 have a7:∀b o,l.heap.get? b=some o->K.get? b=some o:=λb o e=>Ϧ.extBut b o (b6 b (aG e)) (ar _ (af▸ar _ e));have By:∃n,K.get? l.heap.objs.size=some { cls:=.type "list",data:=.seq ([]:gn).toArray n }:=⟨_,Ϧ.extBut _ _ a2 (ar _ (af▸bf _ rfl))⟩;have XB:tn 0 K:=Z.keep _ _ _ st λb _ o e=>a7 b o e;obtain⟨W,⟨m0,w0⟩,a5⟩:=R l.heap.objs.size I1.fresh;have Ic:=F2 (t:=l.toks+([]:List (Str×Value)).length) T I1 Wq (ap _) a2 f1 Z9 a7 aC By;generalize U:X.comp Nc scope a E.objs.size l H1 m=Xc at Ic;have O:∀{S:Hp},(∀b∈m,S b=none)->∀b∈m,ph Xc [] S b:=λ{S} hn b F=>by
  subst U;exact⟨hn b F,b6 b (Z9 b F),(Dn T I1 Wq f1 Z9).X4 b F,.inl F,λx c e=>(f1 b F).2.2.2.2.1 x c (T.cells x c e),λp hp=>by cases hp⟩
 have cS:∀b∈m,upd H1 l.heap.objs.size (.lst []) b=none:=λb F=>by
  rw[aR (aV (Z9 b F))];exact(f1 b F).1
 have eu:Xc.calm=true:=by subst U;exact hc
 have ae:∀P:Shared,P={ l with heap:=K,toks:=l.toks+([]:List (Str×Value)).length }->codeAny (model X.prog X.w) X.A (.compLoop (.ListComp Q [⟨k,z,V,0⟩] scope ϟ) 0 (.ref it) (.ref l.heap.objs.size) (compEnvC scope a E.objs.size X.env))
  (compPost (model X.prog X.w) X.A X.xe (some (assign (.Name x px) X.env)) (λ_ s'=>wpAny (model X.prog X.w) X.A (pure ()) (λ_ cu=>wpAny (model X.prog X.w) X.A (pure Flow.next) (SP X M D) X.xe cu) X.xe s') (.ref l.heap.objs.size) E.objs.size) P:=by
  rintro P rfl;refine yQ (λn s'=>∃i ys a3 S,Inv Xc [] a3 S s'/\tn i s'.heap/\(∀b∈m,S b=none)/\W i n ys a3 S) ?_ m0 ⟨0,[],_,_,Ic,XB,cS,w0⟩;rintro n s3 ⟨i,ys,Y,H3,I3,a4,a8,w3⟩;rcases a5 i n ys Y H3 w3 with⟨stop,q⟩|⟨go,step⟩
  .subst U;refine ϑ (Z.done (X.comp Nc scope a E.objs.size l H1 m) rfl rfl rfl hc i [] s3 Y H3 _ I3 (O a8) a4 stop) λr s4 ⟨hr,I4⟩=>?_;subst hr;obtain⟨m4,cv,_⟩:=id I4.loc;have J:=DX I1 Wq f1 I4 (h':=s4.heap) (Heap.SameBut.refl _ _);have a6:E.objs.size≠X.env.locals:=eW (aZ I1.lt Wq);have cy:X.s₀.heap.objs.size<=E.objs.size:=aL I1.sz Wq;have cc:∀y c,X.env.cells.lookup y=some c->c≠E.objs.size:=λy c e=>by
    obtain⟨v',o',X5,_⟩:=I1.cell y c e;exact aV (aZ (aG X5) Wq)
   have cp:∀p∈X.pn++M,p.1≠E.objs.size:=λp hp=>by
    obtain⟨X5,_⟩:=I1.pin p hp;exact aV (aZ (aG X5) Wq)
   refine NY (DI (v:=.ref l.heap.objs.size) J hN b1 (.inl aT) rfl (λs5 I5 ⟨ad,sb,had⟩=>?_) (.inr aT));have bS:E.objs.size≠ad:=by
    rcases had with rfl|had
    .exact a6
    .exact(cc _ _ had).symm
   obtain⟨oo,es,ep,e1,e2⟩:=cv;refine⟨m4,⟨oo,es,ep,(sb.2 _ bS).trans e1,e2⟩,λh' c3=>ba (ba ⟨_,H3,?_,q⟩)⟩;exact I5.turned (it:=E.objs.size) (t':=s5.toks) (λb o n e=>c3.extBut b o n e) I4.free a6 (.inr cy) cc cp
  .subst U;refine ϑ (Z.item (X.comp Nc scope a E.objs.size l H1 m) rfl rfl rfl hc i [] s3 Y H3 _ I3 (O a8) a4 go) λr s4 ⟨u,hr,h4⟩=>?_;subst hr;refine ϑ h4 λ_ s5 ⟨x,H5,I5,r5,y5,Zg,Z2⟩=>?_;have b3:=I5.pinned (O Z2) (Z.obj _ _ Zg);have ac:∀{an:St}{H7:Hp}{s7:Shared},Inv (X.comp Nc scope a E.objs.size l H1 m) ([]++va m s5.heap) an H7 s7->Inv (X.comp Nc scope a E.objs.size l H1 m) [] an H7 s7/\tn (i+1) s7.heap/\∀b∈m,H7 b=none:=λ{an H7 s7} I7=>by
    refine⟨I7.ϯ,Z.keep _ _ _ Zg λb F o e=>(I7.pin (b,o) (aW _ (aW _ (oE F e)))).1,λb F=>?_⟩;obtain⟨o,e,d⟩:=Z.obj _ _ Zg b F;exact(I7.pin (b,o) (aW _ (aW _ (oE F e)))).2.1
   refine ϑ (hg _ _ _ _ _ s5 Y H5 x u _ b3 r5 (step x H5 y5)) λ_ s6 ⟨L,H6,I6,q6⟩=>?_;refine Da (ht _ _ _ _ _ s6 L H6 _ I6 q6) λok s7 H7 I7 q7=>?_;cases ok with
   | false=>
     rw[ag bz]at q7 ⊢;obtain⟨m',hm,w7⟩:=q7;obtain⟨J1,J2,J3⟩:=ac I7;exact⟨m',hm,i+1,ys,L,H7,J1,J2,J3,w7⟩
   | true=>
     rw[aj rfl]at q7 ⊢;refine dR (he _ _ _ _ _ s7 L H7 _ I7 q7) λy s8 yv H8 I8 r8 ⟨cx,bv,m',hm,w8⟩=>?_;refine ϑ (fM _ s8 L H8 (.ref l.heap.objs.size) [yv] _ [y] (λv' S=>W (i+1) m' (ys++[yv]) L S) I8 rfl (.cons r8 .nil) ⟨_,ys,yv,rfl,rfl,cx,bv,w8⟩) λv9 s9 ⟨_,H9,I9,_,w9⟩=>?_;obtain⟨J1,J2,J3⟩:=ac I9;exact⟨m',hm,i+1,ys++[yv],L,H9,J1,J2,J3,w9⟩
 exact codeAny_compStart_list (ae _ rfl) (Z.self _ 0 _ _ _ XB (ae _ rfl))
end
theorem wU{K:f5}{H:Hp}:∀a:List Int,Ω K H (a.map V.int) (a.map PyData.int)
 | []=>.nil
 | n::a=>.cons (.int n) (wU a)
theorem tQ{K:f5}{H:Hp}{l:Addr}{a:d2}(h:H l=some (.lst (a.map V.int))):BV K H (.ref l) (.list (a.map PyData.int)):=.lst (ξ.of h) (wU a)
theorem yS:∀a:List Int,PyData.eqvAll (a.map PyData.int) (a.map PyData.int)=true
 | []=>by simp[PyData.eqvAll]
 | n::a=>by
   simp only[aq,PyData.eqvAll];rw[yS a];simp[PyData.eqv]
theorem OM(a:d2):PyData.eqv (.list (a.map PyData.int)) (.list (a.map PyData.int))=true:=by
 simp only[PyData.eqv];exact yS a
theorem vZ:∀a:List Int,PyData.depthAll (a.map PyData.int)<=1
 | []=>by simp[PyData.depthAll]
 | n::a=>by
   simp only[aq,PyData.depthAll];have:=vZ a;have:(PyData.int n).depth<=1:=by simp[PyData.depth]
   lia
theorem BQ(a:d2):(PyData.list (a.map PyData.int)).depth<=40:=by
 simp only[PyData.depth];have:=vZ a
 lia
theorem O8{K:f5}{H:Hp}{a b:Addr}{c:d2}{Q:VK}(e:H a=some (.lst (c.map V.int)))(d:H b=some (.lst (c.map V.int)))(q:Q (.bl false) H):Nk K (.ref a) (.ref b) H Q:=⟨_,_,tQ e,tQ d,BQ c,by rw[OM];exact q⟩
end L2
namespace Pb
open L2 PySem
def front(r:Int)(a:d3)(p:Int):V:=if p=r then .ω else .int (a p)
def bQ(m:Int)(s:hH)(a:V)(p:Int):List Int:=(mj m s p).filter λv=>decide (V.int v≠a)
variable{m:Int}{s:hH}{r:Int}{par:d3}{d:fz}
theorem ζ.ne(R:ζ m s r par d){v:Int}(c:0<=v)(b:v<m)(a:v≠r):par v≠v:=λz=>by
 have:=(R.up v c b a).2.2;rw[z]at this
 lia
theorem bw(g:Good m s)(R:ζ m s r par d){p v:Int}(t:0<=p)(n:p<m):v∈bQ m s (front r par p) p↔(0<=v/\v<m)/\v≠r/\par v=p:=by
 unfold bQ;rw[bG,FN g,bM]
 constructor
 .rintro⟨ad,hf⟩;obtain⟨_,k,_⟩:=g.adj ad;refine⟨k,?_⟩;obtain⟨x,i,j⟩:=ad;have f:∀u w:Int,(u≠r/\par u=w)\/(w≠r/\par w=u)->u=p->w=v->v≠r/\par v=p:=λu w h o l=>by
   subst o l;rcases h with h|h
   .exfalso
    apply hf;unfold front;rw[ag h.1,h.2]
   .exact h
  rcases j with⟨a,b⟩|⟨a,b⟩
  .exact f x.a x.b (R.road x i) a b
  .exact f x.b x.a (R.road x i).symm a b
 .rintro⟨k,hr,hp⟩;have u:=R.up v k.1 k.2 hr;rw[hp]at u;refine⟨?_,λz=>?_⟩
  .obtain⟨x,i,j⟩:=u.2.1;exact⟨x,i,j.elim (λq=>.inr ⟨q.2,q.1⟩) (λq=>.inl ⟨q.2,q.1⟩)⟩
  .unfold front at z;by_cases c:p=r
   .rw[aj c]at z;cases z
   .rw[ag c]at z;have e:v=par p:=(by injection z);have w:=(R.up p t n c).2.2;have y:=u.2.2;rw[<-e]at w
    lia
theorem nV{a:V}{p:Int}:(bQ m s a p).Nodup:=(B3 m s p).filter _
def nl(m:Int)(par:d3)(a:d2):List V:=(b6 m.toNat).map λv=>if v∈a then .int (par v)else .ω
def pQ(m r:Int)(par:d3):List V:=(b6 m.toNat).map (front r par)
theorem tZ{a:d2}:(nl m par a).length=m.toNat:=by unfold nl;rw[aa,b7]
theorem fN{n i:Nat}(h:i<n):(b6 n)[i]?=some (i:Int):=by unfold b6;rw[aA,fA h];rfl
theorem My{ks:d2}{v:Int}(a:0<=v)(b:v<m):(nl m par ks)[v.toNat]?=some (if v∈ks then .int (par v)else .ω):=by
 unfold nl;rw[aA,fN (by lia)];show some (if((v.toNat:Nat):Int)∈ks then V.int (par ((v.toNat:Nat):Int))else V.ω)=_;rw[br a]
theorem Vk{ks:d2}{v:Int}(f:0<=v)(b:v<m):(nl m par ks).set v.toNat (.int (par v))=nl m par (ks++[v]):=by
 refine eA λi=>?_;rw[List.getElem?_set];by_cases c:i<m.toNat
 .have e:∀l:List Int,(nl m par l)[i]?=some (if(i:Int)∈l then .int (par (i:Int))else .ω):=λl=>by
   have:=My (par:=par) (ks:=l) (v:=(i:Int)) (m:=m) (by lia) (by lia)
   rwa [bJ]at this
  rw[e,tZ];by_cases z:v.toNat=i
  .have a:v=(i:Int):=(by lia);rw[aj z,aj (by lia),e,aj (by rw[a];simp),<-a]
  .rw[ag z,e];have a:¬((i:Int)=v):=(by lia);simp[a]
 .have e:∀l:List Int,(nl m par l)[i]?=none:=λl=>bI (by rw[tZ];lia);rw[e,e,tZ];by_cases z:v.toNat=i
  .lia
  .rw[ag z]
structure ύ(m:Int)(s:hH)(r:Int)(par:d3)(ks ws:d2):Prop where
 nd:ks.Nodup
 Χ:∀k∈ks,0<=k/\k<m
 nr:r∉ks
 sub:∀w∈ws,w=r\/w∈ks
 wnd:ws.Nodup
 ok:∀v∈ks,par v∉ws/\(par v=r\/par v∈ks)
 dn:∀v,0<=v->v<m->v≠r->(par v=r\/par v∈ks)->par v∉ws->v∈ks
theorem ύ.start:ύ m s r par [] [r] where
 nd:=mi
 Χ:=λ_ h=>by cases h
 nr:=λh=>by cases h
 sub:=λw h=>.inl (aI.mp h)
 wnd:=by simp
 ok:=λ_ h=>by cases h
 dn:=λv _ _ _ h n=>by
  rcases h with h|h
  .exact absurd (by rw[h];simp) n
  .cases h
theorem ύ.at_(J:ύ m s r par ks ws)(a:0<=r)(c:r<m){p:Int}(b:p∈ws):0<=p/\p<m:=by
 rcases J.sub p b with h|h
 .rw[h];exact⟨a,c⟩
 .exact J.Χ p h
theorem ύ.front(J:ύ m s r par ks ws){p:Int}(a:p∈ws):(if p∈ks then V.int (par p)else V.ω)=front r par p:=by
 unfold Pb.front;by_cases c:p=r
 .rw[aj c,ag (by rw[c];exact J.nr)]
 .rw[ag c,aj ((J.sub p a).resolve_left c)]
theorem ύ.step(g:Good m s)(R:ζ m s r par d)(F:0<=r)(H:r<m){j l ws':d2}{p:Int}(J:ύ m s r par j l)(e:l.Perm (p::ws')):ύ m s r par (j++bQ m s (Pb.front r par p) p) (ws'++bQ m s (Pb.front r par p) p):=by
 have y:p∈l:=e.mem_iff.mpr aJ;have E:=J.at_ F H y;have f:∀v,v∈bQ m s (Pb.front r par p) p↔(0<=v/\v<m)/\v≠r/\par v=p:=λv=>bw g R E.1 E.2;have u:(bQ m s (Pb.front r par p) p).Nodup:=nV;generalize bQ m s (Pb.front r par p) p=D at f u ⊢;have i:∀v∈D,v∉j:=λv C z=>(J.ok v z).1 (by rw[((f v).mp C).2.2];exact y);obtain⟨G,K⟩:=bg.mp (e.nodup_iff.mp J.wnd);have t:∀w∈ws',w∈l:=λw A=>e.mem_iff.mpr (aH _ A);refine⟨?_,?_,?_,?_,?_,?_,?_⟩
 .rw[dC];exact⟨J.nd,u,λa B b q z=>i b q (z▸B)⟩
 .intro k hk;rcases aY.mp hk with h|h
  .exact J.Χ k h
  .exact((f k).mp h).1
 .intro z;rcases aY.mp z with h|h
  .exact J.nr h
  .exact((f r).mp h).2.1 rfl
 .intro w A;rcases aY.mp A with h|h
  .exact(J.sub w (t w h)).imp id (bo _)
  .exact .inr (aW _ h)
 .rw[dC];refine⟨K,u,λa B b q z=>?_⟩;subst z;rcases J.sub a (t a B)with h|h
  .exact((f a).mp q).2.1 h
  .exact i a q h
 .intro v C;rcases aY.mp C with h|h
  .obtain⟨o1,o2⟩:=J.ok v h;refine⟨λz=>?_,o2.imp id (bo _)⟩;rcases aY.mp z with z|z
   .exact o1 (t _ z)
   .rcases o2 with o|o
    .exact((f _).mp z).2.1 o
    .exact i _ z o
  .obtain⟨q1,q2,q3⟩:=(f v).mp h;rw[q3];refine⟨λz=>?_,(J.sub p y).imp id (bo _)⟩;rcases aY.mp z with z|z
   .exact G z
   .obtain⟨w1,w2,w3⟩:=(f p).mp z;exact R.ne w1.1 w1.2 w2 w3
 .intro v v0 v1 vr h n;have x:par v∉D:=λz=>n (aW _ z);have I:par v=r\/par v∈j:=h.imp id λz=>(aY.mp z).resolve_right x;by_cases c:par v=p
  .exact aW _ ((f v).mpr ⟨⟨v0,v1⟩,vr,c⟩)
  .refine bo _ (J.dn v v0 v1 vr I λz=>?_);rcases ax.mp (e.mem_iff.mp z)with z|z
   .exact c z
   .exact n (bo _ z)
theorem ύ.perm{ks b a:d2}(J:ύ m s r par ks b)(e:b.Perm a):ύ m s r par ks a where
 nd:=J.nd
 Χ:=J.Χ
 nr:=J.nr
 sub:=λw h=>J.sub w (e.mem_iff.mpr h)
 wnd:=e.nodup_iff.mp J.wnd
 ok:=λv h=>⟨λz=>(J.ok v h).1 (e.mem_iff.mpr z),(J.ok v h).2⟩
 dn:=λv f c hr h n=>J.dn v f c hr h λz=>n (e.mem_iff.mp z)
theorem ύ.all(R:ζ m s r par d){h:d2}(J:ύ m s r par h []):∀v,0<=v->v<m->v≠r->v∈h:=by
 have g:∀n v,d v=n->0<=v->v<m->v≠r->v∈h:=by
  intro n
  induction n with
  | zero=>
    intro v e b f a;have:=(R.up v b f a).2.2
    lia
  | succ n ih=>
    intro v e b f a;have u:=R.up v b f a;refine J.dn v b f a ?_ (by simp);by_cases c:par v=r
    .exact .inl c
    .exact .inr (ih (par v) (by lia) u.1.1 u.1.2 c)
 exact λv=>g _ v rfl
theorem ύ.done(R:ζ m s r par d){b:d2}(J:ύ m s r par b []):nl m par b=pQ m r par:=by
 unfold nl pQ;refine bZ λv e=>?_;have a:0<=v/\v<m:=by
  unfold b6 at e;obtain⟨k,f,rfl⟩:=aP.mp e;have:=bU.mp f
  lia
 unfold Pb.front;by_cases c:v=r
 .rw[aj c,ag (by rw[c];exact J.nr)]
 .rw[ag c,aj (J.all R v a.1 a.2 c)]
theorem zy(n:Nat)(v:V):(List.replicate n [v]).flatten=List.replicate n v:=by
 induction n with
 | zero=>rfl
 | succ n ih=>rw[cw,fu,ih,cw];rfl
theorem UB:nl m par []=List.replicate m.toNat V.ω:=by
 unfold nl;refine eA λi=>?_;by_cases c:i<m.toNat
 .rw[aA,fN c,fD,aj c];simp
 .rw[bI (by rw[aa,b7];lia),bI (by rw[cV];lia)]
def m9(par:d3):Nat->Int->List Int
 | 0,v=>[v]
 | n+1,v=>v::m9 par n (par v)
theorem ζ.pos(R:ζ m s r par d){v:Int}(c:0<=v)(b:v<m)(a:v≠r):d v=d (par v)+1:=(R.up v c b a).2.2.symm
theorem Ap(R:ζ m s r par d):∀(n:Nat)(v:Int),d v=n->0<=v->v<m->(m9 par n v).Nodup/\(∀x∈m9 par n v,(0<=x/\x<m)/\d x<=n)/\(m9 par n v).length=n+1
 | 0,v,e,h0,h1=>⟨by unfold m9;simp,λx hx=>by
  unfold m9 at hx;rw[aI.mp hx];exact⟨⟨h0,h1⟩,by lia⟩,rfl⟩
 | n+1,v,e,h0,h1=>by
   have b:v≠r:=λz=>by rw[z,R.root]at e;lia
   have u:=R.up v h0 h1 b;obtain⟨c,a,f⟩:=Ap R n (par v) (by lia) u.1.1 u.1.2;unfold m9;refine⟨bg.mpr ⟨λz=>?_,c⟩,λx hx=>?_,by rw[aF,f]⟩
   .have:=(a v z).2
    lia
   .rcases ax.mp hx with rfl|hx
    .exact⟨⟨h0,h1⟩,by lia⟩
    .exact⟨(a x hx).1,by have:=(a x hx).2;lia⟩
theorem kM(R:ζ m s r par d){v:Int}(f:0<=v)(c:v<m):d v+1<=m.toNat:=by
 obtain⟨b,a,g⟩:=Ap R _ v rfl f c;have:=fC (m:=m) (by lia) b λx e=>(a x e).1
 lia
theorem zf{v:Int}(a:0<=v)(b:v<m):(pQ m r par)[v.toNat]?=some (front r par v):=by
 unfold pQ;rw[aA,fN (by lia)];show some (front r par ((v.toNat:Nat):Int))=_;rw[br a]
theorem nU(g:Good m s)(R:ζ m s r par d){v:Int}(n:0<=v)(l:v<m)(h:v≠r):∃k,cP s v (par v)=some k/\2<=k/\k<=1000000:=by
 obtain⟨x,e,j⟩:=(R.up v n l h).2.1;obtain⟨i,o⟩:=cJ e;have ok:=g.ok x e;rw[wR g o j];unfold iW;by_cases c:x.a=v/\x.b=par v
 .rw[aj c];exact⟨_,rfl,ok.t0,ok.t1⟩
 .rw[ag c];have f:x.a=par v/\x.b=v:=by
   rcases j with j|j
   .exact absurd j c
   .exact⟨j.2,j.1⟩
  rw[aj f];exact⟨_,rfl,ok.u0,ok.u1⟩
def rC(m:Int)(s:hH)(r:Int)(par:d3):Nat->Int->List Int
 | 0,v=>[v]
 | n+1,v=>v::(bQ m s (front r par v) v).flatMap (rC m s r par n)
def bO(m:Int)(s:hH)(r:Int)(par:d3)(d:fz)(v:Int):List Int:=rC m s r par (m.toNat-1-d v) v
theorem uF{f h:Int->List Int}:∀{l:d2},(∀x∈l,f x=h x)->l.flatMap f=l.flatMap h
 | [],_=>rfl
 | a::l,e=>by rw[bC,bC,e a aJ,uF λx b=>e x (aH _ b)]
theorem fL(g:Good m s)(R:ζ m s r par d){v:Int}(k:0<=v)(j:v<m):bO m s r par d v=v::(bQ m s (front r par v) v).flatMap (bO m s r par d):=by
 have i:∀u,u∈bQ m s (front r par v) v->(0<=u/\u<m)/\u≠r/\par u=v:=λu=>(bw g R k j).mp;have c:∀u∈bQ m s (front r par v) v,d u=d v+1/\d u+1<=m.toNat:=λu a=>by
  obtain⟨b,f,h⟩:=i u a;have:=R.pos b.1 b.2 f;rw[h]at this;exact⟨this,kM R b.1 b.2⟩
 unfold bO;cases e:m.toNat-1-d v with
 | zero=>
   have:bQ m s (front r par v) v=[]:=gJ.mpr λu a=>by
    have:=c u a
    lia
   rw[this]
   rfl
 | succ n=>
   show v::(bQ m s (front r par v) v).flatMap (rC m s r par n)=_;rw[uF λu a=>show rC m s r par n u=rC m s r par (m.toNat-1-d u) u by rw[show m.toNat-1-d u=n by have:=c u a;lia]]
def up(par:d3):Nat->Int->Int
 | 0,x=>x
 | k+1,x=>par (up par k x)
theorem Ae{f:Int->List Int}:∀{l:d2},l.Nodup->(∀u∈l,(f u).Nodup)->(∀u∈l,∀w∈l,∀x,x∈f u->x∈f w->u=w)->(l.flatMap f).Nodup
 | [],_,_,_=>by simp
 | a::l,n,h1,h2=>by
   obtain⟨g,i⟩:=bg.mp n;rw[bC,dC];refine⟨h1 a aJ,Ae i (λu c=>h1 u (aH _ c)) (λu c w b=>h2 u (aH _ c) w (aH _ b)),λx j y h z=>?_⟩;subst z;obtain⟨w,b,e⟩:=dM.mp h;have:=h2 a aJ w (aH _ b) x j e;exact g (this▸b)
theorem oz(g:Good m s)(R:ζ m s r par d):∀(n:Nat)(v:Int),0<=v->v<m->(rC m s r par n v).Nodup/\∀x∈rC m s r par n v,(0<=x/\x<m)/\∃k,d x=d v+k/\up par k x=v
 | 0,v,h0,h1=>⟨by unfold rC;simp,λx hx=>by
  unfold rC at hx;rw[aI.mp hx];exact⟨⟨h0,h1⟩,0,rfl,rfl⟩⟩
 | n+1,v,h0,h1=>by
   have c:∀u,u∈bQ m s (front r par v) v->(0<=u/\u<m)/\u≠r/\par u=v:=λu=>(bw g R h0 h1).mp;have o:(bQ m s (front r par v) v).Nodup:=nV;have b:=λu a=>oz g R n u (c u a).1.1 (c u a).1.2;have h:∀u∈bQ m s (front r par v) v,d u=d v+1:=λu a=>by
    obtain⟨i,l,A⟩:=c u a;have:=R.pos i.1 i.2 l;rw[A]at this;exact this
   unfold rC;refine⟨bg.mpr ⟨λz=>?_,Ae o (λu a=>(b u a).1) λu a w j x hx p=>?_⟩,λx hx=>?_⟩
   .obtain⟨u,a,hv⟩:=dM.mp z;obtain⟨_,k,e,_⟩:=(b u a).2 v hv;have:=h u a
    lia
   .obtain⟨_,k1,e1,f1⟩:=(b u a).2 x hx;obtain⟨_,t,C,q⟩:=(b w j).2 x p;have D:=h u a;have B:=h w j;have:k1=t:=(by lia);rw[<-f1,<-q,this]
   .rcases ax.mp hx with rfl|hx
    .exact⟨⟨h0,h1⟩,0,rfl,rfl⟩
    .obtain⟨u,a,hv⟩:=dM.mp hx;obtain⟨y,k,e,f⟩:=(b u a).2 x hv;exact⟨y,k+1,by rw[e,h u a];lia,by show par (up par k x)=v;rw[f];exact(c u a).2.2⟩
theorem zW(g:Good m s)(R:ζ m s r par d){v:Int}(f:0<=v)(c:v<m):(bO m s r par d v).length<=24:=by
 obtain⟨a,b⟩:=oz g R (m.toNat-1-d v) v f c;have:=fC (m:=m) (by lia) a λx e=>(b x e).1;have:=g.Ο;unfold bO
 lia
end Pb
namespace L2
open PySem PySem.Spec PyProof.Rows
def Itv(K:f5)(a:Addr)(n:Nat):It:=⟨λi H=>i<n/\∃b x,ξ K H a b/\b[n-1-i]?=some x,λi H x c=>c=H/\∀b,ξ K H a b->b[n-1-i]?=some x,λi H=>n<=i⟩
theorem OD{P:Program}{w:World}{K:f5}{O:Expr}(a g:Addr)(n:Nat):Turn P w K O (Itv K a n) [g] g (λi h=>i<=n/\h.IsRevIter g a ((n:Int)-1-(i:Int))) where
 mem:=by simp
 obj:=λi h st b hb=>by
  have e:b=g:=by simpa using hb
  subst e;obtain⟨_,o,e,c,d⟩:=st;exact⟨o,e,λv z=>by rw[d]at z;cases z⟩
 keep:=λi h l st k=>⟨st.1,st.2.at λo e=>k g (by simp) o e⟩
 item:=by
  intro X C hw q hc i f s J H E I hf st A;subst C hw q;obtain⟨hi,xs,x,F,G⟩:=A;obtain⟨N,T,p,hz⟩:=I.list F;obtain⟨u,Y,M⟩:=T.get G;obtain⟨y,D,S,B,r,t⟩:=hf g (by simp);have L:(n:Int)-1-(i:Int)=((n-1-i:Nat):Int):=by lia
  have j:=st.2;rw[L]at j;refine wpAny_pyNext_rev_item j p.isList (x:=u) (by simpa using Y) λl m sb=>?_;have V:Inv X f J H { s with heap:=l }:=I.turned (t':=s.toks) (λb o hb e=>(sb.2 b hb).trans e) y D B r t;obtain⟨o,e,c,d⟩:=id m;have Q:((n-1-i:Nat):Int)-1=(n:Int)-1-((i+1:Nat):Int):=by lia
  rw[Q]at m;exact⟨u,rfl,EK (s:={ s with heap:=l }) e c d (by decide) ⟨x,H,V,M,⟨rfl,λys R=>by rw[I.iO R F];exact G⟩,⟨hi,m⟩,λb hb=>(hf b hb).1⟩⟩
 done:=by
  intro X C hw q hc i f s J H E I hf st A;subst C hw q;have ac:n<=i:=A;obtain⟨y,D,S,B,r,t⟩:=hf g (by simp);have j:=st.2;have Z:=st.1;rw[show(n:Int)-1-(i:Int)=-1 by lia]at j;exact wpAny_pyNext_rev_end (I.ok.hd hc) j λl U=>⟨rfl,I.turned (t':=s.toks) (λb o hb e=>U b o hb e) y D B r t⟩
 self:=λ_ _ _ _ _ st h=>jA st.2 h
def OQ(K:f5)(d:TE):TI:=λe H R=>d e H λx b=>∃a c,x=.ref a/\ξ K b a c/\R (Itv K a c.length) b
section
variable{X:Cx}{f e:Expr}{d:TE}{g c:Pos}
theorem sR(B:Gl X "reversed")(y:X.mg "reversed"=none)(G:PE X e d)(r:starEach [e] X.env=[(false,eval e X.env)]:=by rfl):PI X f (.Call (.Name "reversed" g) [e] [] c) (OQ X.K d):=by
 intro j s J H R I h;refine Call_ (oP I B y boot_reversed (cG ?_ r rfl));rw[r];show wpAny _ _ (spliced ((false,eval e X.env)::backTo c [])) _ _ s;refine gG (dR (G j s J H _ I h) λu k x v m D z=>gQ ?_);obtain⟨a,n,w,t,q⟩:=z;subst w;cases D;obtain⟨p,A,F,L⟩:=m.list t;refine call_reversed_list F.isList ?_;have C:p.toArray.size=n.length:=by rw[aM,A.length]
 rw[C];refine jA (i:=(n.length:Int)-1) (l:=a) ⟨_,bf _ rfl,rfl,rfl⟩ ?_;refine⟨k.heap.objs.size,[k.heap.objs.size],_,_,v,rfl,m.kept (t':=k.toks) λb o e=>ar _ e,OD a _ n.length,⟨bj _,?_⟩,λb E=>?_,q⟩
 .exact⟨_,bf _ rfl,rfl,by simp[revObj]⟩
 .have e:b=k.heap.objs.size:=by simpa using E
  subst e;exact m.YL (ap _) (m.ψ.fresh (ap _))
end
theorem qz{K:f5}{a:Addr}{xs:List V}{g:TG}{l:TS}{D:Ends}{b:St}{H:Hp}(d:Nat->St->Hp->Prop)(u:d 0 b H)(r:∀i b H,i<=xs.length->d i b H->ξ K H a xs)(v:∀(i:Nat) (x:V) (b:St) (H:Hp) (N:St->Hp->Prop),(∀c f,d (i+1) c f->N c f)->xs.reverse[i]?=some x->d i b H->g x b H λh s=>l { D with nx:=N,ct:=N,bk:=D.nx } h s)(n:∀b H,d xs.length b H->D.nx b H):rZ (Itv K a xs.length) D g l b H:=by
 refine⟨λi m b H=>m=xs.length-i/\i<=xs.length/\d i b H,⟨xs.length,by simp,bj _,u⟩,?_⟩;rintro i m b H ⟨rfl,t,p⟩;have q:=r i b H t p;by_cases j:i<xs.length
 .have hx:xs[xs.length-1-i]?=some xs[xs.length-1-i]:=ao (by lia);refine .inr ⟨⟨j,xs,_,q,hx⟩,λc f=>∃k,k<xs.length-i/\(k=xs.length-(i+1)/\i+1<=xs.length/\d (i+1) c f),λc f z=>z,λx f y=>?_⟩;obtain⟨e,y⟩:=y;subst e;exact v i x b _ _ (λc f o=>⟨xs.length-(i+1),by lia,rfl,j,o⟩) (by rw[cB j];exact y xs q) p
 .have e:i=xs.length:=by lia
  subst e;exact .inl ⟨ap _,n b H p⟩
theorem SF:bootBuiltins "sum"=some (.builtin "sum"):=by decide +kernel
theorem yK(a:d2):∀n,n<=a.length->preSum (λi=>a.getD i 0) n=(a.take n).sum
 | 0,_=>by simp[preSum]
 | n+1,h=>by
   have c:=yK a n (by lia);have b:n<a.length:=by lia
   rw[bK,ao b,c9,<-c];simp[preSum,List.getD,b]
section
variable{X:Cx}
theorem vK(P:X.calm=true):lm X (.builtin "sum") (λJ H Q=>∃(p:Addr)(d:d2),J=[.ref p]/\(ξ X.K H p (d.map V.int)\/Ξ X.K H p (d.map V.int))/\Q (.int d.sum) H):=by
 intro M s S H J R Q I r h;obtain⟨p,d,rfl,hp,q⟩:=h;obtain⟨u,rfl,z⟩:=qY r;cases z;have L:X.A.in1.handled=none:=I.ok.hd P;have f:∀{a:gn},Vals (d.map V.int) a->a.length=d.length/\∀(i:Nat)(v:Value),a.toArray[i]?=some v->∃t,v=Value.int (d.getD i 0) t:=by
  intro a j;have c:a.length=d.length:=by rw[<-j.length,aa]
  refine⟨c,λi v w=>?_⟩;have O:a[i]?=some v:=by simpa using w
  have y:i<d.length:=by rw[<-c];exact(az.mp O).1
  obtain⟨u,N,z⟩:=j.get (i:=i) (x:=V.int d[i]) (by rw[aA,ao y];rfl);rw[O]at N;cases N;obtain⟨t,e⟩:=(show ∃t,v=Value.int d[i] t from z);exact⟨t,by rw[e];simp[List.getD,y]⟩
 have l:∀{n:Nat},n=d.length->preSum (λi=>d.getD i 0) n=d.sum:=λ{n} e=>by rw[yK d n (by lia),dc (by lia)]
 rcases hp with hp|hp
 .obtain⟨a,j,pl,hz⟩:=I.list hp;obtain⟨c,G⟩:=f j;have k:=pl.isList;have m:=pl.lt;refine call_sum_walkG (iI k ?_);refine⟨s.heap.objs.size,[s.heap.objs.size,p],[s.heap.objs.size],a.toArray.size,_,_,λi=>d.getD i 0,rfl,Walks.list (A:=X.A.in1) L _ p (aV m) a.toArray,⟨⟨_,bf _ rfl,rfl,rfl⟩,k.push _⟩,λb E=>?_,λi v w=>G i v w,λF D t' B=>?_⟩
  .simp only[Heap.push,Array.size_push];rcases ax.mp E with e|e
   .rw[e];exact fX _
   .rw[aI.mp e];exact gI m
  .have kk:∀b o,s.heap.get? b=some o->F.get? b=some o:=λb o g=>B b o (λC=>by rw[aI.mp C]at g;exact cU _ (aG g)) (ar _ g);rw[l (by rw[aM,c])];exact⟨.int _,H,I.kept (t':=D) kk,⟨t',rfl⟩,q⟩
 .obtain⟨a,j,pl,hz⟩:=I.tuple hp;obtain⟨c,G⟩:=f j;have k:s.heap.IsTuple p a.toArray:=pl;have m:p<s.heap.objs.size:=by
   obtain⟨o,e,_⟩:=id k;exact aG e
  refine call_sum_walkG (kg k ?_);refine⟨s.heap.objs.size,[s.heap.objs.size,p],[s.heap.objs.size],a.toArray.size,_,_,λi=>d.getD i 0,rfl,Walks.tuple (A:=X.A.in1) L _ p (aV m) a.toArray,⟨⟨_,bf _ rfl,rfl,rfl⟩,k.push _⟩,λb E=>?_,λi v w=>G i v w,λF D t' B=>?_⟩
  .simp only[Heap.push,Array.size_push];rcases ax.mp E with e|e
   .rw[e];exact fX _
   .rw[aI.mp e];exact gI m
  .have kk:∀b o,s.heap.get? b=some o->F.get? b=some o:=λb o g=>B b o (λC=>by rw[aI.mp C]at g;exact cU _ (aG g)) (ar _ g);rw[l (by rw[aM,c])];exact⟨.int _,H,I.kept (t':=D) kk,⟨t',rfl⟩,q⟩
end
theorem IJ{X:Cx}(K:f5)(d:X.K=K){a:List Expr}{k:Nat}{b:Pos}{t:TGs}{n:Nat}(e:X.calm=true)(h:PGs X a t)(f:(assignEach a X.env).length=n:=by rfl)(c:(assignEach a X.env).findIdx? (·.1)=none:=by rfl):PG X (.Tuple a k b) (J0 K n t):=by
 subst d;exact kN e h f c
theorem QN{K:f5}{c d:Bool}{a b p:Addr}{xs zs:List V}{Q:VK}{g:TG}{A:TT}{B:TE}{r:St}{v:Hp}(l:Nat->List V->St->Hp->Prop)(S:l 0 [] r v)(O:∀i f h H,l i f h H->Ϫ K c H a xs/\Ϫ K d H b zs)(T:∀(i:Nat) (x z:V) (f:List V) (h:St) (H:Hp) (q:Addr) (N:List V->St->Hp->Prop),(∀o j n,l (i+1) o j n->N o j n)->xs[i]?=some x->zs[i]?=some z->l i f h H->H q=none->g (.ref q) h (upd H q (.tup [x,z])) λk P=>A k P λb w=>
 if b=true then B k w λy D=>D p=some (.lst f)/\f.length<sizeLine/\N (f++[y]) k (upd D p (.lst (f++[y])))else N f k w)(G:∀f h H,l (min xs.length zs.length) f h H->Q (.ref p) H):uP (Itz K c d a b) p Q g A B r v:=by
 refine⟨λi m f h H=>m=min xs.length zs.length-i/\i<=min xs.length zs.length/\l i f h H,⟨_,rfl,bj _,S⟩,?_⟩;rintro i m f h H ⟨rfl,U,pv⟩;obtain⟨s,u⟩:=O i f h H pv;by_cases L:i<min xs.length zs.length
 .refine .inr ⟨⟨xs,zs,xs[i]'(by lia),zs[i]'(by lia),s,u,ao (by lia),ao (by lia)⟩,λx n y=>?_⟩;obtain⟨I,E,R,M,rfl,rfl,J,F⟩:=y;exact T i E R f h H I (λo j n=>∃C,C<min xs.length zs.length-i/\(C=min xs.length zs.length-(i+1)/\i+1<=min xs.length zs.length/\l (i+1) o j n)) (λo j n t=>⟨min xs.length zs.length-(i+1),by lia,rfl,L,t⟩) (J xs s) (F zs u) pv M
 .have e:i=min xs.length zs.length:=by lia
  subst e;exact .inl ⟨⟨xs,zs,s,u,by lia⟩,G f h H pv⟩
theorem wC{H:Hp}{l:Addr}{a:List V}{i:Int}{v:V}{Q:Hp->Prop}(h:H l=some (.lst a))(b:0<=i)(c:i<a.length)(q:Q (upd H l (.lst (a.set i.toNat v)))):aaQ (.ref l) (.int i) v H Q:=⟨l,a,i,i.toNat,rfl,rfl,h,by unfold Zi;rw[aj b,aj (by lia)],q⟩
theorem WC{xs:d2}{i:Int}(a:0<=i)(b:i<xs.length):ϲ (xs.map V.int) i=some (.int (xs.getD i.toNat 0)):=cT a (by
 have h:i.toNat<xs.length:=by lia
 rw[aA,ao h];simp[List.getD,h])
theorem Lh(n:Nat)(v:V):(List.replicate n [v]).flatten=List.replicate n v:=by
 induction n with
 | zero=>rfl
 | succ n ih=>rw[cw,fu,ih,cw];rfl
theorem P9{X:Cx}:Vi X (zq X.K):=by
 intro b s E H x y v u Q I A C h;obtain⟨p,F,i,z,rfl,rfl,k,D,q⟩:=h;cases A;obtain⟨t,rfl⟩:=C;obtain⟨d,r,e,J⟩:=I.list k;obtain⟨j,c,m,G,l,n⟩:=Di D;obtain⟨w,f,o⟩:=r.get m;have B:=r.length;have L:=tH;have a:EP X b E Q w s:=⟨z,H,I,o,q⟩;by_cases g:0<=i
 .have hj:i.toNat=j:=by
   rw[seqIndex_of g n]at c;exact bi c
  exact wpAny_getItem_list e.isList g (by lia) (by rw[hj];simpa using f) a
 .have hj:(i+(d.toArray.size:Int)).toNat=j:=by
   rw[seqIndex_neg (by lia) l]at c;rw[aM,<-B];exact bi c
  exact wpAny_getItem_list_neg e.isList (by lia) (by rw[aM]<;>lia) (by lia) (by rw[hj];simpa using f) a
theorem QY{K:f5}{a p:Addr}{xs:List V}{Q:VK}{g:TG}{u:TT}{v:TE}{n:St}{s:Hp}(j:Nat->List V->St->Hp->Prop)(E:j 0 [] n s)(B:∀i c d H,i<=xs.length->j i c d H->ξ K H a xs)(F:∀(i:Nat) (x:V) (c:List V) (d:St) (H:Hp) (N:List V->St->Hp->Prop),(∀l f k,j (i+1) l f k->N l f k)->xs.reverse[i]?=some x->j i c d H->g x d H λh C=>u h C λb t=>
 if b=true then v h t λy z=>z p=some (.lst c)/\c.length<sizeLine/\N (c++[y]) h (upd z p (.lst (c++[y])))else N c h t)(A:∀c d H,j xs.length c d H->Q (.ref p) H):uP (Itv K a xs.length) p Q g u v n s:=by
 refine⟨λi m c d H=>m=xs.length-i/\i<=xs.length/\j i c d H,⟨xs.length,by simp,bj _,E⟩,?_⟩;rintro i m c d H ⟨rfl,D,pv⟩;have q:=B i c d H D pv;by_cases o:i<xs.length
 .have hx:xs[xs.length-1-i]?=some xs[xs.length-1-i]:=ao (by lia);refine .inr ⟨⟨o,xs,_,q,hx⟩,λx k y=>?_⟩;obtain⟨e,y⟩:=y;subst e;exact F i x c d _ (λl f k=>∃w,w<xs.length-i/\(w=xs.length-(i+1)/\i+1<=xs.length/\j (i+1) l f k)) (λl f k r=>⟨xs.length-(i+1),by lia,rfl,o,r⟩) (by rw[cB o];exact y xs q) pv
 .have e:i=xs.length:=by lia
  subst e;exact .inl ⟨ap _,A c d H pv⟩
end L2
namespace Pb
open L2
def After(a:d3):List Int->List Int->Prop
 | _,[]=>True
 | S,c::t=>a c∈S/\After a (c::S) t
section
variable{m:Int}{q:hH}{r:Int}{f:d3}{o:fz}
theorem After.mono:∀{l S b:d2},(∀x∈S,x∈b)->After f S l->After f b l
 | [],_,_,_,_=>trivial
 | c::t,S,b,h,a=>⟨h _ a.1,After.mono (λx d=>by
  rcases ax.mp d with e|e
  .exact ax.mpr (.inl e)
  .exact aH _ (h x e)) a.2⟩
theorem After.append:∀{e d S:d2},After f S e->After f S d->After f S (e++d)
 | [],_,_,_,b=>b
 | c::t,d,S,a,b=>⟨a.1,After.append a.2 (b.mono λx g=>aH _ g)⟩
theorem After.snoc{c:Int}:∀{l S:d2},After f S l->(f c∈S\/f c∈l)->After f S (l++[c])
 | [],S,_,h=>⟨h.resolve_right (by simp),trivial⟩
 | d::t,S,a,h=>⟨a.1,After.snoc a.2 (by
  rcases h with h|h
  .exact .inl (aH _ h)
  .rcases ax.mp h with e|e
   .exact .inl (ax.mpr (.inl e))
   .exact .inr e)⟩
theorem After.up:∀{A B S:d2},After f S (A++B)->∀k∈A,f k∈S\/f k∈A
 | [],_,_,_,k,hk=>by cases hk
 | c::t,B,S,a,k,hk=>by
   rcases ax.mp hk with e|e
   .rw[e];exact .inl a.1
   .rcases After.up (A:=t) (B:=B) a.2 k e with h|h
    .rcases ax.mp h with h|h
     .exact .inr (by rw[h];exact aJ)
     .exact .inl h
    .exact .inr (aH _ h)
structure Order(m r:Int)(f:d3)(t:d2):Prop where
 nd:(r::t).Nodup
 Χ:∀v∈t,0<=v/\v<m
 all:∀v,0<=v->v<m->v=r\/v∈t
 af:After f [r] t
theorem Order.ne{t:d2}(O:Order m r f t){v:Int}(h:v∈t):v≠r:=λz=>(bg.mp O.nd).1 (z▸h)
theorem BX(g:Good m q)(R:ζ m q r f o):∀(n:Nat)(v:Int)(S:d2),0<=v->v<m->f v∈S->After f S (rC m q r f n v)
 | 0,v,S,_,_,h=>⟨h,trivial⟩
 | n+1,v,S,h0,h1,h=>by
   refine⟨h,?_⟩;have:∀(a:d2)(S:d2),v∈S->(∀u∈a,u∈bQ m q (front r f v) v)->After f S (a.flatMap (rC m q r f n)):=by
    intro a
    induction a with
    | nil=>intro S _ _;exact trivial
    | cons u a ih=>
      intro S d c;rw[bC];obtain⟨b,k,e⟩:=(bw g R h0 h1).mp (c u aJ);exact(BX g R n u S b.1 b.2 (by rw[e];exact d)).append (ih S d λx j=>c x (aH _ j))
   exact this _ _ aJ λu i=>i
theorem BJ(g:Good m q)(R:ζ m q r f o)(c:0<=r)(j:r<m)(i:(bO m q r f o r).Nodup)(b:∀v,v∈bO m q r f o r↔0<=v/\v<m):∃t,bO m q r f o r=r::t/\Order m r f t:=by
 have e:=fL g R c j;refine⟨_,e,?_⟩;rw[e]at i b;refine⟨i,λv w=>(b v).mp (aH _ w),λv s p=>ax.mp ((b v).mpr ⟨s,p⟩),?_⟩;have:∀a:List Int,(∀u∈a,u∈bQ m q (front r f r) r)->After f [r] (a.flatMap (bO m q r f o)):=by
  intro a
  induction a with
  | nil=>intro _;exact trivial
  | cons u a ih=>
    intro h;rw[bC];obtain⟨d,y,n⟩:=(bw g R c j).mp (h u aJ);exact(BX g R _ u [r] d.1 d.2 (by rw[n];exact aJ)).append (ih λx l=>h x (aH _ l))
 exact this _ λu k=>k
def zX(m:Int)(q:hH)(r:Int)(f:d3)(a:d3)(p:hD):Nat->Int->Int
 | 0,v=>a v
 | n+1,v=>a v+((bQ m q (front r f v) v).map λc=>p c (zX m q r f a p n c)).sum
def Φ(m:Int)(q:hH)(r:Int)(f:d3)(o:fz)(a:d3)(p:hD)(v:Int):Int:=zX m q r f a p (m.toNat-1-o v) v
variable{held:d3}{p:hD}
theorem nL(g:Good m q)(R:ζ m q r f o){v:Int}(l:0<=v)(k:v<m):Φ m q r f o held p v=held v+((bQ m q (front r f v) v).map λc=>p c (Φ m q r f o held p c)).sum:=by
 have j:∀u,u∈bQ m q (front r f v) v->(0<=u/\u<m)/\u≠r/\f u=v:=λu=>(bw g R l k).mp;have d:∀u∈bQ m q (front r f v) v,o u=o v+1/\o u+1<=m.toNat:=λu a=>by
  obtain⟨b,h,i⟩:=j u a;have:=R.pos b.1 b.2 h;rw[i]at this;exact⟨this,kM R b.1 b.2⟩
 unfold Φ;cases e:m.toNat-1-o v with
 | zero=>
   have:bQ m q (front r f v) v=[]:=gJ.mpr λu a=>by
    have:=d u a
    lia
   rw[this];simp[zX]
 | succ n=>
   show held v+_=_;rw[bZ λu a=>show p u (zX m q r f held p n u)=p u (zX m q r f held p (m.toNat-1-o u) u) by rw[show m.toNat-1-o u=n by have:=d u a;lia]]
theorem tJ{l a:d2}(h:l.Perm a):l.sum=a.sum:=by
 induction h with
 | nil=>rfl
 | cons x _ ih=>rw[aN,aN,ih]
 | swap x y l=>simp only[aN];lia
 | trans _ _ h1 h2=>exact h1.trans h2
def tK(f:d3)(p:hD)(a:d2)(v:Int):List Int:=a.set (f v).toNat (a.getD (f v).toNat 0+p v (a.getD v.toNat 0))
structure ϙ(m:Int)(q:hH)(r:Int)(f:d3)(o:fz)(held:d3)(p:hD)(t cs:d2):Prop where
 len:(cs.length:Int)=m
 val:∀v,0<=v->v<m->cs.getD v.toNat 0=held v+((t.filter λc=>decide (f c=v)).map λc=>p c (Φ m q r f o held p c)).sum
theorem ϙ.nil{a:d2}(h:(a.length:Int)=m):ϙ m q r f o (λv=>a.getD v.toNat 0) p [] a:=⟨h,λv _ _=>by simp⟩
theorem yR(g:Good m q)(R:ζ m q r f o){t:d2}(b:t.Nodup)(a:∀x∈t,(0<=x/\x<m)/\x≠r){v:Int}(i:0<=v)(e:v<m)(d:∀k,0<=k->k<m->k≠r->f k=v->k∈t):(t.filter λc=>decide (f c=v)).Perm (bQ m q (front r f v) v):=by
 refine gK (b.filter _) nV λx=>?_;rw[bG,bw g R i e,bM];exact⟨λh=>⟨(a x h.1).1,(a x h.1).2,h.2⟩,λh=>⟨d x h.1.1 h.1.2 h.2.1 h.2.2,h.2.2⟩⟩
theorem ϙ.full(g:Good m q)(R:ζ m q r f o){t c:d2}(s:ϙ m q r f o held p t c)(d:t.Nodup)(e:∀x∈t,(0<=x/\x<m)/\x≠r){v:Int}(b:0<=v)(a:v<m)(h:∀k,0<=k->k<m->k≠r->f k=v->k∈t):c.getD v.toNat 0=Φ m q r f o held p v:=by
 rw[s.val v b a,nL g R b a,tJ ((yR g R d e b a h).map _)]
theorem ϙ.step(g:Good m q)(R:ζ m q r f o){t a:d2}(s:ϙ m q r f o held p t a){v:Int}(h:0<=v)(d:v<m)(hr:v≠r)(e:a.getD v.toNat 0=Φ m q r f o held p v):ϙ m q r f o held p (v::t) (tK f p a v) where
 len:=by unfold tK;rw[eR];exact s.len
 val:=λu u0 u1=>by
  have i:=(R.up v h d hr).1;have j:=s.len;have b:=s.val u u0 u1;unfold tK;rw[e];by_cases c:f v=u
  .have hl:u.toNat<a.length:=(by lia);rw[eJ (by simpa using c),aq,aN,c];rw[show(a.set u.toNat (a.getD u.toNat 0+p v (Φ m q r f o held p v))).getD u.toNat 0=a.getD u.toNat 0+p v (Φ m q r f o held p v) by simp[List.getD,hl],b]
   lia
  .rw[dF (by simpa using c),<-b];have:(f v).toNat≠u.toNat:=(by lia);simp[List.getD,dZ this]
theorem Order.places{t:d2}(O:Order m r f t):∀x∈t,(0<=x/\x<m)/\x≠r:=λx a=>⟨O.Χ x a,O.ne a⟩
theorem Order.turn(g:Good m q)(R:ζ m q r f o){t u:d2}(O:Order m r f t){i:Nat}{v:Int}(s:ϙ m q r f o held p (t.drop (t.length-i)) u)(b:t.reverse[i]?=some v):((0<=v/\v<m)/\v≠r)/\u.getD v.toNat 0=Φ m q r f o held p v/\ϙ m q r f o held p (t.drop (t.length-(i+1))) (tK f p u v):=by
 have I:i<t.length:=by
  have:=(az.mp b).1
  rwa [bc]at this
 rw[cB I]at b;generalize J:t.length-1-i=j at b;have F:t.length-i=j+1:=by lia
 have h:t.length-(i+1)=j:=by lia
 rw[F]at s;rw[h];have d:j<t.length:=by lia
 have G:v∈t:=aQ b;have a:=O.places v G;have D:t.drop j=v::t.drop (j+1):=by
  rw[ck d];rw[ao d]at b;cases b
  rfl
 have n:t=t.take j++v::t.drop (j+1):=by rw[<-D,b8]
 have c:=(bg.mp O.nd).2;have A:=c;rw[n]at A;have E:v∉t.take j:=λz=>(dC.mp A).2.2 v z v aJ rfl;have e:=s.full g R (c.sublist (List.drop_sublist _ _)) (λx H=>O.places x (b5 H)) a.1.1 a.1.2 λk B y C l=>by
  rcases O.all k B y with z|z
  .exact absurd z C
  .rw[n]at z;rcases aY.mp z with z|z
   .have af:=O.af;rw[n]at af;rcases af.up k z with w|w
    .rw[l]at w;exact absurd (aI.mp w) a.2
    .rw[l]at w;exact absurd w E
   .rcases ax.mp z with z|z
    .subst z;exact absurd l (R.ne B y C)
    .exact z
 exact⟨a,e,by rw[D];exact s.step g R a.1.1 a.1.2 a.2 e⟩
def qF(m:Int)(q:hH)(r:Int)(f:d3)(o:fz)(held:d3)(p:hD):List Int:=(b6 m.toNat).map (Φ m q r f o held p)
theorem qC{v:Int}(a:0<=v)(b:v<m):(qF m q r f o held p).getD v.toNat 0=Φ m q r f o held p v:=by
 unfold qF;rw[List.getD,aA,fN (by lia),br a]
 rfl
theorem Order.done(g:Good m q)(R:ζ m q r f o){t a:d2}(O:Order m r f t)(s:ϙ m q r f o held p t a):a=qF m q r f o held p:=by
 have l:=s.len;refine eA λi=>?_;by_cases h:i<m.toNat
 .have hc:i<a.length:=by lia
  have e:=s.full g R (bg.mp O.nd).2 O.places (v:=(i:Int)) (by lia) (by lia) λk c b d j=>(O.all k c b).resolve_left d;unfold qF;rw[aA,fN h];rw[bJ,List.getD,ao hc]at e;rw[ao hc];exact congrArg some e
 .unfold qF;rw[bI (by lia),bI (by rw[aa,b7];lia)]
def Η(q:hH)(f:d3)(v x:Int):Int:=x/(cP q v (f v)).getD 1
end
section
variable{m:Int}{f:hH}{r:Int}{par:d3}{dep:fz}{d:d3}
theorem IV(a:∀v,0<=d v)(b:∀v x,0<=x->0<=Η f par v x):∀(n:Nat)(v:Int),0<=zX m f r par d (Η f par) n v
 | 0,v=>a v
 | n+1,v=>by
   show 0<=d v+_;have:∀l:List Int,0<=(l.map λc=>Η f par c (zX m f r par d (Η f par) n c)).sum:=by
    intro l
    induction l with
    | nil=>exact b9 _
    | cons c l ih=>
      rw[aq,aN];have:=b c _ (IV a b n c)
      lia
   have g:=this (bQ m f (front r par v) v);have e:=a v
   lia
theorem SK(g:Good m f)(v x:Int)(h:0<=x):0<=Η f par v x:=by
 unfold Η;refine ik h ?_;cases e:cP f v (par v)with
 | none=>decide
 | some k=>
   have l:=ze.mp (show(cP f v (par v)).isSome=true by rw[e];rfl);obtain⟨x,c,j⟩:=l;obtain⟨i,n⟩:=cJ c;have ok:=g.ok x c;rw[wR g n (by rcases j with⟨a,b⟩|⟨a,b⟩;exact .inl ⟨a,b⟩;exact .inr ⟨a,b⟩)]at e;unfold iW at e;have t0:=ok.t0;have u0:=ok.u0;show 0<=k;split at e
   .cases e;lia
   .split at e
    .cases e;lia
    .cases e
theorem wY(g:Good m f)(a:∀v,0<=d v)(v:Int):0<=Φ m f r par dep d (Η f par) v:=IV a (SK g) _ _
theorem zL(l:d2)(i j:Nat)(x:Int)(h:i<l.length):(l.set i x).getD j 0=if i=j then x else l.getD j 0:=by
 by_cases c:i=j
 .subst c;rw[aj rfl];simp[List.getD,h]
 .rw[ag c];simp[List.getD,dZ c]
end
end Pb
namespace L2
open PySem PySem.Spec PyProof.Rows
def CZ(a:d2)(lo b:Option Int):List Int:=(a.drop (HT.WW a.length 0 lo)).take (HT.WW a.length a.length b-HT.WW a.length 0 lo)
theorem Fz(a:d2)(lo b:Option Int):wQ (a.map V.int) lo b=(CZ a lo b).map V.int:=by
 unfold wQ CZ;rw[aa,mK,jU]
theorem slI{K:f5}{H:Hp}{a:Addr}{b:d2}{lo c:Option Int}{Q:VK}(h:ξ K H a (b.map V.int))(q:∀p,H p=none->Q (.ref p) (upd H p (.lst ((CZ b lo c).map V.int)))):T5 K (.ref a) lo c H Q:=⟨a,_,rfl,h,λp d=>by rw[Fz];exact q p d⟩
theorem ES:∀a b:List Int,PyData.eqvAll (a.map PyData.int) (b.map PyData.int)=decide (a=b)
 | [],[]=>by simp[PyData.eqvAll]
 | [],y::b=>by simp[PyData.eqvAll]
 | x::a,[]=>by simp[PyData.eqvAll]
 | x::a,y::b=>by
   rw[aq,aq];simp only[PyData.eqvAll];rw[ES a b];simp[PyData.eqv];by_cases d:x=y<;>by_cases c:a=b<;>simp[d,c]
theorem Sb(a b:d2):PyData.eqv (.list (a.map PyData.int)) (.list (b.map PyData.int))=decide (a=b):=by
 simp only[PyData.eqv];exact ES a b
def Vp(K:f5)(c:Bool):R2:=λx y H Q=>∃p a i v,x=.ref p/\y=.int i/\Ϫ K c H p a/\ϲ a i=some v/\Q v H
theorem FA{X:Cx}(c:Bool):IxR X (Vp X.K c):=by
 cases c
 .exact jv
 .exact bL
theorem ixX{K:f5}{c:Bool}{H:Hp}{p:Addr}{a:List V}{i:Int}{v:V}{Q:VK}(h:Ϫ K c H p a)(e:ϲ a i=some v)(q:Q v H):Vp K c (.ref p) (.int i) H Q:=⟨p,a,i,v,rfl,rfl,h,e,q⟩
end L2
namespace Pb
open L2 PySem
theorem Iw{c d:Type}{R:c->d->Prop}:∀(n:Nat){a:List c}{b:List d},Paired R a b->Paired R (a.take n) (b.take n)
 | 0,_,_,_=>by rw[eY,eY];exact .nil
 | _+1,_,_,.nil=>.nil
 | n+1,_,_,.cons x xs=>.cons x (Iw n xs)
theorem Iv{c d:Type}{R:c->d->Prop}:∀(n:Nat){a:List c}{b:List d},Paired R a b->Paired R (a.drop n) (b.drop n)
 | 0,_,_,h=>h
 | _+1,_,_,.nil=>.nil
 | n+1,_,_,.cons x xs=>Iv n xs
theorem MC{e f:Type}{R:e->f->Prop}{d:List e}{b:List f}(h:Paired R d b):∀{a:List e}{c:List f},Paired R a c->Paired R (a++d) (c++b)
 | _,_,.nil=>h
 | _,_,.cons x xs=>.cons x (MC h xs)
theorem Uk{c d:Type}{R:c->d->Prop}{a:List c}{b:List d}{q:c}{r:d}(n:Nat)(h:Paired R a b)(e:R q r):Paired R (a.take n++q::a.drop n) (b.take n++r::b.drop n):=MC (.cons e (Iv n h)) (Iw n h)
theorem MX{n:Nat}{a:List Row}{b:Row}(R:Rows n a)(k:b.k=(n:Int)+1)(ok:Ys b):Rows (n+1) (a++[b]):=by
 have e:=R.len;refine⟨by rw[aE,e];rfl,λj r c=>?_⟩;by_cases d:j<a.length
 .rw[dh d]at c;exact R.ok j r c
 .have hj2:j=a.length:=by
   have:=(az.mp c).1;rw[aE]at this;simp at this
   lia
  rw[hj2,da (ap _),d8]at c;cases c;exact⟨by rw[hj2,e];exact k,ok⟩
section
variable{m:Int}{d:hH}{r:Int}{a:d3}{f:fz}
def lH(d:hH)(b:V)(p:Int)(i:Nat):List Int:=((b6 i).filter λq=>(cP d p q).isSome).filter λv=>decide (V.int v≠b)
theorem vL(i:Nat):b6 (i+1)=b6 i++[(i:Int)]:=by
 unfold b6;rw[c8,aw]
 rfl
theorem Aq(p:Int)(b:V):lH d b p m.toNat=bQ m d b p:=by
 unfold lH bQ;rw[MF]
theorem JP{b:V}{p:Int}{i:Nat}(e:(cP d p (i:Int)).isSome=true)(c:V.int (i:Int)≠b):lH d b p (i+1)=lH d b p i++[(i:Int)]:=by
 unfold lH;rw[vL,b4,b4]
 congr 1
 simp[e,c]
theorem BE{b:V}{p:Int}{i:Nat}(h:(cP d p (i:Int)).isSome=true->¬V.int (i:Int)≠b):lH d b p (i+1)=lH d b p i:=by
 unfold lH;rw[vL,b4,b4];have:([(i:Int)].filter λq=>(cP d p q).isSome).filter (λv=>decide (V.int v≠b))=[]:=by
  by_cases c:(cP d p (i:Int)).isSome=true
  .have:=h c;simp[c]
   simpa using this
  .simp[c]
 rw[this,bH]
structure Bfs(m:Int)(d:hH)(r:Int)(a:d3)(t:d2)(k:Nat):Prop where
 J:ύ m d r a t ((r::t).drop k)
 af:After a [r] t
theorem Bfs.start:Bfs m d r a [] 0:=⟨ύ.start,trivial⟩
theorem Bfs.step(g:Good m d)(R:ζ m d r a f)(n:0<=r)(v:r<m){t:d2}{k:Nat}(b:Bfs m d r a t k){p:Int}(i:(r::t)[k]?=some p):Bfs m d r a (t++bQ m d (front r a p) p) (k+1):=by
 have q:=(az.mp i).1;have s:(r::t).drop k=p::(r::t).drop (k+1):=by
  rw[ck q];rw[ao q]at i;cases i
  rfl
 have J:=b.J.step g R n v (p:=p) (ws':=(r::t).drop (k+1)) (by rw[s]);have o:=b.J.at_ n v (p:=p) (by rw[s];exact aJ);have z:p∈r::t:=aQ i;refine⟨?_,?_⟩
 .rw[<-fG,jI (by lia)];exact J
 .have:∀(c l:d2),(∀u∈c,u∈bQ m d (front r a p) p)->After a [r] l->p∈r::l->After a [r] (l++c):=by
   intro c
   induction c with
   | nil=>intro l _ h _;rw[bH];exact h
   | cons u c ih=>
     intro l j h w;obtain⟨D,C,B⟩:=(bw g R o.1 o.2).mp (j u aJ);have y:After a [r] (l++[u]):=h.snoc (by
      rw[B];rcases ax.mp w with e|e
      .exact .inl (by rw[e];exact aJ)
      .exact .inr e)
     have:=ih (l++[u]) (λx A=>j x (aH _ A)) y (by
      rcases ax.mp w with e|e
      .rw[e];exact aJ
      .exact aH _ (bo _ e))
     rwa [bX]at this
  exact this _ t (λu j=>j) b.af z
theorem Bfs.done(R:ζ m d r a f){t:d2}{k:Nat}(e:(r::t).length<=k)(b:Bfs m d r a t k):Order m r a t:=by
 have J:=b.J;rw[mC e]at J;refine⟨bg.mpr ⟨J.nr,J.nd⟩,J.Χ,λv c g=>?_,b.af⟩;by_cases z:v=r
 .exact .inl z
 .exact .inr (J.all R v c g z)
end
end Pb
namespace L2
open PySem PySem.Spec PyProof.Rows
theorem Fy{P:Program}{w:World}{A:Around}{l:Addr}(c:Bool){it:Addr}(m:A.handled=none)(ne:l≠it)(a:Array Value):Draws P w A it [it,l] a.size (λi v=>a[i]?=some v) (λi h=>zAt l c it i h/\Lg l c h a) where
 live:=λi h st=>let ⟨o,e,_⟩:=(ke l c P w).obj _ _ _ st.1;⟨o,e⟩
 frame:=λi h b st k=>⟨(ke l c P w).atK _ _ _ _ st.1 λo e=>k it (by simp) o e,(ke l c P w).Xe _ _ _ st.2 λo e=>k l (by simp) o e⟩
 item:=λi s Q E j st d=>(ke l c P w).item A s it i a a[i] Q E st.1 st.2 (by simp[j]) λb f g=>d a[i] b s.toks (by simp[j]) ⟨f,(ke l c P w).Xe _ _ _ st.2 λo e=>g.extBut _ _ ne e⟩ g
 done:=λs Q E st d=>(ke l c P w).fin A s it a.size a Q E m st.1 st.2 (by simp) λb e n p=>d b e n p
section
variable{P:Program}{w:World}{A:Around}{E:f3}{s:Shared}{l:Addr}{f:Obj}{a:Heap->Array Value->Prop}{i:Addr->Nat->Heap->Prop}
abbrev EL(n:Nat):Obj:={ cls:=.type "enumerate",data:=.fields #[.none,.bool false,.ref n,rawInt 0,.none,.none] }
theorem CK(S:∀P w,Ge P w l f a i)(k:Array Value):Meets (Builtin.«enumerate.__new__» ⟨[.type "enumerate",.ref l],[]⟩) (λ_ R s=>a s.heap k/\R (.ok (.ret (.ref (s.heap.push f).objs.size))) { s with heap:=(s.heap.push f).push (EL s.heap.objs.size) }):=.of_wp λe w A R s j=>by
 obtain⟨n,g,d,o,os⟩:=s;obtain⟨m,r⟩:=j;have p:=sub_enumerate;have h:a (Shared.heap ⟨n,g,d,o,os⟩) k:=m
 wp_walk using ((S e w).start _ _ _ _ _ h)
 refine wpAny_stack_any λst=>?_;dsimp only;refine ba ?_;have q:∀b:Bool,b=true\/b=false:=λb=>by cases b<;>simp
 split
 .rename_i c _ _ _ _ _
  rcases q (c==Value.type "enumerate")with z|z
  .rw[z]
   wp_walk using ((S e w).start _ _ _ _ _ h)
   exact⟨_,rfl,r⟩
  .rw[z]
   wp_walk using ((S e w).start _ _ _ _ _ h)
   exact⟨_,rfl,r⟩
 .wp_walk using ((S e w).start _ _ _ _ _ h)
  exact⟨_,rfl,r⟩
theorem MU(S:∀P w,Ge P w l f a i){j:Array Value}{Q:f3}(p:a s.heap j)(n:f.isFreed=false)(h:∀b,IsEnum b (s.heap.objs.size+1) s.heap.objs.size 0 .none->i s.heap.objs.size 0 b->(∀c o,s.heap.get? c=some o->b.get? c=some o)->Q (.ref (s.heap.objs.size+1)) { s with heap:=b }):wpAny (model P w) A (call (.type "enumerate") [.ref l]) Q E s:=by
 refine callType_new F.called_enumerate (by decide) (F.typeCall_enumerate_1 _) (F.newCall_enumerate_1 _) (λg=>F.args_object_init_2 g _) F.entry_enumerate_new (CK S j) ⟨p,?_⟩;have k:(s.heap.push f).objs.size=s.heap.objs.size+1:=de ..;have d:((s.heap.push f).push (EL s.heap.objs.size)).get? (s.heap.push f).objs.size=some (EL s.heap.objs.size):=bf _ rfl;have m:((s.heap.push f).push (EL s.heap.objs.size)).get? s.heap.objs.size=some f:=ar _ (bf _ n);show _/\_;rw[k]at d;rw[k];exact⟨⟨_,d,rfl⟩,h _ d ((S P w).first _ _ m) λc o e=>ar _ (ar _ e)⟩
end
def Ite(K:f5)(c:Bool)(a:Addr):It:=⟨λi H=>∃b x,Ϫ K c H a b/\b[i]?=some x,λi H v d=>∃p x,H p=none/\v=.ref p/\d=upd H p (.tup [.int i,x])/\∀b,Ϫ K c H a b->b[i]?=some x,λi H=>∃b,Ϫ K c H a b/\b.length=i⟩
theorem Mb{P:Program}{w:World}{K:f5}{G:List Expr}{x1}{We:Pos}(c:Bool)(a e it:Addr)(ne:e≠it)(ae:a≠e)(ai:a≠it):Turn P w K (.Tuple G x1 We) (Ite K c a) [e,it] e (λi h=>(∃y,IsEnum h e it (i:Nat) y)/\zAt a c it i h) where
 mem:=by simp
 obj:=λi h t b hb=>by
  obtain⟨⟨y,t1⟩,F⟩:=t;simp only[ax,dI,or_false]at hb;rcases hb with rfl|rfl
  .exact⟨_,t1,λv z=>by cases z⟩
  .exact(ke a c P w).obj _ _ _ F
 keep:=λi h U t k=>by
  obtain⟨⟨y,t1⟩,F⟩:=t;exact⟨⟨y,k e (by simp) _ t1⟩,(ke a c P w).atK _ _ _ _ F λo e=>k it (by simp) o e⟩
 item:=λX e1 e2 e3 hc i B s σ H E I f t g=>by
  subst e1 e2 e3;obtain⟨⟨y,t1⟩,F⟩:=t;obtain⟨xs,x,s1,hx⟩:=g;obtain⟨L,r1,q1⟩:=I.WX s1;obtain⟨xu,V,rx⟩:=r1.get hx;have hh:X.A.in1.handled=none:=I.ok.hd hc;have D:∀q∈[e,it],ph X B H q:=f;have W:=WalksT.enumerateD (A:=X.A) (Fy (P:=X.prog) (w:=X.w) (A:=X.A.in1) (l:=a) c (it:=it) hh ai L.toArray) e ne (by simp;exact⟨ne,ae.symm⟩) (by simp);have Yt:i<L.toArray.size:=by
   have:=(az.mp V).1
   simpa using this
  refine W.item i s _ _ Yt ⟨⟨y,t1⟩,F,q1⟩ λT a8 U M pt le tup S keep=>?_;refine⟨_,rfl,W.go G x1 We i T { s with heap:=U,toks:=M } _ _ S λY YG R=>?_⟩;obtain⟨tt,xv,px,ev⟩:=pt;have a2:xv=xu:=by
   have h1:L[i]?=some xv:=(by simpa using px);rw[V]at h1;cases h1
   rfl
  subst a2;have Tw:T∉[e,it]:=W.apart i T U S;have kp:∀q o,q∉[e,it]->s.heap.get? q=some o->Y.get? q=some o:=λq o d eo=>R q o d (keep q o d eo);obtain⟨ot,ht,am,nt,an⟩:=tup;have a5:Y.get? T=some ot:=R T ot Tw ht;have O:∀q u,H q=some u->q∉[e,it]:=λq u e d=>by rw[(D q d).1]at e;cases e
  have J:H T=none:=I.ψ.fresh le;have Z:∀q o,s.heap.get? q=some o->q≠T:=λq o eo=>aV (aZ (aG eo) le);have C:Inv X B σ H { s with heap:=Y,toks:=M }:=by
   refine I.step (g':=s.gens) (d':=s.drawn) (t':=M) (ch:=[e,it]) (λq d=>⟨(D q d).2.2.2.1,(D q d).2.1,(D q d).2.2.2.2.1,(D q d).2.2.2.2.2⟩) (λq o _ _ d e _=>kp q o d e) (λq o _ _ d e _=>⟨o.slots,kp q o d e⟩) (λ_ _ _ _ n=>n)
    (λq o d e=>⟨o,kp q o d e⟩) (λ_ _ e=>e) (λ_ _ _ e=>e) (λq ps e=>⟨#[],by rw[e];simp⟩) (λm hm=>?_) (λq u e=>?_) I.bare
   .obtain⟨o,es,ep,ho,r⟩:=hm;exact⟨o,es,ep,kp _ o (λd=>(D _ d).2.1 rfl) ho,r⟩
   .refine(I.ψ q u e).iF (λN v Wn j=>kp N v ?_ j) (λ_ j=>j) λ_ _ j=>j;rcases Wn with rfl|Wn
    .exact O _ u e
    .exact O _ _ Wn
  have I3:Inv X B σ (upd H T (.tup [.int i,x])) { s with heap:=Y,toks:=M }:=by
   refine⟨C.ok,C.os,C.bare,?_,C.loc,C.cell,?_,λn c e=>?_,λp hp=>?_,λq u e=>?_,C.len⟩
   .refine⟨C.base.keep,C.base.slot,λq o e n hx=>?_,C.base.there,λq xs e=>?_,λq o u e=>?_,λq ps e=>?_⟩
    .have lt:q<X.s₀.heap.objs.size:=aG e;rw[aR (aV (aZ lt (aL I.sz le)))];exact C.base.free q o e n hx
    .have j:=C.base.oR q xs e;rw[aR (λz=>by rw[z,J]at j;cases j)];exact j
    .have j:=C.base.iN q o u e;rw[aR (λz=>by rw[z,J]at j;cases j)];exact j
    .obtain⟨more,j⟩:=C.base.rW q ps e;exact⟨more,by rw[aR (λz=>by rw[z,J]at j;cases j)];exact j⟩
   .rw[aR (aV (aZ I.lt le))];exact C.free
   .obtain⟨vv,o,ho,_⟩:=I.cell n c e;rw[aR (Z _ _ ho)];exact C.Ϟ n c e
   .obtain⟨k1,k2,k3⟩:=I.pin p hp;rw[aR (Z _ _ k1)];exact C.pin p hp
   .by_cases d:q=T
    .subst d;rw[ay]at e;cases e;refine⟨by show 2<=sizeLine;decide,[.int (i:Nat) tt,xv],.cons ⟨tt,rfl⟩ (.cons rx .nil),ot,a5,am,nt,?_⟩;rw[an,ev]
    .rw[aR d]at e;refine(C.ψ q u e).iF (λ_ _ _ j=>j) (λN j=>?_) λN xs j=>?_
     .rw[aR (λz=>by rw[z,J]at j;cases j)];exact j
     .rw[aR (λz=>by rw[z,J]at j;cases j)];exact j
  refine⟨.ref T,_,I3,rfl,⟨T,x,J,rfl,rfl,λbk q=>?_⟩,⟨YG.1,YG.2.1⟩,λq d=>?_⟩
  .rw[<-I.Xf s1 q];exact hx
  .have ό:q≠T:=by
    simp only[ax,dI,or_false]at d;rcases d with rfl|rfl
    .exact Z _ _ t1
    .exact let ⟨o,e,_⟩:=(ke a c X.prog X.w).obj _ _ _ F;Z _ _ e
   rw[aR ό];exact(D q d).1
 done:=λX e1 e2 e3 hc i B s σ H E I f t g=>by
  subst e1 e2 e3;obtain⟨⟨y,t1⟩,F⟩:=t;obtain⟨xs,s1,bm⟩:=g;obtain⟨L,r1,q1⟩:=I.WX s1;have hh:X.A.in1.handled=none:=I.ok.hd hc;have D:∀q∈[e,it],ph X B H q:=f;have W:=WalksT.enumerateD (A:=X.A) (Fy (P:=X.prog) (w:=X.w) (A:=X.A.in1) (l:=a) c (it:=it) hh ai L.toArray) e ne (by simp;exact⟨ne,ae.symm⟩) (by simp);have ei:i=L.toArray.size:=by
   have:=r1.length;simp
   lia
  subst ei;refine W.done s _ _ ⟨⟨y,t1⟩,F,q1⟩ λU M keep=>⟨rfl,?_⟩;have kp:∀q o,q∉[e,it]->s.heap.get? q=some o->U.get? q=some o:=λq o d e=>keep q o d e;have O:∀q u,H q=some u->q∉[e,it]:=λq u e d=>by rw[(D q d).1]at e;cases e
  refine I.step (g':=s.gens) (d':=s.drawn) (t':=M) (ch:=[e,it]) (λq d=>⟨(D q d).2.2.2.1,(D q d).2.1,(D q d).2.2.2.2.1,(D q d).2.2.2.2.2⟩) (λq o _ _ d e _=>kp q o d e) (λq o _ _ d e _=>⟨o.slots,kp q o d e⟩) (λ_ _ _ _ n=>n)
   (λq o d e=>⟨o,kp q o d e⟩) (λ_ _ e=>e) (λ_ _ _ e=>e) (λq ps e=>⟨#[],by rw[e];simp⟩) (λm hm=>?_) (λq u e=>?_) I.bare
  .obtain⟨o,es,ep,ho,r⟩:=hm;exact⟨o,es,ep,kp _ o (λd=>(D _ d).2.1 rfl) ho,r⟩
  .refine(I.ψ q u e).iF (λN v Wn j=>kp N v ?_ j) (λ_ j=>j) λ_ _ j=>j;rcases Wn with rfl|Wn
   .exact O _ u e
   .exact O _ _ Wn
 self:=λA i s Q E t q=>by
  obtain⟨⟨y,t1⟩,F⟩:=t;exact wpAny_pyIter_enum t1 q
def JS(K:f5)(c:Bool)(e:TE):TI:=λf H R=>e f H λx b=>∃a,x=.ref a/\(∃d,Ϫ K c b a d)/\R (Ite K c a) b
section
variable{X:Cx}{e:Expr}{f:TE}{g d:Pos}
theorem xW{k:List Expr}{x1}{We:Pos}(c:Bool)(hg:Gl X "enumerate")(hm:X.mg "enumerate"=none)(he:PE X e f)(h2:starEach [e] X.env=[(false,eval e X.env)]:=by rfl):PI X (.Tuple k x1 We) (.Call (.Name "enumerate" g) [e] [] d) (JS X.K c f):=by
 intro i s C H R I h;refine Call_ (oP I hg hm boot_enumerate (cG ?_ h2 rfl));rw[h2];show wpAny _ _ (spliced ((false,eval e X.env)::backTo d [])) _ _ s;refine gG (dR (he i s C H _ I h) λu m x y n t l=>gQ ?_);obtain⟨a,A,⟨D,w⟩,q⟩:=l;subst A;cases t;obtain⟨E,t,l⟩:=n.WX w;obtain⟨F,o⟩:=ss a c _ _ l;have p:=aG o;refine MU (ke a c) l (wZ a c) λG r z B=>?_;refine wpAny_pyIter_enum r ?_;refine⟨_,[m.heap.objs.size+1,m.heap.objs.size],_,_,y,rfl,n.kept (t':=m.toks) B,Mb c a _ _ (Nat.succ_ne_self _) (aV (gI p)) (aV p),⟨⟨_,r⟩,z⟩,λb v=>?_,q⟩;have j:m.heap.objs.size<=b:=by
  simp only[ax,dI,or_false]at v;rcases v with rfl|rfl
  .exact fE _
  .exact ap _
 exact n.YL j (n.ψ.fresh j)
end
theorem zp{K:f5}{c:Bool}{a:Addr}{xs:List V}{g:TG}{q:TS}{D:Ends}{b:St}{H:Hp}(f:Nat->St->Hp->Prop)(A:f 0 b H)(v:∀i b H,f i b H->Ϫ K c H a xs)(B:∀(i:Nat) (x:V) (b:St) (H:Hp) (p:Addr) (N:St->Hp->Prop),(∀d h,f (i+1) d h->N d h)->xs[i]?=some x->f i b H->H p=none->g (.ref p) b (upd H p (.tup [.int i,x])) λj w=>q { D with nx:=N,ct:=N,bk:=D.nx } j w)(s:∀b H,f xs.length b H->D.nx b H):rZ (Ite K c a) D g q b H:=by
 refine⟨λi m b H=>m=xs.length-i/\i<=xs.length/\f i b H,⟨_,rfl,bj _,A⟩,?_⟩;rintro i m b H ⟨rfl,C,p⟩;have l:=v i b H p;by_cases n:i<xs.length
 .refine .inr ⟨⟨xs,xs[i],l,ao n⟩,λd h=>∃o,o<xs.length-i/\(o=xs.length-(i+1)/\i+1<=xs.length/\f (i+1) d h),λd h z=>z,λx h y=>?_⟩;obtain⟨k,r,u,rfl,rfl,t⟩:=y;exact B i r b H k _ (λd h k=>⟨xs.length-(i+1),by lia,rfl,n,k⟩) (t xs l) p u
 .have e:i=xs.length:=by lia
  subst e;exact .inl ⟨⟨xs,l,rfl⟩,s b H p⟩
end L2
namespace Pb
open L2 PySem
theorem Jh{e f:Type}{R:e->f->Prop}{a:e}{b:f}(h:R a b):∀{c:List e}{d:List f},Paired R c d->Paired R (c++[a]) (d++[b])
 | _,_,.nil=>.cons h .nil
 | _,_,.cons x xs=>.cons x (Jh h xs)
end Pb
namespace Pb
open L2
section
variable{m:Int}{i:hH}{r:Int}{b:d3}{d:fz}{a g:d3}{e:hD}
theorem qy{f h:d3}{l:d2}(j:∀c∈l,f c=h c):(l.map f).sum=(l.map h).sum:=by rw[bZ j]
end
end Pb
namespace L2
open PySem PySem.Spec PyProof.Rows
theorem LB(a:List V){k:Int}(e:0<=k):wQ a (some k) none=a.drop k.toNat:=by
 unfold wQ;have b:HT.WW a.length a.length none=a.length:=rfl;have d:HT.WW a.length 0 (some k)=min k.toNat a.length:=by
  show(if k<0 then(k+(a.length:Int)).toNat else min k.toNat a.length)=_;rw[ag (by lia)]
 rw[b,d,dc (by rw[fx];lia)];by_cases c:k.toNat<=a.length
 .rw[Nat.min_eq_left c]
 .rw[Nat.min_eq_right (by lia),mr (ap _),mr (by lia)]
end L2
namespace Pb
open L2 PySem
section
variable{m:Int}{d:hH}{r b:Int}{a:d3}{c:fz}
def C3(a:d3)(b:Int):Nat->Int->Bool
 | 0,v=>decide (v=b)
 | n+1,v=>decide (v=b)||C3 a b n (a v)
def ben(a:d3)(c:fz)(b v:Int):Bool:=C3 a b (c v) v
theorem O1(R:ζ m d r a c){v:Int}(f:0<=v)(g:v<m)(e:v≠r):ben a c b v=(decide (v=b)||ben a c b (a v)):=by
 unfold ben;rw[R.pos f g e]
 rfl
end
end Pb
namespace L2
theorem cL{A B:TS}{D:Ends}{c:St}{H:Hp}(h:∀N:St->Hp->Prop,(∀a b,B D a b->N a b)->A { D with nx:=N } c H):K6 A B D c H:=h (B D) λ_ _ z=>z
end L2
namespace L2
open PySem
theorem mG{K:f5}{a:Addr}{xs:List V}{g:TG}{f:TS}{D:Ends}{b:St}{H:Hp}(d:Nat->St->Hp->Prop)(o:d 0 b H)(n:∀i b H,i<=xs.length->d i b H->ξ K H a xs)(q:∀(i:Nat) (x:V) (b:St) (H:Hp) (N B:St->Hp->Prop),(∀b H,(g x b H λc h=>f { D with nx:=N,ct:=N,bk:=D.nx } c h)->B b H)->(∀e j,d (i+1) e j->N e j)->xs[i]?=some x->d i b H->B b H)(k:∀(B:St->Hp->Prop) b H,(∀b H,D.nx b H->B b H)->d xs.length b H->B b H):rZ (Itl K a) D g f b H:=xp d o n (λi x b H N l m p=>q i x b H N (λb H=>g x b H λc h=>f { D with nx:=N,ct:=N,bk:=D.nx } c h) (λ_ _ z=>z) l m p) λb H p=>k (λb H=>D.nx b H) b H (λ_ _ z=>z) p
theorem vO{lo:Int}{n:Nat}{g:TG}{e:TS}{D:Ends}{a:St}{H:Hp}(d:Nat->St->Hp->Prop)(m:d 0 a H)(o:∀(i:Nat) (a:St) (H:Hp) (N B:St->Hp->Prop),(∀a H,(g (.int (lo+i)) a H λb f=>e { D with nx:=N,ct:=N,bk:=D.nx } b f)->B a H)->(∀c h,d (i+1) c h->N c h)->i<n->d i a H->B a H)(j:∀(B:St->Hp->Prop) a H,(∀a H,D.nx a H->B a H)->d n a H->B a H):rZ (ZN lo n) D g e a H:=pW d m (λi a H N k l p=>o i a H N (λa H=>g (.int (lo+i)) a H λb f=>e { D with nx:=N,ct:=N,bk:=D.nx } b f) (λ_ _ z=>z) k l p) λa H p=>j (λa H=>D.nx a H) a H (λ_ _ z=>z) p
theorem Cz{c:TT}{h:TS}{D:Ends}{d:St}{H:Hp}(W:Nat->St->Hp->Prop)(j:Nat)(m:W j d H)(o:∀(n:Nat) (d:St) (H:Hp) (N:St->Hp->Prop) (B:Nat->St->Hp->Prop),(∀n d H,(c d H λb g=>if b=true then ∃N:St->Hp->Prop,(∀a e,N a e->∃f,f<n/\W f a e)/\h { D with nx:=N,ct:=N,bk:=D.nx } d g else D.nx d g)->B n d H)->(∀i a e,i<n->W i a e->N a e)->(∀a e,N a e->∃f,f<n/\W f a e)->W n d H->B n d H):Ff c h D d H:=u9 W j m λn d H N k l w=>o n d H N (λn d H=>c d H λb g=>if b=true then ∃N:St->Hp->Prop,(∀a e,N a e->∃f,f<n/\W f a e)/\h { D with nx:=N,ct:=N,bk:=D.nx } d g else D.nx d g) (λ_ _ _ z=>z) k l w
theorem an4{c d b a:Prop}(h:c)(g:d)(f:b)(e:a):c/\d/\b/\a:=⟨h,g,f,e⟩
theorem an6{d f c a e b:Prop}(h:d)(k:f)(i:c)(g:a)(l:e)(j:b):d/\f/\c/\a/\e/\b:=⟨h,k,i,g,l,j⟩
theorem an7{e g d a f b c:Prop}(i:e)(m:g)(j:d)(h:a)(n:f)(k:b)(l:c):e/\g/\d/\a/\f/\b/\c:=⟨i,m,j,h,n,k,l⟩
end L2
namespace Pb
open L2 PySem
section
variable{m:Int}{e:hH}{r b:Int}{a:d3}{d:fz}
theorem Iq:∀(n:Nat)(v:Int),C3 a b n v=decide (b∈m9 a n v)
 | 0,v=>by
   show decide (v=b)=decide (b∈[v]);exact kW.mpr ⟨λz=>by rw[z];exact aJ,λz=>(aI.mp z).symm⟩
 | n+1,v=>by
   show(decide (v=b)||C3 a b n (a v))=decide (b∈v::m9 a n (a v));rw[Iq n (a v)];by_cases c:v=b
   .rw[bh c,Bool.true_or,bh (by rw[c];exact aJ)]
   .rw[bA c,nh];exact kW.mpr ⟨λz=>aH _ z,λz=>by
     rcases ax.mp z with z|z
     .exact absurd z.symm c
     .exact z⟩
end
section
variable{m:Int}{j:hH}{r b:Int}{a:d3}{d:fz}
theorem Q7:∀(k:Nat)(x:Int),up a (k+1) x=up a k (a x)
 | 0,_=>rfl
 | k+1,x=>by show a (up a (k+1) x)=a (up a k (a x));rw[Q7 k x]
theorem y8:∀(n k:Nat)(x:Int),k<=n->up a k x∈m9 a n x
 | 0,0,x,_=>aJ
 | n+1,0,x,_=>aJ
 | n+1,k+1,x,h=>by
   rw[Q7];exact aH _ (y8 n k (a x) (by lia))
theorem Js{f:Int->List Int}:∀{l:d2}{k:Nat}{p:Int},(l.flatMap f)[k]?=some p->∃u∈l,∃e rest,(f u)[e]?=some p/\(l.flatMap f).drop k=(f u).drop e++rest
 | [],k,p,h=>by simp at h
 | u::l,k,p,h=>by
   rw[bC]at h ⊢;by_cases c:k<(f u).length
   .rw[dh c]at h;exact⟨u,aJ,k,l.flatMap f,h,jI (i9 c)⟩
   .rw[da (by lia)]at h;obtain⟨w,i,e,rest,n,g⟩:=Js h;refine⟨w,aH _ i,e,rest,n,?_⟩;rw[<-g,List.drop_append,mC (by lia),ga]
theorem QG(g:Good m j)(R:ζ m j r a d):∀(n:Nat)(v:Int),m.toNat-1-d v=n->0<=v->v<m->∀(k:Nat)(p:Int),(bO m j r a d v)[k]?=some p->∃rest,(bO m j r a d v).drop k=bO m j r a d p++rest:=by
 intro n
 induction n with
 | zero=>
   intro v o i l k p h;have e:bO m j r a d v=[v]:=by unfold bO;rw[o];rfl
   cases k with
   | zero=>
     have:p=v:=(by rw[e]at h;exact(bi h).symm);rw[this];exact⟨[],by rw[bH];rfl⟩
   | succ k=>rw[e]at h;simp at h
 | succ n ih=>
   intro v o i l k p h;have e:=fL g R i l;cases k with
   | zero=>
     have:p=v:=(by rw[e]at h;exact(bi h).symm);rw[this];exact⟨[],by rw[bH];rfl⟩
   | succ k=>
     rw[e,iK]at h;obtain⟨u,x,t,rest,z,s⟩:=Js h;obtain⟨c,q,up⟩:=(bw g R i l).mp x;have y:=R.pos c.1 c.2 q;rw[up]at y;have dl:=kM R c.1 c.2;obtain⟨f,w⟩:=ih u (by lia) c.1 c.2 t p z;exact⟨f++rest,by rw[e,nB,s,w,bX]⟩
theorem zQ(g:Good m j)(R:ζ m j r a d){v:Int}(c:0<=v)(e:v<m):v∈bO m j r a d v:=by
 rw[fL g R c e];exact aJ
theorem RV(g:Good m j)(R:ζ m j r a d){p:Int}(l:0<=p)(f:p<m)(x:Int):x∈bO m j r a d p↔(0<=x/\x<m)/\ben a d p x=true:=by
 constructor
 .intro h;obtain⟨c,k,v,o⟩:=(oz g R _ p l f).2 x h;refine⟨c,?_⟩;unfold ben;rw[Iq];refine bh ?_;rw[<-o];exact y8 _ _ _ (by lia)
 .rintro⟨c,h⟩;generalize t:d x=n
  induction n generalizing x with
  | zero=>
    by_cases z:x=r
    .subst z;have:p=x:=by
      unfold ben at h;rw[R.root]at h;exact(bN h).symm
     rw[this];exact zQ g R c.1 c.2
    .have:=R.pos c.1 c.2 z
     lia
  | succ n ih=>
    have z:x≠r:=λz=>by rw[z,R.root]at t;lia
    have u:=R.up x c.1 c.2 z;rw[O1 R c.1 c.2 z]at h;by_cases y:x=p
    .rw[y];exact zQ g R l f
    .rw[bA y,nh]at h;have s:=ih (a x) u.1 h (by lia);obtain⟨k,q⟩:=cJ s;obtain⟨rest,e⟩:=QG g R _ p rfl l f k _ q;refine b5 (i:=k) ?_;rw[e,fL g R u.1.1 u.1.2];refine bo _ (aH _ (dM.mpr ⟨x,(bw g R u.1.1 u.1.2).mpr ⟨c,z,rfl⟩,zQ g R c.1 c.2⟩))
end
end Pb
namespace L2
open PySem
def VJ(_ j:Int):Prop:=0<j/\j.natAbs.log2<9000
theorem FP{X:Cx}:iS X (binaryOp .FloorDiv) (rI VJ λi j=>.int (i/j)):=opI λi j _ _ _ _ _ a q=>by
 have b:(0:Int)<j:=a.1;exact PyProof.Rows.floordiv_int (by lia) (by rw[kF i (by lia)];exact q) (.inl (PyProof.noPylong_of_log2 a.2))
end L2
namespace Pb
open PySem L2
def vPr(r:Int)(a:d3)(v:Int):List V:=[.int v,front r a v]
abbrev Μ(H:Hp)(r:Int)(a:d3):List Addr->List Int->Prop:=Paired λq v=>H q=some (.tup (vPr r a v))
theorem Μ.same{H d:Hp}{r:Int}{a:d3}{c:gg}{b:d2}(e:δ H d)(h:Μ H r a c b):Μ d r a c b:=Paired.imp' (λq v x=>e q _ x) h
theorem Μ.get{H:Hp}{r:Int}{c:d3}:∀{d:gg}{f:d2}{i:Nat}{x:V},Μ H r c d f->(d.map V.ref)[i]?=some x->∃p v,x=.ref p/\d[i]?=some p/\f[i]?=some v/\H p=some (.tup (vPr r c v))
 | _,_,i,x,.nil,e=>by simp at e
 | _,_,0,x,.cons (a:=p) (b:=r) h hs,e=>⟨p,r,by simpa using e.symm,by simp,by simp,h⟩
 | a::l1,_,i+1,x,.cons h hs,e=>by
   have k:(List.map V.ref l1)[i]?=some x:=by simpa using e
   obtain⟨p,r,l,j,g,m⟩:=Μ.get hs k;exact⟨p,r,l,by simpa using j,by simpa using g,m⟩
theorem Μ.snoc{H:Hp}{r:Int}{a:d3}{q:Addr}{v:Int}(e:H q=some (.tup (vPr r a v))):∀{c:gg}{b:d2},Μ H r a c b->Μ H r a (c++[q]) (b++[v])
 | _,_,.nil=>.cons e .nil
 | _,_,.cons x xs=>.cons x (Μ.snoc e xs)
theorem IA{e f:Type}{R:e->f->Prop}{d:List e}{b:List f}(h:Paired R d b):∀{a:List e}{c:List f},Paired R a c->Paired R (a++d) (c++b)
 | _,_,.nil=>h
 | _,_,.cons x xs=>.cons x (IA h xs)
end Pb
set_option exponentiation.threshold 5000
namespace Pb
open L2 PySem
section
variable{m:Int}{q:hH}{r:Int}{d:d3}{o:fz}
def foU(C:hD)(m:Int)(q:hH)(r:Int)(d:d3)(p:d3)(A:hD):Nat->Int->Int
 | 0,v=>p v
 | n+1,v=>((bQ m q (front r d v) v).map λc=>A c (foU C m q r d p A n c)).foldl C (p v)
def fo(C:hD)(m:Int)(q:hH)(r:Int)(d:d3)(o:fz)(p:d3)(A:hD)(v:Int):Int:=foU C m q r d p A (m.toNat-1-o v) v
variable{C:hD}{p:d3}{A:hD}
theorem sA(g:Good m q)(R:ζ m q r d o){v:Int}(k:0<=v)(j:v<m):fo C m q r d o p A v=((bQ m q (front r d v) v).map λc=>A c (fo C m q r d o p A c)).foldl C (p v):=by
 have f:∀u∈bQ m q (front r d v) v,o u=o v+1/\o u+1<=m.toNat:=λu a=>by
  obtain⟨b,h,i⟩:=(bw g R k j).mp a;have:=R.pos b.1 b.2 h;rw[i]at this;exact⟨this,kM R b.1 b.2⟩
 unfold fo;cases e:m.toNat-1-o v with
 | zero=>
   have:bQ m q (front r d v) v=[]:=gJ.mpr λu a=>by
    have:=f u a
    lia
   rw[this]
   rfl
 | succ n=>
   show List.foldl C (p v) _=_;rw[bZ λu a=>show A u (foU C m q r d p A n u)=A u (foU C m q r d p A (m.toNat-1-o u) u) by rw[show m.toNat-1-o u=n by have:=f u a;lia]]
def zu(C:hD):Prop:=∀a b c,C (C a b) c=C (C a c) b
theorem L0(c:zu C){l b:d2}(h:l.Perm b):∀a,l.foldl C a=b.foldl C a:=by
 induction h with
 | nil=>exact λ_=>rfl
 | cons x _ ih=>exact λa=>ih _
 | swap x y l=>intro a;show List.foldl C (C (C a y) x) l=List.foldl C (C (C a x) y) l;rw[c]
 | trans _ _ h1 h2=>exact λa=>(h1 a).trans (h2 a)
theorem IG(b:zu C):∀(l:d2)(a x:Int),l.foldl C (C a x)=C (l.foldl C a) x
 | [],a,x=>rfl
 | y::l,a,x=>by show l.foldl C (C (C a x) y)=C (l.foldl C (C a y)) x;rw[b,IG b l]
def xT(C:hD)(d:d3)(A:hD)(a:d2)(v:Int):List Int:=a.set (d v).toNat (C (a.getD (d v).toNat 0) (A v (a.getD v.toNat 0)))
structure Le(C:hD)(m:Int)(q:hH)(r:Int)(d:d3)(o:fz)(p:d3)(A:hD)(t cs:d2):Prop where
 len:(cs.length:Int)=m
 val:∀v,0<=v->v<m->cs.getD v.toNat 0=((t.filter λc=>decide (d c=v)).map λc=>A c (fo C m q r d o p A c)).foldl C (p v)
theorem Le.nil{a:d2}(h:(a.length:Int)=m)(e:∀v,0<=v->v<m->a.getD v.toNat 0=p v):Le C m q r d o p A [] a:=⟨h,λv c b=>e v c b⟩
theorem Le.full(i:zu C)(g:Good m q)(R:ζ m q r d o){t c:d2}(s:Le C m q r d o p A t c)(e:t.Nodup)(f:∀x∈t,(0<=x/\x<m)/\x≠r){v:Int}(b:0<=v)(a:v<m)(h:∀k,0<=k->k<m->k≠r->d k=v->k∈t):c.getD v.toNat 0=fo C m q r d o p A v:=by
 rw[s.val v b a,sA g R b a,L0 i ((yR g R e f b a h).map _)]
theorem Le.step(f:zu C)(g:Good m q)(R:ζ m q r d o){t a:d2}(s:Le C m q r d o p A t a){v:Int}(i:0<=v)(h:v<m)(hr:v≠r)(e:a.getD v.toNat 0=fo C m q r d o p A v):Le C m q r d o p A (v::t) (xT C d A a v) where
 len:=by unfold xT;rw[eR];exact s.len
 val:=λu u0 u1=>by
  have j:=(R.up v i h hr).1;have k:=s.len;have b:=s.val u u0 u1;unfold xT;rw[e];by_cases c:d v=u
  .have hl:u.toNat<a.length:=(by lia);rw[eJ (by simpa using c),aq,List.foldl_cons,IG f,<-b,c];simp[List.getD,hl]
  .rw[dF (by simpa using c),<-b];have:(d v).toNat≠u.toNat:=(by lia);simp[List.getD,dZ this]
theorem Order.cut(R:ζ m q r d o){t:d2}(O:Order m r d t){i:Nat}{v:Int}(a:t.reverse[i]?=some v):((0<=v/\v<m)/\v≠r)/\t.drop (t.length-(i+1))=v::t.drop (t.length-i)/\(t.drop (t.length-i)).Nodup/\(∀x∈t.drop (t.length-i),(0<=x/\x<m)/\x≠r)/\∀k,0<=k->k<m->k≠r->d k=v->k∈t.drop (t.length-i):=by
 have G:i<t.length:=by
  have:=(az.mp a).1
  rwa [bc]at this
 rw[cB G]at a;generalize H:t.length-1-i=j at a;have D:t.length-i=j+1:=by lia
 have e:t.length-(i+1)=j:=by lia
 rw[D,e];have c:j<t.length:=by lia
 have E:v∈t:=aQ a;have u:=O.places v E;have y:t.drop j=v::t.drop (j+1):=by
  rw[ck c];rw[ao c]at a;cases a
  rfl
 have g:t=t.take j++v::t.drop (j+1):=by rw[<-y,b8]
 have b:=(bg.mp O.nd).2;have l:=b;rw[g]at l;have B:v∉t.take j:=λz=>(dC.mp l).2.2 v z v aJ rfl;refine⟨u,y,b.sublist (List.drop_sublist _ _),λx F=>O.places x (b5 F),λk n h s f=>?_⟩;rcases O.all k n h with z|z
 .exact absurd z s
 .rw[g]at z;rcases aY.mp z with z|z
  .have af:=O.af;rw[g]at af;rcases af.up k z with w|w
   .rw[f]at w;exact absurd (aI.mp w) u.2
   .rw[f]at w;exact absurd w B
  .rcases ax.mp z with z|z
   .subst z;exact absurd f (R.ne n h s)
   .exact z
theorem Order.adH(c:zu C)(g:Good m q)(R:ζ m q r d o){t b:d2}(O:Order m r d t){i:Nat}{v:Int}(s:Le C m q r d o p A (t.drop (t.length-i)) b)(l:t.reverse[i]?=some v):((0<=v/\v<m)/\v≠r)/\b.getD v.toNat 0=fo C m q r d o p A v/\Le C m q r d o p A (t.drop (t.length-(i+1))) (xT C d A b v):=by
 obtain⟨a,j,f,h,k⟩:=O.cut R l;have e:=s.full c g R f h a.1.1 a.1.2 k;exact⟨a,e,by rw[j];exact s.step c g R a.1.1 a.1.2 a.2 e⟩
def foL(C:hD)(m:Int)(q:hH)(r:Int)(d:d3)(o:fz)(p:d3)(A:hD):List Int:=(b6 m.toNat).map (fo C m q r d o p A)
theorem gN{v:Int}(a:0<=v)(b:v<m):(foL C m q r d o p A).getD v.toNat 0=fo C m q r d o p A v:=by
 unfold foL;rw[List.getD,aA,fN (by lia),br a]
 rfl
theorem qE:(foL C m q r d o p A).length=m.toNat:=by unfold foL;rw[aa,b7]
theorem Order.doneF(c:zu C)(g:Good m q)(R:ζ m q r d o){t a:d2}(O:Order m r d t)(s:Le C m q r d o p A t a):a=foL C m q r d o p A:=by
 have n:=s.len;refine eA λi=>?_;by_cases h:i<m.toNat
 .have hc:i<a.length:=by lia
  have e:=s.full c g R (bg.mp O.nd).2 O.places (v:=(i:Int)) (by lia) (by lia) λk f b j l=>(O.all k f b).resolve_left j;unfold foL;rw[aA,fN h];rw[bJ,List.getD,ao hc]at e;rw[ao hc];exact congrArg some e
 .rw[bI (by lia),bI (by rw[qE];lia)]
def mx(i j:Int):Int:=if j>i then j else i
theorem IC:zu mx:=λa b c=>by
 have h:∀x y,mx x y=max x y:=λx y=>by unfold mx;lia
 rw[h,h,h,h]
 lia
def bor(q:hH)(d:d3)(v x:Int):Int:=x*(cP q v (d v)).getD 1
abbrev ο(m:Int)(q:hH)(r:Int)(d:d3)(o:fz):Int->Int:=fo mx m q r d o (λ_=>1) (bor q d)
abbrev dD(m:Int)(q:hH)(r:Int)(d:d3)(o:fz):List Int:=foL mx m q r d o (λ_=>1) (bor q d)
theorem yc{B:Int}:∀(l:d2)(a:Int),a<=B->(∀x∈l,x<=B)->a<=l.foldl mx a/\l.foldl mx a<=B/\∀x∈l,x<=l.foldl mx a
 | [],a,h,_=>⟨b9 _,h,λx b=>by cases b⟩
 | y::l,a,h,hl=>by
   have j:=hl y aJ;have c:a<=mx a y/\y<=mx a y/\mx a y<=B:=by unfold mx;split<;>lia
   obtain⟨f,g,i⟩:=yc l (mx a y) c.2.2 λx b=>hl x (aH _ b);refine⟨bE c.1 f,g,λx b=>?_⟩;rcases ax.mp b with e|e
   .rw[e];exact bE c.2.1 f
   .exact i x e
theorem Az(g:Good m q)(R:ζ m q r d o):∀(n:Nat)(v:Int),0<=v->v<m->1<=foU mx m q r d (λ_=>1) (bor q d) n v/\foU mx m q r d (λ_=>1) (bor q d) n v<=1000000^n
 | 0,v,_,_=>⟨b9 _,b9 _⟩
 | n+1,v,h0,h1=>by
   have w:(1:Int)<=1000000^n:=Int.pow_pos (by decide);have l:(1000000:Int)^(n+1)=1000000^n*1000000:=Int.pow_succ ..;show 1<=List.foldl mx 1 _/\List.foldl mx 1 _<=_;obtain⟨f,e,_⟩:=yc (B:=1000000^(n+1)) ((bQ m q (front r d v) v).map λc=>bor q d c (foU mx m q r d (λ_=>1) (bor q d) n c)) 1 (by lia) λx j=>by
    obtain⟨c,s,rfl⟩:=aP.mp j;obtain⟨a,h,z⟩:=(bw g R h0 h1).mp s;obtain⟨k,i,u,b⟩:=nU g R a.1 a.2 h;obtain⟨y,t⟩:=Az g R n c a.1 a.2;unfold bor;rw[i,l];show _*k<=_;exact df t b (by lia) (by lia)
   exact⟨f,e⟩
theorem eZ(g:Good m q)(R:ζ m q r d o){v:Int}(e:0<=v)(c:v<m):1<=ο m q r d o v/\ο m q r d o v<=2^480:=by
 obtain⟨a,b⟩:=Az g R (m.toNat-1-o v) v e c;refine⟨a,bE b ?_⟩;have Ο:=g.Ο;have:(1000000:Int)^(m.toNat-1-o v)<=1000000^24:=by
  have f:m.toNat-1-o v<=24:=by lia
  have h:=Int.ofNat_le.mpr (bB (show 0<1000000 by decide) f);rw[Int.natCast_pow,Int.natCast_pow]at h;exact h
 exact bE this (by decide +kernel)
theorem DT(g:Good m q)(R:ζ m q r d o):∀x∈dD m q r d o,x.natAbs<2^4000:=λx f=>by
 obtain⟨v,i,rfl⟩:=aP.mp f;obtain⟨c,j⟩:=dN.mp i;obtain⟨e,b⟩:=eZ g R c (show v<m by lia);have a:((fo mx m q r d o (λ_=>1) (bor q d) v).natAbs:Int)<=2^480:=by rw[Int.natAbs_of_nonneg (bE (by decide) e)];exact b
 have h:(fo mx m q r d o (λ_=>1) (bor q d) v).natAbs<=2^480:=by exact_mod_cast a
 exact gm h (mJ (by decide) (by decide))
theorem JH{w:Int}(c:-(10^60)<=w)(b:w<=10^60):(w-1).natAbs<2^4000:=by
 have a:(w-1).natAbs<=10^60+1:=by lia
 exact gm a (aZ (show 10^60+1<2^200 by decide +kernel) (bB (by decide) (by decide)))
def Zt(q:hH)(d:d3)(a:d2)(v:Int):Int:=a.getD v.toNat 0*((cP q v (d v)).getD 1-1)
def gE(m:Int)(q:hH)(r:Int)(d:d3)(a:d2)(w:Int):Int:=a.getD r.toNat 0*(w-1)+(((b6 m.toNat).filter λv=>decide (v≠r)).map (Zt q d a)).sum
theorem Order.sums{t:d2}(O:Order m r d t)(f:d3):(t.map f).sum=(((b6 m.toNat).filter λv=>decide (v≠r)).map f).sum:=by
 refine tJ ((gK (bg.mp O.nd).2 ((hV _).filter _) λx=>?_).map f);rw[bG,dN,bM];refine⟨λh=>⟨⟨(O.Χ x h).1,?_⟩,O.ne h⟩,λh=>(O.all x h.1.1 ?_).resolve_left h.2⟩
 .have:=(O.Χ x h).2
  lia
 .have:=h.1.2
  lia
theorem Order.XE{t:d2}(O:Order m r d t)(a:0<=r)(b:r<m):t.length+1=m.toNat:=by
 have h:=(gK O.nd (hV m.toNat) λx=>by
  rw[ax,dN];refine⟨λh=>?_,λh=>O.all x h.1 (by have:=h.2;lia)⟩;rcases h with h|h
  .rw[h];exact⟨a,by lia⟩
  .have:=O.Χ x h;exact⟨this.1,by lia⟩).length_eq
 rw[b7,aF]at h;exact h
theorem F8{f:d3}{l:d2}{i:Nat}{v:Int}(h:l[i]?=some v):((l.take (i+1)).map f).sum=((l.take i).map f).sum+f v:=by
 rw[bK,h,Option.toList_some,aw,c9];simp
structure Slk(m:Int)(q:hH)(d:d3)(t cs:d2):Prop where
 len:(cs.length:Int)=m
 pos:∀v,0<=v->v<m->1<=cs.getD v.toNat 0
 std:∀c∈t,cs.getD c.toNat 0*(cP q c (d c)).getD 1<=cs.getD (d c).toNat 0
theorem RR{cs:d2}{i:Nat}(h:i<cs.length):cs.getD i 0∈cs:=by
 rw[List.getD,ao h];exact dj h
end
section
variable{m:Int}{n:hH}{r:Int}{j:d3}{p:fz}
def tup(n:hH)(j:d3)(v:Int):Int:=(cP n v (j v)).getD 1
structure Bea(m:Int)(n:hH)(r:Int)(j:d3)(p:fz)(q:Int->Option Int):Prop where
 no:∀v,0<=v->v<m->q v=none->bQ m n (front r j v) v=[]
 hv:∀v b,0<=v->v<m->q v=some b->b∈bQ m n (front r j v) v/\ο m n r j p b*tup n j b=ο m n r j p v
theorem fV(g:Good m n)(R:ζ m n r j p){v:Int}(e:0<=v)(d:v<m)(b:v≠r):2<=tup n j v/\tup n j v<=1000000:=by
 obtain⟨k,c,f,a⟩:=nU g R e d b;unfold tup;rw[c];exact⟨f,a⟩
theorem Dy:∀(l:d2)(a:Int),l.foldl mx a=a\/l.foldl mx a∈l
 | [],a=>.inl rfl
 | y::l,a=>by
   show l.foldl mx (mx a y)=a\/l.foldl mx (mx a y)∈y::l;rcases Dy l (mx a y)with h|h
   .rw[h];unfold mx;by_cases c:y>a
    .rw[aj c];exact .inr aJ
    .rw[ag c];exact .inl rfl
   .exact .inr (aH _ h)
theorem uc(g:Good m n)(R:ζ m n r j p){v:Int}(k:0<=v)(q:v<m)(w:bQ m n (front r j v) v≠[]):∃c∈bQ m n (front r j v) v,ο m n r j p c*tup n j c=ο m n r j p v:=by
 have e:ο m n r j p v=((bQ m n (front r j v) v).map λc=>bor n j c (ο m n r j p c)).foldl mx 1:=sA g R k q;have a:=Dy ((bQ m n (front r j v) v).map λc=>bor n j c (ο m n r j p c)) 1;rw[<-e]at a;rcases a with h|h
 .exfalso
  obtain⟨c,l,y⟩:=List.exists_cons_of_ne_nil w;have i:c∈bQ m n (front r j v) v:=by rw[y];exact aJ
  obtain⟨f,A,E⟩:=(bw g R k q).mp i;have o:=fV g R f.1 f.2 A;have s:=eZ g R f.1 f.2;have C:∀x∈(bQ m n (front r j v) v).map λc=>bor n j c (ο m n r j p c),x<=2^480*1000000:=λx z=>by
   obtain⟨d,u,rfl⟩:=aP.mp z;obtain⟨b,t,G⟩:=(bw g R k q).mp u;have o:=fV g R b.1 b.2 t;have s:=eZ g R b.1 b.2;show _*tup n j d<=_;exact df s.2 o.2 (by lia) (by decide +kernel)
  obtain⟨_,_,D⟩:=yc (B:=2^480*1000000) ((bQ m n (front r j v) v).map λc=>bor n j c (ο m n r j p c)) 1 (by decide +kernel) C;have:ο m n r j p c*tup n j c<=_:=D _ (aP.mpr ⟨c,i,rfl⟩);rw[<-e,h]at this;have F:(1:Int)*2<=ο m n r j p c*tup n j c:=df s.1 o.1 (by decide) (by lia)
  lia
 .obtain⟨c,i,ec⟩:=aP.mp h;exact⟨c,i,ec⟩
def YT(o:Option Int):V:=match o with|none=>.ω|some b=>.int b
def Y7(m:Int)(q:Int->Option Int):List V:=(b6 m.toNat).map λv=>YT (q v)
theorem Jk{q:Int->Option Int}{v:Int}(a:0<=v)(b:v<m):ϲ (Y7 m q) v=some (YT (q v)):=by
 refine cT a ?_;unfold Y7;rw[aA,fN (by lia),br a]
 rfl
theorem RA{q:Int->Option Int}{v b:Int}(a:0<=v)(d:v<m):(Y7 m q).set v.toNat (.int b)=Y7 m λx=>if x=v then some b else q x:=by
 refine eA λi=>?_;unfold Y7;by_cases c:i<m.toNat
 .rw[aA,fN c];by_cases z:v.toNat=i
  .rw[<-z,gC (by rw[aa,b7];lia)];show _=some (YT (if((v.toNat:Nat):Int)=v then some b else _));rw[aj (by lia)]
   rfl
  .rw[dZ z,aA,fN c];show some (YT (q _))=some (YT (if((i:Nat):Int)=v then some b else _));rw[ag (by lia)]
 .rw[bI (by rw[eR,aa,b7];lia),bI (by rw[aa,b7];lia)]
def bV(m:Int)(n:hH)(r:Int)(j:d3)(p:fz)(t:d2)(v:Int):Option Int:=(t.filter λb=>decide (j b=v/\ο m n r j p b*tup n j b=ο m n r j p v)).getLast?
theorem L4{t:d2}{v:Int}(h:ο m n r j p v*tup n j v=ο m n r j p (j v)):bV m n r j p (t++[v])=λx=>if x=j v then some v else bV m n r j p t x:=by
 funext x
 unfold bV;rw[b4];by_cases c:x=j v
 .subst c;rw[aj rfl,eJ (by simpa using h),jH,jt]
  rfl
 .rw[ag c,dF (by simp;intro z;exact absurd z.symm c),jH,bH]
theorem MW{t:d2}{v:Int}(h:¬ο m n r j p v*tup n j v=ο m n r j p (j v)):bV m n r j p (t++[v])=bV m n r j p t:=by
 funext x
 unfold bV;rw[b4,dF (by simp;intro z;rw[<-z];exact h),jH,bH]
theorem Fa(g:Good m n)(R:ζ m n r j p){t:d2}(O:Order m r j t):Bea m n r j p (bV m n r j p t) where
 no:=λv f d e=>by
  apply Classical.byContradiction;intro z;obtain⟨c,hc,i⟩:=uc g R f d z;obtain⟨c1,c2,k⟩:=(bw g R f d).mp hc;have a:c∈t.filter λb=>decide (j b=v/\ο m n r j p b*tup n j b=ο m n r j p v):=bG.mpr ⟨(O.all c c1.1 c1.2).resolve_left c2,bh ⟨k,i⟩⟩;unfold bV at e;rw[kE]at e;rw[e]at a;cases a
 hv:=λv b f d e=>by
  have a:=jC e;obtain⟨h,q⟩:=bG.mp a;obtain⟨l,o⟩:=bN q;exact⟨(bw g R f d).mpr ⟨O.Χ b h,O.ne h,l⟩,o⟩
variable{q:Int->Option Int}{w:Int}{s:d3}
theorem Jf{x k:Int}(a:2<=k):((x+1)*k-1)/k=x:=by
 rw[show(x+1)*k-1=(k-1)+x*k by rw[eB];lia,jg _ _ (by lia),jb (by lia) (by lia),cR]
theorem vw(f:d3)(h:Int->List Int):∀l:List Int,((l.flatMap h).map f).sum=(l.map λc=>((h c).map f).sum).sum
 | []=>rfl
 | a::l=>by rw[bC,aw,c9,vw f h l,aq,aN]
theorem vb(f h:d3):∀l:List Int,(l.map λc=>f c-h c).sum=(l.map f).sum-(l.map h).sum
 | []=>rfl
 | a::l=>by rw[aq,aq,aq,aN,aN,aN,vb f h l];lia
theorem Jo(g:Good m n)(R:ζ m n r j p){t:d2}(O:Order m r j t):Slk m n j t (dD m n r j p) where
 len:=by
  have:=g.m1;rw[qE]
  lia
 pos:=λv v0 v1=>by rw[gN v0 v1];exact(eZ g R v0 v1).1
 std:=λc hc=>by
  have a:=O.Χ c hc;have s:=O.ne hc;have u:=R.up c a.1 a.2 s;rw[gN a.1 a.2,gN u.1.1 u.1.2];have hk:c∈bQ m n (front r j (j c)) (j c):=(bw g R u.1.1 u.1.2).mpr ⟨a,s,rfl⟩;have e:ο m n r j p (j c)=((bQ m n (front r j (j c)) (j c)).map λc=>bor n j c (ο m n r j p c)).foldl mx 1:=sA g R u.1.1 u.1.2;have l:∀x∈(bQ m n (front r j (j c)) (j c)).map λc=>bor n j c (ο m n r j p c),x<=2^480*1000000:=λx i=>by
   obtain⟨d,hd,rfl⟩:=aP.mp i;obtain⟨b,f,y⟩:=(bw g R u.1.1 u.1.2).mp hd;have k:=fV g R b.1 b.2 f;have h:=eZ g R b.1 b.2;show _*tup n j d<=_;exact df h.2 k.2 (by lia) (by decide +kernel)
  obtain⟨_,_,o⟩:=yc (B:=2^480*1000000) ((bQ m n (front r j (j c)) (j c)).map λc=>bor n j c (ο m n r j p c)) 1 (by decide +kernel) l;have:=o _ (aP.mpr ⟨c,hk,rfl⟩);rw[<-e]at this;exact this
end
end Pb
namespace L2
open PySem PySem.Spec PyProof.Rows PySem.W
def ώ{c:Type}(I:Nat->Prop)(P:c->Prop):KasT c->Prop
 | .ret a=>P a
 | .ask i j k=>I i/\I j/\∀b,ώ I P (k b)
theorem ώ.bind{c e:Type}{I:Nat->Prop}{P:c->Prop}{R:e->Prop}{f:c->KasT e}(d:∀a,P a->ώ I R (f a)):∀{t:KasT c},ώ I P t->ώ I R (t.bind f)
 | .ret a,h=>d a h
 | .ask i j k,h=>⟨h.1,h.2.1,λb=>ώ.bind d (h.2.2 b)⟩
section
variable{n:Nat}
abbrev Ρ(n:Nat)(p:Array Nat):Prop:=p.toList.Perm (List.range n)
theorem Ρ.at(c:0<n){p:Array Nat}(h:Ρ n p)(k:Nat):p.getD k 0<n:=by
 by_cases a:k<p.size
 .have:p.getD k 0∈p.toList:=by
   have e:p.getD k 0=p[k]:=(by simp[Array.getD,a]);rw[e];exact Array.getElem_mem_toList a
  exact bU.mp (h.mem_iff.mp this)
 .have e:p.getD k 0=0:=by simp[Array.getD,a]
  rw[e];exact c
theorem Ρ.rev{p:Array Nat}(h:Ρ n p)(i j:Nat):Ρ n (kas_rev p i j):=(kU.mp (mirror_perm p i j _)).trans h
theorem Ρ.bub{p:Array Nat}(h:Ρ n p)(i j:Nat):Ρ n (bubble p i j):=(kU.mp (bubble_perm p i j)).trans h
variable(c:0<n)
include c
theorem Cf{p:Array Nat}(h:Ρ n p):∀f m,ώ (·<n) (λ_:Nat=>True) (kas_asc p f m)
 | 0,m=>trivial
 | f+1,m=>⟨h.at c _,h.at c _,λb=>by cases b with
   | true=>exact trivial
   | false=>exact Cf h f (m+1)⟩
theorem vQ:∀f {p:Array Nat} (h:Ρ n p) m q,ώ (·<n) (λr:Array Nat×Nat×Nat=>Ρ n r.1) (kas_desc f p m q)
 | 0,p,h,m,q=>h
 | f+1,p,h,m,q=>⟨h.at c _,h.at c _,λb=>by
   cases b with
   | true=>
     show ώ _ _ (if q>0 then _ else _);split
     .exact vQ f (h.rev _ _) _ _
     .exact vQ f h _ _
   | false=>
     refine⟨h.at c _,h.at c _,λd=>?_⟩;cases d with
     | true=>exact h
     | false=>exact vQ f h _ _⟩
theorem Gf{p:Array Nat}(h:Ρ n p)(m r:Nat):ώ (·<n) (λr:Nat×Array Nat=>Ρ n r.2) (kas_tail3 m r p):=ώ.bind (R:=λr:Nat×Array Nat=>Ρ n r.2) (f:=λk=>.ret (k,kas_rev p 0 m)) (λa _=>h.rev _ _) (Cf c (h.rev _ _) _ _)
theorem wF{p:Array Nat}(h:Ρ n p)(m r:Nat):ώ (·<n) (λr:Nat×Array Nat=>Ρ n r.2) (kas_descPart m r p):=by
 refine ώ.bind (λa b=>?_) (vQ c _ h _ _);split
 .exact Gf c (Ρ.rev b _ _) _ _
 .exact Gf c b _ _
theorem Lm{p:Array Nat}(h:Ρ n p)(r:Nat):ώ (·<n) (λr:Nat×Array Nat=>Ρ n r.2) (kas_count r p):=by
 refine ώ.bind (λa _=>?_) (Cf c h _ _);split
 .exact h
 .split
  .refine⟨h.at c _,h.at c _,λb=>?_⟩;cases b with
   | true=>exact h
   | false=>exact wF c (h.rev _ _) _ _
  .exact wF c h _ _
theorem xa{p:Array Nat}(h:Ρ n p)(k:Nat):∀f l r,ώ (·<n) (λ_:Nat=>True) (kas_place p k f l r)
 | 0,l,r=>trivial
 | f+1,l,r=>by
   show ώ _ _ (if l ≥ r then _ else _);split
   .exact trivial
   .refine⟨h.at c _,h.at c _,λb=>?_⟩;cases b with
    | true=>exact xa h k f _ _
    | false=>exact xa h k f _ _
theorem IX:∀f {p:Array Nat} (h:Ρ n p) k,ώ (·<n) (λp:Array Nat=>Ρ n p) (kas_bin f p k)
 | 0,p,h,k=>h
 | f+1,p,h,k=>ώ.bind (λl _=>IX f (h.bub _ _) _) (xa c h k _ _ _)
theorem QF:ώ (·<n) (λp:Array Nat=>Ρ n p) (kas_sort n):=by
 refine ώ.bind (λr a=>?_) (Lm c (iE _) n);split
 .exact IX c _ a _
 .exact a
end
theorem D2{b:Type}(a:List b)(d:b):(List.range a.length).map (λi=>a.getD i d)=a:=by
 apply eA;intro i;rw[aA];by_cases h:i<a.length
 .rw[fA h];simp[h]
 .rw[bI (by simpa using h),bI (by lia)]
  rfl
end L2
namespace L2
open PySem PySem.Spec PyProof.Rows PySem.W Pb
theorem DS:∀a:List Addr,Vals (a.map V.ref) (a.map Value.ref)
 | []=>.nil
 | q::a=>.cons rfl (DS a)
end L2
namespace L2
theorem ET{a:Type}[DecidableEq a]{θ:List (a×V)}{k:a}{v:V}{p:a×V}(h:p∈iJ θ k v):p.1=k\/∃q∈θ,p.1=q.1:=by
 unfold iJ at h;split at h
 .obtain⟨q,hq,e⟩:=aP.mp h;refine .inr ⟨q,hq,?_⟩;rw[<-e];split<;>rfl
 .rcases aY.mp h with h|h
  .exact .inr ⟨p,h,rfl⟩
  .rw[aI.mp h];exact .inl rfl
end L2
namespace Pb
open L2 PySem
theorem Gs:∀{z:d2},(∀x∈z,0<=x)->0<=z.sum
 | [],_=>b9 0
 | x::z,h=>by
   have c:=h x (.head _);have b:=Gs λy a=>h y (.tail _ a);rw[aN]
   lia
end Pb
namespace L2
open PySem PySem.Spec PyProof.Rows Pb
theorem CL:∀{x y:d2},x.map V.int=y.map V.int->x=y
 | [],[],_=>rfl
 | a::x,b::y,h=>by
   obtain⟨d,c⟩:=d6 h;rw[CL c,V.int.inj d]
end L2
namespace Pb
open L2 PySem PySem.W NumText
theorem _root_.List.μ{a b:Type}{f:a->b}{l:List a}{i:Nat}{y:b}(h:(l.map f)[i]?=some y):∃x,l[i]?=some x/\y=f x:=by
 rw[aA]at h;cases e:l[i]? with
 | none=>rw[e]at h;cases h
 | some x=>rw[e]at h;exact⟨x,rfl,(bi h).symm⟩
end Pb
namespace Pb
open L2 PySem
section
variable{m:Int}{d:hH}{r:Int}{b:d3}{j:fz}{held:d3}
theorem EG{f h:d3}:∀{l:d2},(∀c∈l,f c<=h c)->(l.map f).sum<=(l.map h).sum
 | [],_=>b9 _
 | a::l,hl=>by
   rw[aq,aq,aN,aN];have i:=hl a (.head _);have g:=EG (l:=l) λc e=>hl c (.tail _ e)
   lia
theorem z3(k:Int)(f:d3):∀l:List Int,(l.map λc=>k*f c).sum=k*(l.map f).sum
 | []=>(lB k).symm
 | a::l=>by rw[aq,aq,aN,aN,z3 k f l,cM]
theorem wle(g:Good m d)(R:ζ m d r b j){ws:d3}(pos:∀v,0<=v->v<m->0<=ws v)(f:∀c,0<=c->c<m->c≠r->ws c*tup d b c<=ws (b c))(o:∀v,0<=held v):∀(n:Nat)(v:Int),m.toNat-j v=n->0<=v->v<m->((bO m d r b j v).map λu=>ws u*held u-ws u*(tup d b u-1)).sum<=ws v*Φ m d r b j held (Η d b) v-ws v*(tup d b v-1)
 | 0,v,e,h0,h1=>by
   have:=kM R h0 h1
   lia
 | n+1,v,e,h0,h1=>by
   rw[fL g R h0 h1,aq,aN,vw,nL g R h0 h1];have t:∀u∈bQ m d (front r b v) v,((bO m d r b j u).map λu=>ws u*held u-ws u*(tup d b u-1)).sum<=ws v*Η d b u (Φ m d r b j held (Η d b) u):=λu A=>by
    obtain⟨a,h,p⟩:=(bw g R h0 h1).mp A;have B:=R.pos a.1 a.2 h;rw[p]at B;refine bE (wle g R pos f o n u (by lia) a.1 a.2) ?_;obtain⟨z,s⟩:=fV g R a.1 a.2 h;have st:=f u a.1 a.2 h;rw[p]at st;have q:=wY (m:=m) (r:=r) (par:=b) (dep:=j) g o u;have i:=pos u a.1 a.2;show _<=ws v*(Φ m d r b j held (Η d b) u/tup d b u);generalize Φ m d r b j held (Η d b) u=G at q ⊢;generalize tup d b u=k at z s st ⊢;generalize ws u=W at i st ⊢;generalize ws v=V at st ⊢;have w:0<=G/k:=ik q (by lia);have l:=mE G k;have C:=cN G (show 0<k by lia);have x:W*G-W*(k-1)<=W*k*(G/k):=by
     have:W*G=W*(G%k)+W*k*(G/k):=(by rw[<-l,cM,<-gh,l]);rw[this];have:W*(G%k)<=W*(k-1):=cj (by lia) i
     lia
    exact bE x (bu st w)
   have y:=EG t;rw[z3 (ws v) (λu=>Η d b u (Φ m d r b j held (Η d b) u))]at y;rw[cM]
   lia
theorem RD(g:Good m d)(R:ζ m d r b j)(e:0<=r)(i:r<m){ws:d2}{a:d2}(o:bO m d r b j r=r::a)(O:Order m r b a)(S:Slk m d b a ws)(n:∀v,0<=held v){w:Int}(z:Φ m d r b j held (Η d b) r<w):((b6 m.toNat).map λv=>ws.getD v.toNat 0*held v).sum<=gE m d r b ws w:=by
 have pos:∀v,0<=v->v<m->0<=ws.getD v.toNat 0:=λv y t=>by have:=S.pos v y t;lia
 have h:=wle (held:=held) g R (ws:=λv=>ws.getD v.toNat 0) pos (λc k q p=>S.std c ((O.all c k q).resolve_left p)) n _ r rfl e i;rw[o,vb]at h;have l:((r::a).map λv=>ws.getD v.toNat 0*held v).sum=((b6 m.toNat).map λv=>ws.getD v.toNat 0*held v).sum:=by
  refine tJ ((gK O.nd (hV _) λx=>?_).map _);rw[ax,dN];refine⟨λh=>?_,λh=>O.all x h.1 (by have:=h.2;lia)⟩;rcases h with h|h
  .rw[h];exact⟨e,by lia⟩
  .have:=O.Χ x h;exact⟨this.1,by lia⟩
 rw[<-l];unfold gE;rw[<-O.sums];have s:(a.map (Zt d b ws)).sum=(a.map λu=>ws.getD u.toNat 0*(tup d b u-1)).sum:=rfl;rw[s];rw[aq (f:=λu=>ws.getD u.toNat 0*(tup d b u-1)),aN]at h;have:ws.getD r.toNat 0*Φ m d r b j held (Η d b) r<=ws.getD r.toNat 0*(w-1):=cj (by lia) (pos r e i)
 lia
theorem RP(g:Good m d){ws:d2}(a:∀v,0<=v->v<m->1<=ws.getD v.toNat 0)(c:∀v,0<=held v):((b6 m.toNat).map held).sum<=((b6 m.toNat).map λv=>ws.getD v.toNat 0*held v).sum:=by
 refine EG λv e=>?_;obtain⟨f,h⟩:=dN.mp e;have:=a v f (by lia);have:=bu this (c v)
 lia
theorem JM:∀(a:d2),(List.range a.length).map (λi=>a.getD i 0)=a:=λa=>by
 refine eA λi=>?_;rw[aA];by_cases h:i<a.length
 .rw[fA h,ao h];show some (a.getD i 0)=_;rw[List.getD,ao h]
  rfl
 .rw[bI (by rw[bD];lia),bI (by lia)]
  rfl
theorem Dt{a:d2}{n:Nat}(h:a.length=n):((b6 n).map λv=>a.getD v.toNat 0).sum=a.sum:=by
 unfold b6;rw[cZ,<-h];exact congrArg List.sum (JM a)
theorem Jm{a:d2}(h:∀x∈a,0<=x)(i:Nat):0<=a.getD i 0:=by
 rw[List.getD];cases e:a[i]? with
 | none=>exact b9 _
 | some y=>exact h y (aQ e)
theorem IZ(R:ζ m d r b j):∀(n:Nat)(v:Int),j v=n->0<=v->v<m->C3 b r n v=true
 | 0,v,e,h0,h1=>by
   refine bh (Classical.byContradiction λh=>?_);have:=R.pos h0 h1 h
   lia
 | n+1,v,e,h0,h1=>by
   show(decide (v=r)||C3 b r n (b v))=true;by_cases h:v=r
   .rw[bh h];rfl
   .have u:=R.up v h0 h1 h;rw[IZ R n (b v) (by lia) u.1.1 u.1.2,Bool.or_true]
theorem L8(g:Good m d)(R:ζ m d r b j)(a:0<=r)(c:r<m):∃t,bO m d r b j r=r::t/\Order m r b t:=BJ g R a c (oz g R _ r a c).1 λv=>by
 rw[RV g R a c];exact⟨λh=>h.1,λh=>⟨h,IZ R _ v rfl h.1 h.2⟩⟩
theorem Ip{f:d3}{C:Int}:∀{l:d2},(∀c∈l,f c<=C)->(l.map f).sum<=C*l.length
 | [],_=>by simp
 | a::l,h=>by
   have i:=h a (.head _);have g:=Ip (l:=l) λc e=>h c (.tail _ e);rw[aq,aN,aF,dH,cM];show f a+(l.map f).sum<=C*l.length+C*1
   lia
end
theorem Dc:∀{l:d2}{x:Int},(∀y∈l,0<=y)->x∈l->x<=l.sum
 | y::l,x,h,hx=>by
   have c:=Gs λz a=>h z (aH y a);have b:=h y aJ;rw[aN];rcases ax.mp hx with e|e
   .lia
   .have:=Dc (λz a=>h z (aH y a)) e
    lia
end Pb
namespace L2
open PySem
theorem L9{K:f5}{c:Bool}{a p:Addr}{xs:List V}{Q:VK}{g:TG}{w:TT}{z:TE}{o:St}{t:Hp}(k:Nat->List V->St->Hp->Prop)(L:k 0 [] o t)(I:∀i d f H,k i d f H->Ϫ K c H a xs)(M:∀(i:Nat) (x:V) (d:List V) (f:St) (H:Hp) (q:Addr) (N:List V->St->Hp->Prop),(∀n h l,k (i+1) n h l->N n h l)->xs[i]?=some x->k i d f H->H q=none->g (.ref q) f (upd H q (.tup [.int i,x])) λj J=>w j J λb u=>
 if b=true then z j u λy B=>B p=some (.lst d)/\d.length<sizeLine/\N (d++[y]) j (upd B p (.lst (d++[y])))else N d j u)(D:∀d f H,k xs.length d f H->Q (.ref p) H):uP (Ite K c a) p Q g w z o t:=by
 refine⟨λi m d f H=>m=xs.length-i/\i<=xs.length/\k i d f H,⟨_,rfl,bj _,L⟩,?_⟩;rintro i m d f H ⟨rfl,O,pv⟩;have r:=I i d f H pv;by_cases v:i<xs.length
 .refine .inr ⟨⟨xs,xs[i],r,ao v⟩,λx l y=>?_⟩;obtain⟨E,C,G,rfl,rfl,F⟩:=y;exact M i C d f H E (λn h l=>∃A,A<xs.length-i/\(A=xs.length-(i+1)/\i+1<=xs.length/\k (i+1) n h l)) (λn h l s=>⟨xs.length-(i+1),by lia,rfl,v,s⟩) (F xs r) pv G
 .have e:i=xs.length:=by lia
  subst e;exact .inl ⟨⟨xs,r,rfl⟩,D d f H pv⟩
def Yw(o:Addr)(H a:Hp):Prop:=∀b x,H b=some x->b≠o->a b=some x
theorem Yw.refl{o:Addr}{H:Hp}:Yw o H H:=λ_ _ h _=>h
theorem Yw.then{o:Addr}{H d e:Hp}(a:Yw o H d)(b:δ d e):Yw o H e:=λc x h n=>b c x (a c x h n)
theorem Yw.put{o:Addr}{H b:Hp}(a:Yw o H b)(x:HO):Yw o H (upd b o x):=λc y h n=>by rw[aR n];exact a c y h n
end L2
namespace Pb
open PySem L2
def YV(m:Int):List Int:=List.replicate m.toNat 0
def upT(b:hH)(a:d3)(v:Int):Int:=(cP b v (a v)).getD 1
abbrev kd(m:Int)(b:hH)(r:Int)(a:d3)(v:Int):List Int:=bQ m b (front r a v) v
theorem ww:∀{l:d2},(∀x∈l,0<=x)->0<=l.sum
 | [],_=>by decide
 | a::l,h=>by
   have d:=h a aJ;have c:=ww λx b=>h x (aH _ b);rw[aN]
   lia
theorem tf{f c:Type}{R:f->c->Prop}:∀{l:List f}{d:List c},Paired R l d->∀{i:Nat}{b:c},d[i]?=some b->∃a,l[i]?=some a/\R a b
 | _,_,.nil,i,b,e=>by simp at e
 | _,_,.cons (a:=a) (b:=b') h _,0,b,e=>by
   rw[List.getElem?_cons_zero]at e;cases e;exact⟨a,rfl,h⟩
 | _,_,.cons h hs,i+1,b,e=>by
   rw[iK]at e;obtain⟨a,j,g⟩:=tf hs e;exact⟨a,by rw[iK];exact j,g⟩
theorem C9{d e:Type}{R S:d->e->Prop}:∀{l:List d}{c:List e},(∀a b,a∈l->R a b->S a b)->Paired R l c->Paired S l c
 | _,_,_,.nil=>.nil
 | _,_,f,.cons h hs=>.cons (f _ _ aJ h) (C9 (λa b g=>f a b (aH _ g)) hs)
theorem Jl{c d:Type}{R:c->d->Prop}:∀{l:List c}{e:List d},Paired R l e->∀{a:c},a∈l->∃b,R a b
 | _,_,.nil,a,h=>by cases h
 | _,_,.cons (b:=b) h hs,a,ha=>by
   rcases ax.mp ha with rfl|ha
   .exact⟨b,h⟩
   .exact Jl hs ha
theorem sQ{c d:Type}{R:c->d->Prop}{a:c}{b:d}(e:R a b):∀{l:List c}{f:List d},Paired R l f->Paired R (l++[a]) (f++[b])
 | _,_,.nil=>.cons e .nil
 | _,_,.cons x xs=>.cons x (sQ e xs)
theorem LQ{b:Type}{a:List b}{i:Int}(h:0<=i):ϲ a i=a[i.toNat]?:=by
 cases e:a[i.toNat]? with
 | some v=>exact cT h e
 | none=>
   have:=List.getElem?_eq_none_iff.mp e;unfold ϲ Zi;rw[aj h,ag (by lia)]
   rfl
theorem Rs(m:Int):(YV m).map V.int=List.replicate m.toNat (V.int 0):=by unfold YV;rw[iw]
section
variable{m:Int}{c:hH}{r:Int}{b:d3}{a:fz}{e:d3}
theorem tG(g:Good m c)(R:ζ m c r b a){v:Int}(i:0<=v)(h:v<m){k:Int}(f:k∈kd m c r b v):((0<=k/\k<m)/\k≠r/\b k=v)/\m.toNat-a v=m.toNat-a k+1/\1<=m.toNat-a k:=by
 have w:=(bw g R i h).mp f;have:=R.pos w.1.1 w.1.2 w.2.1;have d:=kM R w.1.1 w.1.2;rw[w.2.2]at this;exact⟨w,by lia,by lia⟩
end
theorem Ca{f:d3}{l:d2}(h:∀c∈l,0<=f c):0<=(l.map f).sum:=ww λx a=>by
 obtain⟨c,b,rfl⟩:=aP.mp a;exact h c b
section
variable{m:Int}{c:hH}{r:Int}{a:d3}{b:fz}{d:d3}
variable{w:d3}
variable{x e f:d3}
def hol(m:Int)(c:hH)(r:Int)(a:d3)(b:fz)(v:Int):Int:=ο m c r a b v*(upT c a v-1)
end
section
variable{m:Int}{b:hH}{r:Int}{a:d3}{c:fz}{d w:d3}
theorem zt(g:Good m b){v:Int}:(kd m b r a v).length<=24:=by
 have f:=cC (λu=>decide (V.int u≠front r a v)) (mj m b v);have e:=cC (λq=>decide (q∈gi b v)) (b6 m.toNat);rw[b7]at e;have:=g.Ο;show((mj m b v).filter λu=>decide (V.int u≠front r a v)).length<=24;unfold mj at f ⊢
 lia
end
theorem Bq{g f:Type}{R:g->f->Prop}:∀{l:List g}{e:List f}{b:f},Paired R l (e++[b])->∃d a,l=d++[a]/\Paired R d e/\R a b
 | _,[],b,.cons (a:=a) h .nil=>⟨[],a,rfl,.nil,h⟩
 | _,c::e,b,.cons (a:=a) h hs=>by
   obtain⟨d,x,rfl,j,i⟩:=Bq hs;exact⟨a::d,x,rfl,.cons h j,i⟩
theorem Jq{a:Type}(l:List a)(x:a):ϲ (l++[x]) (-1)=some x:=by
 unfold ϲ Zi;rw[ag (by decide),aE,aF,dU,aj (by lia)];show(l++[x])[(-1+((l.length+(0+1):Nat):Int)).toNat]?=some x;rw[show(-1+((l.length+(0+1):Nat):Int)).toNat=l.length by lia,da (ap _),d8]
 rfl
end Pb
namespace L2
open PySem PySem.Spec PyProof.Rows
def SM(K:f5)(g f:TE):TE:=λd H Q=>g d H λx e=>f d e λy b=>y=.int (-1)/\∃a c,x=.ref a/\ξ K b a c/\∀p,b p=none->Q (.ref p) (upd b p (.lst c.reverse))
theorem MZ{X:Cx}{e st:Expr}{l m:TE}{g N:Pos}(O:PE X e l)(P:PE X st m):PE X (.Subscript e (.Slice none none (some st) N) g) (SM X.K l m):=by
 intro c s i H Q I h;refine Subscript_ (dR (O c s i H _ I h) λv D x z F G B=>?_);refine wpAny_Slice ?_;rw[evalPart_none,evalPart_some];refine ba (ba (dR (P c D i z _ F B) λu d y A L M p=>?_));obtain⟨rfl,a,n,rfl,J,q⟩:=p;obtain⟨t,rfl⟩:=M;cases G;have f:Inv X c i A { d with heap:=d.heap.push { cls:=.type "slice",data:=.fields #[.none,.none,.int (-1) t] } }:=L.kept (t':=d.toks) λb C q=>ar _ q;obtain⟨w,r,k,E⟩:=f.list J;have j:=r.length;refine tail_any (ops:=[.ref a,.ref d.heap.objs.size]) k.isList.typeIs slot_list_getitem.lookup (wpAny_getItem_list_slice k.isList (Heap.IsSliceOf.new ..) .none .none (.int (-1) t) (by decide) ?_ (by rw[aM]<;>lia)) (by with_unfolding_all rfl);rw[PySem.W.krv_pick];refine⟨.ref _,_,f.laid (t':=d.toks) (o:=.lst n.reverse) (λb C q=>ar _ q) (ap _) ?_,rfl,q _ (f.ψ.fresh (ap _))⟩;exact⟨by rw[bc];exact E,_,0,r.reverse,bf _ rfl⟩
end L2
namespace Pb
open L2 PySem PySem.W NumText
def ch:Nat->Nat->Nat
 | _,0=>1
 | 0,_+1=>0
 | n+1,k+1=>ch n k+ch n (k+1)
theorem pF(n:Nat):ch n 0=1:=by cases n<;>rfl
theorem Gx:∀{n k:Nat},n<k->ch n k=0
 | _,0,h=>absurd h (ji _)
 | 0,_+1,_=>rfl
 | n+1,k+1,h=>by
   show ch n k+ch n (k+1)=0;rw[Gx (by lia),Gx (by lia)]
theorem uB:∀n k:Nat,(ch n (k+1):Int)*((k:Int)+1)=(ch n k:Int)*((n:Int)-(k:Int))
 | 0,0=>by simp[ch]
 | 0,k+1=>by simp[ch]
 | n+1,0=>by
   have h:=uB n 0;rw[pF]at h ⊢;show((ch n 0+ch n 1:Nat):Int)*_=_;rw[pF];have h:((ch n 1:Nat):Int)*(((0:Nat):Int)+1)=((1:Nat):Int)*((n:Int)-((0:Nat):Int)):=h;simp only[dH,Int.natCast_one]at h ⊢
   lia
 | n+1,k+1=>by
   have e:=uB n k;have d:=uB n (k+1);show((ch n (k+1)+ch n (k+1+1):Nat):Int)*_=((ch n k+ch n (k+1):Nat):Int)*_;generalize ch n (k+1+1)=c at e d;generalize ch n (k+1)=b at e d;generalize ch n k=a at e d;simp only[dH,Int.natCast_one]at e d ⊢;have f:((b:Int)+(c:Int))*((k:Int)+1+1)=(c:Int)*((k:Int)+1+1)+(b:Int)*((k:Int)+1)+(b:Int):=by
    rw[eB,cM (b:Int) ((k:Int)+1) 1]
    lia
   have g:((a:Int)+(b:Int))*((n:Int)+1-((k:Int)+1))=(a:Int)*((n:Int)-(k:Int))+(b:Int)*((n:Int)-((k:Int)+1))+(b:Int):=by
    rw[show(n:Int)+1-((k:Int)+1)=(n:Int)-(k:Int) by lia,eB,show(n:Int)-(k:Int)=((n:Int)-((k:Int)+1))+1 by lia,cM (b:Int) _ 1]
    lia
   rw[f,g,e,d]
   lia
def Τ:List Int->Nat->Nat->Int
 | [],_,_=>0
 | d::r,n,k=>d*(ch n k:Int)+Τ r n (k+1)
theorem zo:∀(r:d2)(k:Nat),Τ r 0 (k+1)=0
 | [],_=>rfl
 | d::r,k=>by
   show d*((ch 0 (k+1):Nat):Int)+Τ r 0 (k+1+1)=0;rw[zo r (k+1)];show d*((0:Nat):Int)+0=0;simp
theorem Fl:∀(r:d2)(n k:Nat),Τ r (n+1) (k+1)=Τ r n (k+1)+Τ r n k
 | [],_,_=>rfl
 | d::r,n,k=>by
   show d*((ch n k+ch n (k+1):Nat):Int)+Τ r (n+1) (k+1+1)=(d*(ch n (k+1):Int)+Τ r n (k+1+1))+(d*(ch n k:Int)+Τ r n (k+1));rw[Fl r n (k+1),dH,cM]
   lia
def dl(f:Nat->Int):Nat->Int:=λn=>f (n+1)-f n
def Pd:Nat->(Nat->Int)->Prop
 | 0,f=>∀n,f n=f 0
 | d+1,f=>Pd d (dl f)
def Xj:Nat->(Nat->Int)->List Int
 | 0,_=>[]
 | N+1,f=>f 0::Xj N (dl f)
theorem CO:∀(N:Nat)(f:Nat->Int),(Xj N f).length=N
 | 0,_=>rfl
 | N+1,f=>by
   show(Xj N (dl f)).length+1=_;rw[CO N]
theorem Pd.zero{f:Nat->Int}(h:∀n,f n=0):∀d,Pd d f
 | 0=>λn=>by rw[h n,h 0]
 | d+1=>Pd.zero (f:=dl f) (λn=>by show f (n+1)-f n=0;rw[h,h];rfl) d
theorem Pd.up:∀{d:Nat}{f:Nat->Int},Pd d f->Pd (d+1) f
 | 0,f,h=>λn=>by
   show f (n+1)-f n=f (0+1)-f 0;rw[h (n+1),h n,h (0+1)]
 | d+1,f,h=>Pd.up (d:=d) (f:=dl f) h
theorem Pd.le{d e:Nat}{f:Nat->Int}(h:Pd d f)(l:d<=e):Pd e f:=by
 induction l with
 | refl=>exact h
 | step _ ih=>exact ih.up
theorem Pd.add:∀{d:Nat}{f g:Nat->Int},Pd d f->Pd d g->Pd d (λn=>f n+g n)
 | 0,f,g,h,k=>λn=>by
   show f n+g n=f 0+g 0;rw[h n,k n]
 | d+1,f,g,h,k=>by
   have:=Pd.add (d:=d) (f:=dl f) (g:=dl g) h k;have e:dl (λn=>f n+g n)=λn=>dl f n+dl g n:=by
    funext n
    show f (n+1)+g (n+1)-(f n+g n)=(f (n+1)-f n)+(g (n+1)-g n)
    lia
   show Pd d (dl (λn=>f n+g n));rw[e];exact this
theorem Pd.smul(c:Int):∀{d:Nat}{f:Nat->Int},Pd d f->Pd d (λn=>c*f n)
 | 0,f,h=>λn=>by
   show c*f n=c*f 0;rw[h n]
 | d+1,f,h=>by
   have:=Pd.smul c (d:=d) (f:=dl f) h;have e:dl (λn=>c*f n)=λn=>c*dl f n:=by
    funext n
    show c*f (n+1)-c*f n=c*(f (n+1)-f n);rw[gS]
   show Pd d (dl (λn=>c*f n));rw[e];exact this
theorem Pd.shift(b:Nat):∀{d:Nat}{f:Nat->Int},Pd d f->Pd d (λn=>f (n+b))
 | 0,f,h=>λn=>by
   show f (n+b)=f (0+b);rw[h (n+b),h (0+b)]
 | d+1,f,h=>by
   have:=Pd.shift b (d:=d) (f:=dl f) h;have e:dl (λn=>f (n+b))=λn=>dl f (n+b):=by
    funext n
    show f (n+1+b)-f (n+b)=f (n+b+1)-f (n+b);rw[show n+1+b=n+b+1 by lia]
   show Pd d (dl (λn=>f (n+b)));rw[e];exact this
def Λ:Nat->(Nat->Int)->Int
 | 0,_=>0
 | k+1,f=>Λ k f+f k
theorem Pd.sum{d:Nat}{f:Nat->Nat->Int}(h:∀i,Pd d (f i)):∀k,Pd d (λn=>Λ k λi=>f i n)
 | 0=>Pd.zero (λ_=>rfl) d
 | k+1=>(Pd.sum h k).add (h k)
theorem Ix(f:Nat->Int)(b:Nat):∀a:Nat,f (b+a)-f b=Λ a λi=>dl f (b+i)
 | 0=>by
   show f b-f b=0
   lia
 | a+1=>by
   have:=Ix f b a;show f (b+(a+1))-f b=(Λ a λi=>dl f (b+i))+dl f (b+a);rw[<-this];show f (b+(a+1))-f b=f (b+a)-f b+(f (b+a+1)-f (b+a));rw[show b+(a+1)=b+a+1 by lia]
   lia
theorem Pd.lin(a:Nat):∀{d:Nat}{f:Nat->Int},Pd d f->∀b,Pd d (λn=>f (a*n+b))
 | 0,f,h,b=>λn=>by
   show f (a*n+b)=f (a*0+b);rw[h (a*n+b),h (a*0+b)]
 | d+1,f,h,b=>by
   have e:dl (λn=>f (a*n+b))=λn=>Λ a λi=>(λi n=>dl f (a*n+(b+i))) i n:=by
    funext n
    show f (a*(n+1)+b)-f (a*n+b)=_;rw[show a*(n+1)+b=(a*n+b)+a by rw[nN];lia,Ix f (a*n+b) a]
    congr 1
    funext i
    show dl f (a*n+b+i)=dl f (a*n+(b+i));rw[Nat.add_assoc]
   show Pd d (dl (λn=>f (a*n+b)));rw[e];exact Pd.sum (λi=>Pd.lin a (d:=d) (f:=dl f) h (b+i)) a
def W2(f g:Nat->Int)(n:Nat):Int:=Λ (n+1) λk=>f k*g (n-k)
theorem rp{f g:Nat->Int}:∀{k:Nat},(∀i,i<k->f i=g i)->Λ k f=Λ k g
 | 0,_=>rfl
 | k+1,h=>by
   show Λ k f+f k=Λ k g+g k;rw[rp λi a=>h i (by lia),h k (by lia)]
theorem Ih(f g:Nat->Int):∀k,Λ k (λi=>f i-g i)=Λ k f-Λ k g
 | 0=>rfl
 | k+1=>by
   show Λ k (λi=>f i-g i)+(f k-g k)=Λ k f+f k-(Λ k g+g k);rw[Ih f g k]
   lia
theorem LS(f g:Nat->Int):dl (W2 f g)=λn=>f (n+1)*g 0+W2 f (dl g) n:=by
 funext n
 show(Λ (n+1) λk=>f k*g (n+1-k))+f (n+1)*g (n+1-(n+1))-Λ (n+1) (λk=>f k*g (n-k))=f (n+1)*g 0+Λ (n+1) λk=>f k*dl g (n-k);have e:(Λ (n+1) λk=>f k*dl g (n-k))=Λ (n+1) λk=>f k*g (n+1-k)-f k*g (n-k):=rp λi a=>by
  show f i*(g (n-i+1)-g (n-i))=_;rw[gS,show n-i+1=n+1-i by lia]
 rw[e,Ih,d8]
 lia
theorem Pd.W2{f:Nat->Int}{d:Nat}(a:Pd d f):∀{e:Nat}{g:Nat->Int},Pd e g->Pd (d+e+1) (W2 f g)
 | 0,g,hg=>by
   show Pd d (dl (Pb.W2 f g));rw[LS];refine Pd.add ?_ (Pd.zero (λn=>?_) d)
   .have:=(a.shift 1).smul (g 0);have e:(λn=>g 0*f (n+1))=λn=>f (n+1)*g 0:=by
     funext n
     exact fF ..
    rw[e]at this;exact this
   .have z:∀m,dl g m=0:=λm=>by
     show g (m+1)-g m=0;rw[hg (m+1),hg m]
     lia
    have:=rp (k:=n+1) (f:=λk=>f k*dl g (n-k)) (g:=λ_=>0) λi _=>by rw[z];simp
    show Λ (n+1) (λk=>f k*dl g (n-k))=0;rw[this];clear this
    induction n+1 with
    | zero=>rfl
    | succ k ih=>show Λ k (λ_=>0)+0=0;rw[ih];rfl
 | e+1,g,hg=>by
   show Pd (d+e+1) (dl (Pb.W2 f g));rw[LS];refine Pd.add ?_ (Pd.W2 a (e:=e) (g:=dl g) hg);have:=((a.shift 1).smul (g 0)).le (show d<=d+e+1 by lia);have e:(λn=>g 0*f (n+1))=λn=>f (n+1)*g 0:=by
    funext n
    exact fF ..
   rw[e]at this;exact this
theorem Bn:∀(N:Nat){d:Nat}{f:Nat->Int},Pd d f->d<N->∀n,Τ (Xj N f) n 0=f n
 | 0,_,_,_,h,_=>absurd h (ji _)
 | N+1,d,f,hf,_,n=>by
   have a:∀n,Τ (Xj N (dl f)) n 0=dl f n:=by
    intro n;cases d with
    | zero=>
      have z:∀m,dl f m=0:=λm=>by
       show f (m+1)-f m=0;rw[hf (m+1),hf m]
       lia
      cases N with
      | zero=>rw[z];rfl
      | succ N=>exact Bn (N+1) (Pd.zero z 0) (by lia) n
    | succ d=>exact Bn N (d:=d) (f:=dl f) hf (by lia) n
   show f 0*(ch n 0:Int)+Τ (Xj N (dl f)) n (0+1)=f n;rw[pF]
   induction n with
   | zero=>
     rw[zo];simp
   | succ n ihn=>
     rw[Fl,a n];show f 0*((1:Nat):Int)+(Τ (Xj N (dl f)) n (0+1)+(f (n+1)-f n))=f (n+1)
     lia
theorem ua:∀{N:Nat}{f g:Nat->Int},(∀i,i<N->f i=g i)->Xj N f=Xj N g
 | 0,_,_,_=>rfl
 | N+1,f,g,h=>by
   show f 0::Xj N (dl f)=g 0::Xj N (dl g);rw[h 0 (by lia),ua (N:=N) (f:=dl f) (g:=dl g) λi a=>by
    show f (i+1)-f i=g (i+1)-g i;rw[h i (by lia),h (i+1) (by lia)]]
def ϩ(a:d2):List Int:=Xj a.length λi=>a.getD i 0
def Zu(a:d2):List Int:=(a.zip (a.drop 1)).map λp=>p.2-p.1
theorem xV(a:d2):(Zu a).length=a.length-1:=by
 unfold Zu;rw[aa,lK,fx]
 lia
theorem UN{xs:d2}{i:Nat}(h:i+1<xs.length):(Zu xs).getD i 0=xs.getD (i+1) 0-xs.getD i 0:=by
 unfold Zu;rw[aX,aA,ao (by rw[lK,fx];lia)];simp[aX,h,show i<xs.length by lia,Nat.add_comm]
theorem Gk(x:Int)(r:d2):ϩ (x::r)=x::ϩ (Zu (x::r)):=by
 unfold ϩ;rw[xV];show x::Xj r.length _=x::Xj (r.length+1-1) _;rw[Nat.add_sub_cancel]
 congr 1
 exact ua λi a=>(UN (xs:=x::r) (by simpa using a)).symm
theorem KF:∀n k:Nat,ch n k<=2^n
 | 0,0=>ap _
 | 0,_+1=>bj _
 | n+1,0=>by rw[pF];exact Nat.one_le_two_pow
 | n+1,k+1=>by
   have b:=KF n k;have a:=KF n (k+1);show ch n k+ch n (k+1)<=2^(n+1);rw[eV]
   lia
theorem Ik(f:Nat->Int):∀k,((List.range k).map f).sum=Λ k f
 | 0=>rfl
 | k+1=>by
   rw[c8,aw,c9,Ik f k];show Λ k f+(f k+0)=Λ k f+f k
   lia
def ϫ:Nat:=2^200000
theorem hJ{n k:Nat}(h:n<=2^k)(a:k<200000):n<ϫ:=by
 unfold ϫ;exact gm h (mJ (by decide) a)
theorem qN{a b:Int}(d:a.natAbs<ϫ)(c:b.natAbs<ϫ):IntMulOk a b:=by
 unfold ϫ at d c;exact IntMulOk.of_bits (aL (xR d) (by decide)) (aL (xR c) (by decide))
theorem Uz{n k:Nat}(h:n<=100000):ch n k<ϫ:=hJ (KF n k) (by lia)
theorem xK:∀n k:Nat,ch n k<=(n+1)^k
 | n,0=>by rw[pF];exact ap _
 | 0,k+1=>bj _
 | n+1,k+1=>by
   have c:=xK n k;have b:=xK n (k+1);have a:(n+1)^k<=(n+1+1)^k:=fy (by lia) k;show ch n k+ch n (k+1)<=(n+1+1)^(k+1);rw[eV]at b;rw[eV,Nat.mul_succ];have d:(n+1)^k*(n+1)<=(n+1+1)^k*(n+1):=cY _ a
   lia
theorem Cm{n x k:Nat}(h:n+1<=2^x)(a:x*k<200000):ch n k<ϫ:=hJ (k:=x*k) (aL (xK n k) (by rw[nM];exact fy h k)) a
def ς(b c:Int->Bool)(a:Int->Nat->Int):List Int->Nat->Int
 | [],_=>1
 | k::ks,n=>if b k=true then W2 (a k) (ς b c a ks) n else if c k=true then a k n*ς b c a ks 0 else a k 0*ς b c a ks n
variable{fr be:Int->Bool}{ws:Int->Nat->Int}
theorem qu{k:Int}{a:d2}(h:fr k=true):ς fr be ws (k::a)=W2 (ws k) (ς fr be ws a):=by
 funext n
 show(if fr k=true then _ else _)=_;rw[aj h]
theorem pA{k:Int}{a:d2}(h:¬fr k=true)(b:be k=true):ς fr be ws (k::a)=λn=>ws k n*ς fr be ws a 0:=by
 funext n
 show(if fr k=true then _ else _)=_;rw[ag h,aj b]
theorem oX{k:Int}{a:d2}(h:¬fr k=true)(b:¬be k=true):ς fr be ws (k::a)=λn=>ws k 0*ς fr be ws a n:=by
 funext n
 show(if fr k=true then _ else _)=_;rw[ag h,ag b]
theorem Mp{d:fz}:∀{ks:d2},(∀k∈ks,Pd (d k) (ws k))->Pd ((ks.map λk=>d k+1).sum) (ς fr be ws ks)
 | [],_=>λ_=>rfl
 | k::ks,h=>by
   have c:=h k (.head _);have a:=Mp (ks:=ks) λx g=>h x (.tail _ g);rw[aq,aN];by_cases f:fr k=true
   .rw[qu f];exact(Pd.W2 c a).le (by lia)
   .by_cases b:be k=true
    .rw[pA f b];have:=(c.smul (ς fr be ws ks 0)).le (show d k<=d k+1+(ks.map λk=>d k+1).sum by lia);have e:(λn=>ς fr be ws ks 0*ws k n)=λn=>ws k n*ς fr be ws ks 0:=by
      funext n
      exact fF ..
     rw[e]at this;exact this
    .rw[oX f b];exact(a.smul (ws k 0)).le (by lia)
theorem Dk{f:Nat->Int}{B:Int}:∀{k:Nat},(∀i,i<k->0<=f i/\f i<=B)->0<=Λ k f/\Λ k f<=k*B
 | 0,_=>⟨b9 _,by show(0:Int)<=((0:Nat):Int)*B;simp⟩
 | k+1,h=>by
   obtain⟨d,c⟩:=Dk (k:=k) λi e=>h i (by lia);obtain⟨b,a⟩:=h k (by lia);show 0<=Λ k f+f k/\Λ k f+f k<=((k+1:Nat):Int)*B;rw[Int.natCast_succ,eB,dP]
   lia
theorem yb{a b A B:Int}(c:0<=a/\a<=A)(d:0<=b/\b<=B):0<=a*b/\a*b<=A*B:=⟨cX c.1 d.1,df c.2 d.2 d.1 (bE c.1 c.2)⟩
theorem RT{f g:Nat->Int}{A B:Int}{n:Nat}(b:∀i,i<=n->0<=f i/\f i<=A)(a:∀i,i<=n->0<=g i/\g i<=B):0<=W2 f g n/\W2 f g n<=((n+1:Nat):Int)*(A*B):=Dk λi c=>yb (b i (by lia)) (a (n-i) (by lia))
theorem lP(n:Nat):(0:Int)<2^n:=Int.pow_pos (by decide)
theorem vE{X x:Nat}(e:((X+1:Nat):Int)<=2^x){a:fz}:∀{ks:d2},(∀k∈ks,∀i,i<=X->0<=ws k i/\ws k i<=2^a k)->∀n,n<=X->0<=ς fr be ws ks n/\ς fr be ws ks n<=2^(ks.map λk=>x+a k).sum
 | [],_,n,_=>⟨by show(0:Int)<=1;decide,by show(1:Int)<=2^0;decide⟩
 | k::ks,h,n,hn=>by
   have d:=h k (.head _);have c:=vE e (ks:=ks) λx e=>h x (.tail _ e);rw[aq,aN,lW,lW];have m:=lP x;have up:∀{u:Int},0<=u/\u<=2^a k*2^(ks.map λk=>x+a k).sum->0<=u/\u<=2^x*2^a k*2^(ks.map λk=>x+a k).sum:=λ{u} hu=>by
    refine⟨hu.1,?_⟩;rw[gh];have:=(yb (a:=1) (A:=2^x) (b:=u) ⟨by decide,by lia⟩ hu).2;rw[dP]at this;exact this
   by_cases f:fr k=true
   .rw[qu f];obtain⟨j,g⟩:=RT (n:=n) (λi l=>d i (by lia)) (λi l=>c i (by lia));refine⟨j,bE g ?_⟩;rw[gh];refine bu (by lia) (cX (lC (lP _)) (lC (lP _)))
   .by_cases b:be k=true
    .rw[pA f b];exact up (yb (d n hn) (c 0 (by lia)))
    .rw[oX f b];exact up (yb (d 0 (by lia)) (c n hn))
theorem Fw:∀{N:Nat}{f:Nat->Int}{b:Nat},(∀i,i<N->(f i).natAbs<=2^b)->∀c∈Xj N f,c.natAbs<=2^(b+N)
 | 0,_,_,_,c,hc=>by cases hc
 | N+1,f,b,h,c,hc=>by
   rcases ax.mp (show c∈f 0::Xj N (dl f)from hc)with rfl|hc
   .exact aL (h 0 (by lia)) (bB (by decide) (by lia))
   .have:=Fw (N:=N) (f:=dl f) (b:=b+1) (λi e=>by
     have d:=h i (by lia);have a:=h (i+1) (by lia);show(f (i+1)-f i).natAbs<=2^(b+1);rw[eV,Nat.mul_two];exact aL (Int.natAbs_sub_le _ _) (gB a d)) c hc
    rw[show b+1+N=b+(N+1) by lia]at this;exact this
def ul(d:Nat)(W:Nat->Int):Prop:=Pd d W/\∀x n,((n+1:Nat):Int)<=2^x->0<=W n/\W n<=2^(d*(x+20*d))
def τ(c:Nat)(g:Nat):Nat:=(g+1)*c-1
theorem Jt{c g:Nat}(h:1<=c):τ c g=c*g+(c-1):=by
 unfold τ;rw[eP,gY]
 lia
theorem zH{a b:Nat}(h:a<=b):(2:Int)^a<=2^b:=by
 obtain⟨k,rfl⟩:∃k,b=a+k:=⟨b-a,by lia⟩;rw[lW];have:=cj (show(1:Int)<=2^k from lP k) (lC (lP a));rw[iM]at this;exact this
theorem qS{f g:fz}{y:Nat}:∀{ks:d2},(∀k∈ks,f k<=g k*y)->(ks.map f).sum<=(ks.map g).sum*y
 | [],_=>by simp
 | k::ks,h=>by
   have c:=h k (.head _);have b:=qS (ks:=ks) λx a=>h x (.tail _ a);rw[aq,aN,aq,aN,eP]
   lia
theorem vg{g:fz}:∀{a:d2}{k:Int},k∈a->g k<=(a.map g).sum
 | k'::a,k,h=>by
   rw[aq,aN];rcases ax.mp h with rfl|h
   .lia
   .have:=vg (g:=g) h
    lia
theorem ya{W:Int->Nat->Int}{c d:fz}{ks:d2}(h:∀k∈ks,ul (d k) (W k))(f:∀k∈ks,1<=c k/\c k<=1000000):ul (ks.map λk=>d k+1).sum (ς fr be (λk g=>W k (τ (c k) g)) ks):=by
 refine⟨Mp λk b=>?_,λx n l=>?_⟩
 .have:=(h k b).1.lin (c k) (c k-1);have e:(λg=>W k (τ (c k) g))=λg=>W k (c k*g+(c k-1)):=by
   funext g
   rw[Jt (f k b).1]
  rw[e];exact this
 .have key:=vE (fr:=fr) (be:=be) (ws:=λk g=>W k (τ (c k) g)) (X:=n) (x:=x) l (a:=λk=>d k*(x+20+20*d k)) (ks:=ks) (λk b i s=>by
   refine(h k b).2 (x+20) (τ (c k) i) ?_;have m:=(f k b).1;have q:=(f k b).2;have e:τ (c k) i+1=(i+1)*c k:=by
    unfold τ;have:1<=(i+1)*c k:=bP (show 1<=i+1 by lia) m
    lia
   rw[e,eX,lW];exact df (by lia) (by have:(2:Int)^20=1048576:=rfl;lia) (Int.natCast_nonneg _) (lC (lP x))) n (ap _)
  refine⟨key.1,bE key.2 ?_⟩;refine zH (qS λk b=>?_);have j:=vg (g:=λk=>d k+1) b;generalize (ks.map λk=>d k+1).sum=D at j;have p:x+d k*(x+20+20*d k)=x+d k*x+d k*(20+20*d k):=by rw[show x+20+20*d k=x+(20+20*d k) by lia,nN];lia
  have o:(d k+1)*(x+20*D)=x+d k*x+(d k+1)*(20*D):=by rw[nN,eP];lia
  have r:d k*(20+20*d k)<=(d k+1)*(20*D):=bP (by lia) (by lia)
  lia
structure Ϗ(b:Nat)(cs:d2)(f:Nat->Int):Prop where
 ne:cs≠[]
 len:cs.length<=24
 bt:∀c∈cs,c.natAbs<=2^b
 val:∀n,Τ cs n 0=f n
theorem IL:∀(x:Int)(r:d2),Τ (x::r) 0 0=x:=λx r=>by
 show x*((1:Nat):Int)+Τ r 0 (0+1)=x;rw[zo];simp
theorem Ϗ.head{b:Nat}{a:d2}{f:Nat->Int}(h:Ϗ b a f):∃r,a=f 0::r:=by
 obtain⟨ne,_,_,v⟩:=h;cases a with
 | nil=>exact absurd rfl ne
 | cons x r=>exact⟨r,by rw[<-v 0,IL]⟩
theorem Ϗ.one:Ϗ 0 [1] (ς fr be ws []):=⟨by simp,by simp,λc a=>by rw[aI.mp a];decide,λn=>by
 show 1*((ch n 0:Nat):Int)+0=1;rw[pF]
 rfl⟩
theorem FK(a:Int):∀(b:d2)(n k:Nat),Τ (b.map λc=>a*c) n k=a*Τ b n k
 | [],_,_=>by show(0:Int)=a*0;simp
 | c::b,n,k=>by
   show a*c*(ch n k:Int)+Τ (b.map λc=>a*c) n (k+1)=a*(c*(ch n k:Int)+Τ b n (k+1));rw[FK a b,cM,gh]
theorem Ϗ.ϩ{f:Nat->Int}{N d b:Nat}(j:Pd d f)(g:d<N)(a:N<=24)(c:∀i,i<N->(f i).natAbs<=2^b):Ϗ (b+N) (ϩ ((List.range N).map f)) f:=by
 have e:Pb.ϩ ((List.range N).map f)=Xj N f:=by
  unfold Pb.ϩ;rw[aa,bD];refine ua λi h=>?_;rw[aX,aA,fA h]
  rfl
 rw[e];refine⟨λz=>?_,by rw[CO];exact a,Fw c,Bn N j g⟩;have:=CO N f;rw[z]at this;simp at this
 lia
def YW:List Int->List (List Int)
 | []=>[[]]
 | k::ks=>(k::ks)::YW ks
theorem Im:∀a:List Int,(YW a).reverse=(List.range (a.length+1)).map λj=>a.drop (a.length-j)
 | []=>rfl
 | k::a=>by
   show((k::a)::YW a).reverse=_;rw[dY,Im a,c8 (n:=(k::a).length),aw,aq,d7,d8,jW]
   congr 1
   refine bZ λj b=>?_;have:=bU.mp b;rw[aF,show a.length+1-j=(a.length-j)+1 by lia,nB]
theorem Ϗ.le{b b':Nat}{a:d2}{f:Nat->Int}(h:Ϗ b a f)(l:b<=b'):Ϗ b' a f:=⟨h.ne,h.len,λc d=>aL (h.bt c d) (bB (by decide) l),h.val⟩
def Xk(d:fz)(a:d2):Nat:=(a.map λk=>d k*(25+20*d k)+29).sum
theorem tE{d:fz}{ks:d2}(h:(ks.map λk=>d k+1).sum<=23):Xk d ks<=15000:=by
 have:Xk d ks<=(ks.map λk=>d k+1).sum*514:=qS λk a=>by
  have:=vg (g:=λk=>d k+1) a;have b:d k*(25+20*d k)<=d k*485:=jM _ (by lia);rw[eP]
  lia
 lia
theorem sK(g:fz)(a:d2)(j:Nat):((a.drop j).map g).sum<=(a.map g).sum:=by
 have:=congrArg (λl=>(l.map g).sum) (b8 j a);simp only[aw,c9]at this
 lia
theorem Dv{W:Int->Nat->Int}{c d:fz}{b:d2}{N:Nat}(p:N<=24)(h:∀k∈b,ul (d k) (W k))(l:∀k∈b,1<=c k/\c k<=1000000):∀i,i<N->0<=ς fr be (λk g=>W k (τ (c k) g)) b i/\ς fr be (λk g=>W k (τ (c k) g)) b i<=2^(b.map λk=>5+d k*(25+20*d k)).sum:=by
 intro i s;refine vE (X:=23) (x:=5) (by decide) (a:=λk=>d k*(25+20*d k)) (λk f j r=>?_) i (by lia);refine(h k f).2 25 (τ (c k) j) ?_;have o:=(l k f).1;have n:=(l k f).2;have e:τ (c k) j+1=(j+1)*c k:=by
  unfold τ;have:1<=(j+1)*c k:=bP (show 1<=j+1 by lia) o
  lia
 have q:(j+1)*c k<=24*1000000:=bP (by lia) n;have m:(2:Int)^25=33554432:=rfl;rw[e,m]
 lia
theorem GN{W:Nat->Int}{c d:Nat}(h:ul d W)(f:1<=c)(b:c<=1000000){j:Nat}(i:j<24):0<=W (τ c j)/\W (τ c j)<=2^(d*(25+20*d)):=by
 refine h.2 25 (τ c j) ?_;have e:τ c j+1=(j+1)*c:=by
  unfold τ;have:1<=(j+1)*c:=bP (show 1<=j+1 by lia) f
  lia
 have g:(j+1)*c<=24*1000000:=bP (by lia) b;have a:(2:Int)^25=33554432:=rfl;rw[e,a]
 lia
theorem rg{z:Int}{b:Nat}(h:0<=z/\z<=2^b):z.natAbs<=2^b:=by
 have:((2^b:Nat):Int)=(2:Int)^b:=by simp
 lia
theorem vH(d:fz)(k:Int)(a:d2):Xk d (k::a)=d k*(25+20*d k)+29+Xk d a:=by
 unfold Xk;rw[aq,aN]
theorem Dp(d:fz):∀a:List Int,(a.map λk=>5+d k*(25+20*d k)).sum<=Xk d a
 | []=>ap _
 | k::a=>by
   have:=Dp d a;rw[vH,aq,aN]
   lia
theorem LZ{W:Int->Nat->Int}{c d:fz}{k:Int}{S:d2}{N:Nat}(a:N<=24)(h:∀x∈k::S,ul (d x) (W x))(e:∀x∈k::S,1<=c x/\c x<=1000000)(f:((k::S).map λk=>d k+1).sum<N){b:d2}(l:b=(List.range N).map (ς fr be (λk g=>W k (τ (c k) g)) (k::S))):Ϗ (Xk d (k::S)) (ϩ b) (ς fr be (λk g=>W k (τ (c k) g)) (k::S)):=by
 subst l;refine(Ϗ.ϩ (ya h e).1 f a λi j=>rg (Dv a h e i j)).le ?_;have:=Dp d S;rw[vH,aq,aN]
 lia
theorem RJ{W:Int->Nat->Int}{c d:fz}{k:Int}{S:d2}{e:d2}(l:ul (d k) (W k))(p:1<=c k)(i:c k<=1000000)(f:¬fr k=true)(b:¬be k=true)(a:Ϗ (Xk d S) e (ς fr be (λk g=>W k (τ (c k) g)) S)):Ϗ (Xk d (k::S)) (e.map λx=>W k (τ (c k) 0)*x) (ς fr be (λk g=>W k (τ (c k) g)) (k::S)):=by
 refine⟨λz=>a.ne (mU.mp z),by rw[aa];exact a.len,λx o=>?_,λn=>?_⟩
 .obtain⟨y,hy,rfl⟩:=aP.mp o;have m:=rg (GN l p i (j:=0) (by decide));have h:=a.bt y hy;rw[kb,vH];refine aL (bP m h) ?_;rw[<-eO];exact bB (by decide) (by lia)
 .rw[FK,a.val,oX f b]
theorem LR{f g b a:Nat->Int}{n:Nat}(d:∀i,i<=n->f i=b i)(c:∀i,i<=n->g i=a i):W2 f g n=W2 b a n:=rp λi e=>by rw[d i (by lia),c (n-i) (by lia)]
theorem zB{f:Nat->Int}{N i:Nat}(h:i<N):((List.range N).map f).getD i 0=f i:=by
 rw[aX,aA,fA h]
 rfl
theorem Mt{d:fz}:∀a:List Int,a.length<=(a.map λk=>d k+1).sum
 | []=>ap _
 | k::a=>by
   have:=Mt (d:=d) a;rw[aq,aN,aF]
   lia
theorem IR{b c:Type}{R:b->c->Prop}:∀{l:List b}{a:List c},Paired R l a->Paired R l.reverse a.reverse
 | _,_,.nil=>.nil
 | _,_,.cons e h=>by
   rw[dY,dY];exact sQ e (IR h)
theorem xw{fr' be':Int->Bool}{ws':Int->Nat->Int}:∀{ks:d2},(∀k∈ks,fr k=fr' k/\be k=be' k/\ws k=ws' k)->ς fr be ws ks=ς fr' be' ws' ks
 | [],_=>rfl
 | k::ks,h=>by
   obtain⟨e,c,a⟩:=h k (.head _);have d:=xw (ks:=ks) λx b=>h x (.tail _ b)
   funext n
   show(if fr k=true then W2 (ws k) (ς fr be ws ks) n else if be k=true then ws k n*ς fr be ws ks 0 else ws k 0*ς fr be ws ks n)=(if fr' k=true then W2 (ws' k) (ς fr' be' ws' ks) n else if be' k=true then ws' k n*ς fr' be' ws' ks 0 else ws' k 0*ς fr' be' ws' ks n);rw[e,c,a,d]
section
variable{m:Int}{d:hH}{r:Int}{a:d3}{b:fz}{c:fz}
def wyF(m:Int)(d:hH)(r:Int)(a:d3)(fr be:Int->Bool)(c:fz):Nat->Int->Nat->Int
 | 0,_=>λ_=>1
 | f+1,v=>ς fr be (λk g=>wyF m d r a fr be c f k (τ (c k) g)) (kd m d r a v)
def wy(m:Int)(d:hH)(r:Int)(a:d3)(b:fz)(fr be:Int->Bool)(c:fz)(v:Int):Nat->Int:=wyF m d r a fr be c (m.toNat-b v) v
theorem jF(g:Good m d)(R:ζ m d r a b){v:Int}(j:0<=v)(i:v<m):wy m d r a b fr be c v=ς fr be (λk g=>wy m d r a b fr be c k (τ (c k) g)) (kd m d r a v):=by
 unfold wy;cases e:m.toNat-b v with
 | zero=>
   have:kd m d r a v=[]:=by
    cases h:kd m d r a v with
    | nil=>rfl
    | cons k ks=>
      have:=(tG g R j i (k:=k) (by rw[h];exact .head _)).2.1
      lia
   rw[this]
   rfl
 | succ f=>
   show ς fr be (λk g=>wyF m d r a fr be c f k (τ (c k) g)) (kd m d r a v)=_;refine xw λk h=>⟨rfl,rfl,?_⟩;have:=(tG g R j i h).2.1;rw[show m.toNat-b k=f by lia]
def ϐ(m:Int)(d:hH)(r:Int)(a:d3)(b:fz)(v:Int):Nat:=(bO m d r a b v).length-1
theorem gc(g:Good m d)(R:ζ m d r a b){v:Int}(h:0<=v)(f:v<m):((kd m d r a v).map λk=>ϐ m d r a b k+1).sum=ϐ m d r a b v:=by
 have e:=congrArg List.length (fL g R h f);rw[aF,List.length_flatMap]at e;unfold ϐ;rw[e,Nat.add_sub_cancel];show _=((kd m d r a v).map λk=>(bO m d r a b k).length).sum;refine congrArg List.sum (bZ λk j=>?_);obtain⟨⟨l,i⟩,_⟩:=(tG g R h f j).1;have:=congrArg List.length (fL g R l i);rw[aF]at this
 lia
theorem Bd(g:Good m d)(R:ζ m d r a b)(f:∀v,0<=v->v<m->v≠r->1<=c v/\c v<=1000000):∀(n:Nat){v:Int},0<=v->v<m->m.toNat-b v<=n->ul (ϐ m d r a b v) (wy m d r a b fr be c v)
 | n,v,h0,h1,hn=>by
   rw[jF g R h0 h1,<-gc g R h0 h1];refine ya (λk e=>?_) λk e=>?_
   .obtain⟨⟨k0,k1⟩,_⟩:=(tG g R h0 h1 e).1;have:=(tG g R h0 h1 e).2.1;cases n with
    | zero=>lia
    | succ n=>exact Bd g R f n k0 k1 (by lia)
   .obtain⟨⟨k0,k1⟩,kr,_⟩:=(tG g R h0 h1 e).1;exact f k k0 k1 kr
end
theorem CC:∀{b a:d2},a∈YW b->∀x∈a,x∈b
 | [],a,h,x,hx=>by
   rw[aI.mp h]at hx;exact hx
 | k::b,a,h,x,hx=>by
   rcases ax.mp (show a∈(k::b)::YW b from h)with rfl|h
   .exact hx
   .exact .tail _ (CC h x hx)
theorem zb{d g:Type}{R S:d->g->Prop}:∀{l:List d}{c:List g},(∀a b,b∈c->R a b->S a b)->Paired R l c->Paired S l c
 | _,_,_,.nil=>.nil
 | _,_,f,.cons e h=>.cons (f _ _ (.head _) e) (zb (λa b i=>f a b (.tail _ i)) h)
theorem vI(a:d2):∃r,YW a=a::r:=by
 cases a with
 | nil=>exact⟨[],rfl⟩
 | cons k a=>exact⟨YW a,rfl⟩
theorem md{m:Int}{c:hH}{r:Int}{b:d3}{a:fz}(g:Good m c)(R:ζ m c r b a){v:Int}(i:0<=v)(d:v<m):(ϐ m c r b a v:Int)<m:=by
 obtain⟨e,f⟩:=oz g R (m.toNat-1-a v) v i d;have:=fC (m:=m) (by lia) e λx h=>(f x h).1;have:=g.m1;unfold ϐ bO
 lia
theorem Mc{m:Int}{e:hH}{r:Int}{a:d3}{f:fz}(g:Good m e)(R:ζ m e r a f){b:d2}(O:Order m r a b){i:Nat}{v:Int}(h:(r::b).reverse[i]?=some v)(n:0<=v)(l:v<m):∀k∈kd m e r a v,k∈(r::b).reverse.take i:=by
 intro k j;have w:=(bw g R n l).mp j;rw[dY]at h ⊢;by_cases c:i<b.length
 .rw[dh (by rw[bc];exact c)]at h;obtain⟨_,_,_,_,d⟩:=O.cut R h;have:=d k w.1.1 w.1.2 w.2.1 w.2.2;rw[List.take_append_of_le_length (by rw[bc];lia),List.take_reverse,dJ];exact this
 .rw[List.take_append,dc (by rw[bc];lia)];exact bo _ (dJ.mpr ((O.all k w.1.1 w.1.2).resolve_left w.2.1))
theorem F6{f:Int->List Int}{v:Int}{z:d2}:∀{l:d2},(l.flatMap f).Nodup->(l.flatMap λk=>if v∈f k then z else[])=if v∈l.flatMap f then z else[]
 | [],_=>by simp
 | a::l,h=>by
   rw[bC]at h ⊢;obtain⟨i,g,d⟩:=dC.mp h;rw[bC,F6 g];by_cases c:v∈f a
   .have:v∉l.flatMap f:=λe=>d v c v e rfl;rw[aj c,ag this,aj (bo _ c),bH]
   .rw[ag c,ga];by_cases b:v∈l.flatMap f
    .rw[aj b,aj (aW _ b)]
    .rw[ag b,ag (λe=>(aY.mp e).elim c b)]
section
variable{m:Int}{j:hH}{r:Int}{d:d3}{i:fz}
theorem nA{f h:Int->List Int}:∀{l:d2},(∀x∈l,f x=h x)->l.flatMap f=l.flatMap h
 | [],_=>rfl
 | a::l,e=>by rw[bC,bC,e a aJ,nA λx b=>e x (aH _ b)]
theorem Fe{p:Int->Bool}{f:Int->List Int}:∀l:List Int,(l.flatMap f).filter p=l.flatMap λk=>(f k).filter p
 | []=>rfl
 | a::l=>by rw[bC,b4,Fe l,bC]
theorem DN:∀l:List Int,(l.flatMap λk=>[k])=l
 | []=>rfl
 | a::l=>by
   rw[bC,DN l]
   rfl
theorem GK(g:Good m j)(R:ζ m j r d i){v:Int}(t:0<=v)(x:v<m):∀(n:Nat){u:Int},0<=u->u<m->m.toNat-i u<=n->((kd m j r d u).flatMap (bO m j r d i)).filter (λb=>decide (d b=v))=if v∈bO m j r d i u then kd m j r d v else[]
 | n,u,u0,u1,hn=>by
   have st:=fL g R u0 u1;have o:(bO m j r d i u).Nodup:=(oz g R _ u u0 u1).1;rw[st]at o;obtain⟨h,p⟩:=bg.mp o;have s:∀k∈kd m j r d u,(bO m j r d i k).filter (λb=>decide (d b=v))=(if u=v then[k]else[])++if v∈bO m j r d i k then kd m j r d v else[]:=λk a=>by
    have w:=tG g R u0 u1 a;rw[fL g R w.1.1.1 w.1.1.2,g9];have l:((kd m j r d k).flatMap (bO m j r d i)).filter (λb=>decide (d b=v))=if v∈bO m j r d i k then kd m j r d v else[]:=by
     cases n with
     | zero=>lia
     | succ n=>exact GK g R t x n w.1.1.1 w.1.1.2 (by lia)
    rw[show((bQ m j (front r d k) k).flatMap (bO m j r d i)).filter (λb=>decide (d b=v))=_ from l,fL g R w.1.1.1 w.1.1.2,w.1.2.2];by_cases c:u=v
    .rw[aj (bh c),aj c]
     rfl
    .rw[ag (by rw[bM];exact c),ag c]
     rfl
   rw[Fe,nA s];by_cases c:u=v
   .subst c;have q:u∈bO m j r d i u:=(by rw[st];exact .head _);rw[aj q];have:((kd m j r d u).flatMap λk=>(if u=u then[k]else[])++if u∈bO m j r d i k then kd m j r d u else[])=(kd m j r d u).flatMap λk=>[k]:=nA λk a=>by
     rw[aj rfl,ag (λe=>h (dM.mpr ⟨k,a,e⟩)),bH]
    rw[this,DN]
   .have:((kd m j r d u).flatMap λk=>(if u=v then[k]else[])++if v∈bO m j r d i k then kd m j r d v else[])=(kd m j r d u).flatMap λk=>if v∈bO m j r d i k then kd m j r d v else[]:=nA λk a=>by rw[ag c,ga]
    rw[this,F6 p,st];by_cases f:v∈(bQ m j (front r d u) u).flatMap (bO m j r d i)
    .rw[aj f,aj (.tail _ f)]
    .rw[ag f,ag (λe=>(ax.mp e).elim (λz=>c z.symm) f)]
theorem Nr(g:Good m j)(R:ζ m j r d i)(f:0<=r)(l:r<m){a:d2}(c:bO m j r d i r=r::a)(O:Order m r d a){v:Int}(k:0<=v)(n:v<m):bV m j r d i a v=((kd m j r d v).filter λb=>decide (ο m j r d i b*tup j d b=ο m j r d i v)).getLast?:=by
 have h:=GK g R k n (m.toNat-i r) f l (ap _);have e:(kd m j r d r).flatMap (bO m j r d i)=a:=by
  have:=fL g R f l;rw[c]at this;exact(d6 this).2.symm
 rw[e,c,aj (by
  rcases O.all v k n with z|z
  .rw[z];exact .head _
  .exact .tail _ z)]at h
 unfold bV;rw[<-h,List.filter_filter]
 congr 1
 refine List.filter_congr λb _=>?_;rw[<-Bool.decide_and];exact kW.mpr ⟨λ⟨x,y⟩=>⟨y,x⟩,λ⟨x,y⟩=>⟨y,x⟩⟩
theorem wj{f:Int->List Int}:∀{l:d2},(∀k∈l,k∈f k)->(l.flatMap f).Nodup->l.Nodup
 | [],_,_=>mi
 | a::l,h,nd=>by
   rw[bC]at nd;obtain⟨_,c,e⟩:=dC.mp nd;refine bg.mpr ⟨λz=>?_,wj (λk b=>h k (.tail _ b)) c⟩;exact e a (h a (.head _)) a (dM.mpr ⟨a,z,h a (.head _)⟩) rfl
theorem PD{p:Int->Bool}{b a:d2}{k:Int}(t:(b++k::a).Nodup):((b++k::a).filter p).getLast?=some k↔(p k&&!(a.any p))=true:=by
 obtain⟨_,s,n⟩:=dC.mp t;have q:k∉a:=(bg.mp s).1;have v:k∉b:=λz=>n k z k (.head _) rfl;rw[b4,ce,fW];by_cases f:a.any p=true
 .have ne:a.filter p≠[]:=λz=>by
   obtain⟨x,g,o⟩:=lM.mp f;have:x∈a.filter p:=bG.mpr ⟨g,o⟩;rw[z]at this;cases this
  have e:(b.filter p++(k::a).filter p).getLast?=(a.filter p).getLast?:=by
   obtain⟨l,u⟩:∃l,b.filter p++(k::a).filter p=l++a.filter p:=by
    rw[g9];by_cases c:p k=true
    .rw[aj c];exact⟨b.filter p++[k],by rw[bX];rfl⟩
    .rw[ag c];exact⟨_,rfl⟩
   rw[u,jt];cases h:(a.filter p).getLast? with
   | none=>exact absurd (kE.mp h) ne
   | some x=>rfl
  rw[e]
  constructor
  .intro z;exact absurd ((bG.mp (jC z)).1) q
  .intro z;rw[f]at z;cases z.2
 .have hf:a.filter p=[]:=List.filter_eq_nil_iff.mpr λx g o=>f (lM.mpr ⟨x,g,o⟩);rw[g9,hf];by_cases c:p k=true
  .rw[aj c,jt];exact⟨λ_=>⟨c,Bool.eq_false_iff.mpr f⟩,λ_=>rfl⟩
  .rw[ag c,bH]
   constructor
   .intro z;exact absurd ((bG.mp (jC z)).1) v
   .intro z;exact absurd z.1 c
theorem NR(g:Good m j)(R:ζ m j r d i)(q:0<=r)(u:r<m){h:d2}(w:bO m j r d i r=r::h)(O:Order m r d h){v:Int}(c:0<=v)(f:v<m){l a:d2}{k:Int}(e:kd m j r d v=l++k::a):bV m j r d i h v=some k↔(decide (ο m j r d i k*tup j d k=ο m j r d i v)&&!(a.any λb=>decide (ο m j r d i b*tup j d b=ο m j r d i v)))=true:=by
 have t:(kd m j r d v).Nodup:=by
  have x:=fL g R c f;have n:(bO m j r d i v).Nodup:=(oz g R _ v c f).1;rw[x]at n;have s:=(bg.mp n).2;exact wj (λk o=>by rw[fL g R ((bw g R c f).mp o).1.1 ((bw g R c f).mp o).1.2];exact .head _) s
 rw[Nr g R q u w O c f,e];exact PD (p:=λb=>decide (ο m j r d i b*tup j d b=ο m j r d i v)) (e▸t)
end
end Pb
namespace Pb
open L2 PySem PySem.W NumText
section
variable{a b:Int->Bool}{c:Int->Nat->Int}
theorem FT{f:Nat->Int}:∀{k:Nat},(∀i,i<k->0<=f i)->0<=Λ k f
 | 0,_=>b9 _
 | k+1,h=>by
   have e:=FT (k:=k) λi g=>h i (by lia);have d:=h k (by lia);show 0<=Λ k f+f k
   lia
end
def Xu(a k:Nat):Int:=if k%2=0 then(ch (a+k) k:Int)else -(ch (a+k) k:Int)
def Yh:Int->Nat->Int
 | .ofNat n,k=>(ch n k:Int)
 | .negSucc a,k=>Xu a k
def nwN:List Int->Nat->Nat->Int
 | [],_,_=>0
 | d::r,a,k=>d*Xu a k+nwN r a (k+1)
def gT(b:d2)(n:Int)(k:Nat):Int:=match n with
 | .ofNat n=>Τ b n k
 | .negSucc a=>nwN b a k
theorem pB(a:d2)(n k:Nat):gT a (n:Int) k=Τ a n k:=rfl
theorem nZ(n:Int)(k:Nat):gT [] n k=0:=by cases n<;>rfl
theorem jO(d:Int)(r:d2)(n:Int)(k:Nat):gT (d::r) n k=d*Yh n k+gT r n (k+1):=by cases n<;>rfl
theorem sN(n:Int):Yh n 0=1:=by
 cases n with
 | ofNat n=>show((ch n 0:Nat):Int)=1;rw[pF];rfl
 | negSucc a=>show Xu a 0=1;unfold Xu;rw[aj rfl,pF];rfl
theorem vN(a k:Nat):Xu a (k+1)=-(if k%2=0 then(ch (a+(k+1)) (k+1):Int)else -(ch (a+(k+1)) (k+1):Int)):=by
 unfold Xu;by_cases c:k%2=0
 .rw[ag (by lia),aj c]
 .rw[aj (by lia),ag c,Int.neg_neg]
theorem Ci:∀k:Nat,ch k k=1
 | 0=>rfl
 | k+1=>by
   show ch k k+ch k (k+1)=1;rw[Ci k,Gx (by lia)]
theorem Kk(n:Int)(k:Nat):Yh (n+1) (k+1)=Yh n k+Yh n (k+1):=by
 cases n with
 | ofNat n=>
   show((ch n k+ch n (k+1):Nat):Int)=(ch n k:Int)+(ch n (k+1):Int);rw[dH]
 | negSucc a=>
   cases a with
   | zero=>
     show((0:Nat):Int)=Xu 0 k+Xu 0 (k+1);rw[vN];unfold Xu;rw[iX,iX,Ci,Ci];split<;>rfl
   | succ a=>
     show Xu a (k+1)=Xu (a+1) k+Xu (a+1) (k+1);rw[vN,vN];unfold Xu;have e:ch (a+1+(k+1)) (k+1)=ch (a+1+k) k+ch (a+1+k) (k+1):=rfl;rw[e,dH,show a+(k+1)=a+1+k by lia];split<;>lia
theorem Oo(n:Int)(k:Nat):Yh n (k+1)*((k:Int)+1)=Yh n k*(n-(k:Int)):=by
 cases n with
 | ofNat n=>exact uB n k
 | negSucc a=>
   show Xu a (k+1)*((k:Int)+1)=Xu a k*(Int.negSucc a-(k:Int));have h:=uB (a+k) k;have e:ch (a+(k+1)) (k+1)=ch (a+k) k+ch (a+k) (k+1):=rfl;have b:(ch (a+(k+1)) (k+1):Int)*((k:Int)+1)=(ch (a+k) k:Int)*((a:Int)+(k:Int)+1):=by
    rw[e,dH,eB,h,<-cM]
    congr 1
    rw[dH]
    lia
   have c:Int.negSucc a-(k:Int)=-((a:Int)+(k:Int)+1):=by
    rw[Int.negSucc_eq]
    lia
   rw[vN,c,Int.mul_neg,oG];unfold Xu
   congr 1
   split
   .exact b
   .rw[oG,oG,b]
theorem EU:∀(r:d2)(n:Int)(k:Nat),gT r (n+1) (k+1)=gT r n (k+1)+gT r n k
 | [],n,k=>by rw[nZ,nZ,nZ];rfl
 | d::r,n,k=>by
   rw[jO,jO,jO,EU r n (k+1),Kk,cM]
   lia
theorem Nf(d:Int)(r:d2)(n:Int):gT (d::r) (n+1) 0-gT (d::r) n 0=gT r n 0:=by
 rw[jO,jO,sN,sN,EU]
 lia
theorem QM(r:d2)(d:Int)(n:Int)(k:Nat):gT (r++[d]) n k=gT r n k+d*Yh n (k+r.length):=by
 induction r generalizing k with
 | nil=>
   rw[ga,jO,nZ,nZ,dU,Nat.add_zero]
   lia
 | cons x r ih=>
   rw[fG,jO,jO,ih (k+1),aF,show k+1+r.length=k+(r.length+1) by lia]
   lia
theorem Pd.mul:∀(N:Nat){d e:Nat}{f g:Nat->Int},d+e<=N->Pd d f->Pd e g->Pd (d+e) (λn=>f n*g n)
 | N,0,e,f,g,_,hf,hg=>by
   have h:(λn=>f n*g n)=λn=>f 0*g n:=by
    funext n
    rw[hf n]
   rw[h,iX];exact hg.smul _
 | N,d+1,0,f,g,_,hf,hg=>by
   have h:(λn=>f n*g n)=λn=>g 0*f n:=by
    funext n
    rw[hg n,fF]
   rw[h];exact hf.smul _
 | 0,d+1,e+1,_,_,hn,_,_=>by lia
 | N+1,d+1,e+1,f,g,hn,hf,hg=>by
   have b:=Pd.mul N (d:=d+1) (e:=e) (f:=λn=>f (n+1)) (g:=dl g) (by lia) (hf.shift 1) hg;have a:=Pd.mul N (d:=d) (e:=e+1) (f:=dl f) (g:=g) (by lia) hf hg;rw[show d+1+(e+1)=d+e+1+1 by lia];show Pd (d+e+1) (dl λn=>f n*g n);have h:(dl λn=>f n*g n)=λn=>f (n+1)*dl g n+dl f n*g n:=by
    funext n
    show f (n+1)*g (n+1)-f n*g n=f (n+1)*(g (n+1)-g n)+(f (n+1)-f n)*g n;rw[gS,Int.sub_mul]
    lia
   rw[h];rw[show d+1+e=d+e+1 by lia]at b;rw[show d+(e+1)=d+e+1 by lia]at a;exact b.add a
theorem Pd.Λ{d:Nat}{f:Nat->Int}(h:Pd d f):Pd (d+1) (λj=>Λ j f):=by
 show Pd d (dl λj=>Pb.Λ j f);have e:(dl λj=>Pb.Λ j f)=f:=by
  funext j
  show Pb.Λ j f+f j-Pb.Λ j f=f j
  lia
 rw[e];exact h
theorem Fi{z:Int}{x k:Nat}(f:-100<=z)(c:z+1<=2^x)(e:8<=x)(h:k<=100):(Yh z k).natAbs<=2^(x*k):=by
 cases z with
 | ofNat n=>
   show((ch n k:Nat):Int).natAbs<=_;rw[kH];have b:n+1<=2^x:=by
    have:((2^x:Nat):Int)=(2:Int)^x:=(by simp);have d:((n:Int)+1)<=2^x:=c
    lia
   exact aL (xK n k) (by rw[nM];exact fy b k)
 | negSucc a=>
   have g:a<=99:=by
    rw[Int.negSucc_eq]at f
    lia
   have b:=xK (a+k) k;have d:(a+k+1)^k<=2^(x*k):=by
    rw[nM];refine fy ?_ k;exact aL (show a+k+1<=2^8 by lia) (bB (by decide) e)
   show(Xu a k).natAbs<=_;unfold Xu;split
   .rw[kH];lia
   .rw[Int.natAbs_neg,kH];lia
theorem vo{z:Int}{x b:Nat}(d:-100<=z)(a:z+1<=2^x)(e:8<=x):∀{cs:d2}{k:Nat},k+cs.length<=100->(∀c∈cs,c.natAbs<=2^b)->(gT cs z k).natAbs<=cs.length*2^(b+x*100)
 | [],k,_,_=>by rw[nZ];exact bj _
 | c::cs,k,hk,hc=>by
   rw[aF]at hk;have j:=vo d a e (cs:=cs) (k:=k+1) (by lia) λy f=>hc y (.tail _ f);have h:=Fi d a e (k:=k) (by lia);have g:=hc c (.head _);have i:(c*Yh z k).natAbs<=2^(b+x*100):=by
    rw[kb,eO];refine bP g (aL h (bB (by decide) ?_));exact jM x (by lia)
   rw[jO,aF,eP,jD];have:=iU (c*Yh z k) (gT cs z (k+1))
   lia
end Pb
namespace L2
open PySem PySem.Spec PyProof.Rows
section
variable{X:Cx}
def aal:V->List V->Hp->VK->Prop:=λx e H Q=>∃d b c a,x=.ref d/\e=[.ref b]/\H d=some (.dK c)/\H b=some (.dK a)/\d≠b/\c.length+a.length<=sizeLine/\Q .ω (upd H d (.dK (jS c a)))
theorem MD:MtM X "dict.update" aal:=by
 intro j s L H x E v G Q I t r h;obtain⟨d,b,p,a,rfl,rfl,i,z,ne,k,q⟩:=h;cases t;obtain⟨u,rfl,o⟩:=r.one;cases o;obtain⟨C,A,g,l,c⟩:=EI I.ψ i;obtain⟨J,y,e,n,f⟩:=EI I.ψ z;refine call_meetsIn F.slot_dict_update c.typeIs F.entry_dict_update (F.args_dict_update_2 _ _) (meets_dict_update (iq X.prog X.w) d b ne y) ⟨g,e,c,f,?_,λK m D B=>?_⟩
 .rw[<-Paired.length l,<-Paired.length n];exact k
 .refine⟨.ω,_,xY I (by rw[i];exact True.intro) B (let ⟨q,_,_,hq,_⟩:=m;⟨q,hq⟩) (FS (aL (oW a p) k) A (n.merge l) m),rfl,q⟩
end
end L2
namespace Pb
open L2 PySem PySem.W NumText
theorem IQ{cs:d2}{z:Int}(e:-100<=z)(a:z+1<=2^64)(f:cs.length<=24)(cb:∀c∈cs,c.natAbs<=2^15000):(gT cs z 0).natAbs<ϫ:=by
 have h:=vo (x:=64) (b:=15000) e a (by decide) (cs:=cs) (k:=0) (by lia) cb;refine hJ (k:=21405) (aL h ?_) (by decide);have d:(2:Nat)^21405=32*2^(15000+64*100):=by rw[show 21405=5+(15000+64*100)from rfl,eO 2 5]
 rw[d];exact cY _ (aL f (by decide))
theorem uE{z:Int}{k:Nat}(b:-100<=z)(a:z+1<=2^64)(c:k<=24):(Yh z k).natAbs<ϫ:=hJ (Fi b a (by decide) (by lia)) (by lia)
theorem Bi{a:d2}(cb:∀c∈a,c.natAbs<=2^15000):∀c∈a,c.natAbs<ϫ:=λc b=>hJ (cb c b) (by decide)
def ϰ(m:Nat)(F:Nat->Int):List Int:=(List.range m).map λj=>Λ j F
def Ϲ(b a:d2)(c:Nat)(z:Int)(g:Nat):Int:=Τ a (τ c g) 0*gT b (z-(g:Int)) 0
theorem RN{a:d2}{c:Int}(h:c∈Zu a):∃x∈a,∃y∈a,c=y-x:=by
 unfold Zu at h;obtain⟨p,b,rfl⟩:=aP.mp h;exact⟨p.1,(hG b).1,p.2,b5 (hG b).2,rfl⟩
theorem zr:∀(n:Nat){xs:d2}{b:Nat},xs.length=n->(∀x∈xs,x.natAbs<=2^b)->∀c∈ϩ xs,c.natAbs<=2^(b+n)
 | 0,xs,b,hl,_,c,hc=>by
   rw[lD.mp hl]at hc;cases hc
 | n+1,[],b,hl,_,c,hc=>by cases hc
 | n+1,x::r,b,hl,hx,c,hc=>by
   rw[Gk]at hc;rcases ax.mp hc with rfl|hc
   .exact aL (hx _ (.head _)) (bB (by decide) (by lia))
   .have h:=zr n (xs:=Zu (x::r)) (b:=b+1) (by rw[xV,hl];rfl) (λy e=>by
     obtain⟨u,f,v,g,rfl⟩:=RN e;have d:=hx u f;have a:=hx v g;rw[eV,Nat.mul_two];exact aL (Int.natAbs_sub_le _ _) (by first|exact gB d a|exact gB a d)) c hc
    rw[show b+(n+1)=b+1+n by lia];exact h
theorem zg{F:Nat->Int}{b:Nat}:∀{k:Nat},(∀i,i<k->(F i).natAbs<=2^b)->(Λ k F).natAbs<=k*2^b
 | 0,_=>by show(0:Int).natAbs<=_;lia
 | k+1,h=>by
   have c:=zg (F:=F) (k:=k) λi d=>h i (by lia);have a:=h k (by lia);show(Λ k F+F k).natAbs<=_;rw[eP,jD];exact aL (iU _ _) (gB c a)
theorem LC{cs:d2}{z:Int}(e:-100<=z)(a:z+1<=2^64)(f:cs.length<=24)(cb:∀c∈cs,c.natAbs<=2^15000):(gT cs z 0).natAbs<=2^21405:=by
 have h:=vo (x:=64) (b:=15000) e a (by decide) (cs:=cs) (k:=0) (by lia) cb;refine aL h ?_;have d:(2:Nat)^21405=32*2^(15000+64*100):=by rw[show 21405=5+(15000+64*100)from rfl,eO 2 5]
 rw[d];exact cY _ (aL f (by decide))
theorem Gm{b a:d2}{c:Nat}{z:Int}{g:Nat}(n:-70<=z)(m:z+1<=2^64)(h:g<=24)(i:c<=1000000)(f:b.length<=24)(j:a.length<=24)(l:∀c∈b,c.natAbs<=2^15000)(k:∀c∈a,c.natAbs<=2^15000):(Ϲ b a c z g).natAbs<=2^42810:=by
 unfold Ϲ;have o:τ c g+1<=2^25:=by
  unfold τ;have e:(g+1)*c<=25*1000000:=bP (by lia) i;have d:(2:Nat)^25=33554432:=rfl
  lia
 have e:(Τ a (τ c g) 0).natAbs<=2^21405:=LC (z:=((τ c g:Nat):Int)) (by lia) (by lia) j k;have d:(gT b (z-(g:Int)) 0).natAbs<=2^21405:=LC (by lia) (by lia) f l;rw[kb,show 42810=21405+21405 from rfl,eO];exact bP e d
theorem Jg{m:Nat}{d a:d2}{c:Nat}{z:Int}(s:m<=24)(g:-70<=z)(f:z+1<=2^64)(o:c<=1000000)(n:d.length<=24)(p:a.length<=24)(r:∀c∈d,c.natAbs<=2^15000)(q:∀c∈a,c.natAbs<=2^15000):∀x∈ϩ (ϰ m (Ϲ d a c z)),x.natAbs<ϫ:=λx k=>by
 have h:(ϰ m (Ϲ d a c z)).length=m:=by unfold ϰ;rw[aa,bD]
 have:=zr m (b:=42815) h (λy e=>by
  unfold ϰ at e;obtain⟨j,l,rfl⟩:=aP.mp e;have t:=bU.mp l;refine aL (zg λi u=>Gm g f (show i<=24 by lia) o n p r q) ?_;rw[show 42815=5+42810 from rfl,eO 2 5];exact cY _ (show j<=2^5 by lia)) x k
 exact hJ this (by lia)
theorem Cr(a:d2):(ϩ a).length=a.length:=by
 unfold ϩ;generalize (λi=>a.getD i 0)=f
 induction a.length generalizing f with
 | zero=>rfl
 | succ n ih=>show(_::Xj n _).length=_;rw[aF,ih]
section
variable{fr be:Int->Bool}{ws:Int->Nat->Int}
theorem qR{a b:Int}(d:1<=a)(c:1<=b):1<=a*b:=df d c (by decide) (by lia)
theorem pH:∀{ks:d2},(∀k∈ks,∀n,1<=ws k n)->∀n,1<=ς fr be ws ks n
 | [],_,_=>b9 _
 | k::ks,h,n=>by
   have b:=h k (.head _);have a:=pH (ks:=ks) λx c=>h x (.tail _ c);show 1<=if fr k=true then _ else if be k=true then _ else _;split
   .show 1<=Λ n _+ws k n*ς fr be ws ks (n-n);have:=FT (k:=n) (f:=λi=>ws k i*ς fr be ws ks (n-i)) λi _=>bE (by decide) (qR (b i) (a (n-i)));have:=qR (b n) (a (n-n))
    lia
   .split
    .exact qR (b _) (a _)
    .exact qR (b _) (a _)
variable{m r:Int}{l:hH}{d:d3}{j:fz}{c:fz}{o:d2}
theorem sO(g:Good m l)(R:ζ m l r d j):∀(n:Nat){v:Int},0<=v->v<m->m.toNat-j v<=n->∀h,1<=wy m l r d j fr be c v h
 | 0,v,h0,h1,e=>by have:=kM R h0 h1;lia
 | n+1,v,h0,h1,e=>by
   rw[jF g R h0 h1];refine pH λk p i=>?_;obtain⟨a,b,f⟩:=(bw g R h0 h1).mp p;have q:=R.pos a.1 a.2 b;rw[f]at q;exact sO g R n a.1 a.2 (by lia) _
theorem CM(g:Good m l)(R:ζ m l r d j)(O:Order m r d o){k:Int}(b:0<=k)(a:k<m)(e:k≠r):ο m l r d j k*tup l d k<=ο m l r d j (d k):=by
 have p:=(R.up k b a e).1;have:=(Jo g R O).std k ((O.all k b a).resolve_left e);rw[gN b a,gN p.1 p.2]at this;exact this
theorem Cg(g:Good m l)(R:ζ m l r d j)(O:Order m r d o){k:Int}(b:0<=k)(a:k<m)(f:k≠r)(h:(c k:Int)=tup l d k)(i:Nat):ο m l r d j k*((τ (c k) i:Nat)+1)<=ο m l r d j (d k)*((i:Int)+1):=by
 have w:=CM g R O b a f;have t:=(fV g R b a f).1;have e:((τ (c k) i:Nat):Int)+1=tup l d k*((i:Int)+1):=by
  unfold τ;have:1<=(i+1)*c k:=bP (show 1<=i+1 by lia) (show 1<=c k by lia);rw[jG this,eX,h,fF];simp
 rw[e,<-gh];exact bu w (by lia)
theorem vz{w a b:Int}(h:1<=w)(f:0<=a)(e:w*a<=b):a<=b:=bE (by have:=bu h f;lia) e
theorem Jc(g:Good m l)(R:ζ m l r d j)(O:Order m r d o)(y:∀k,0<=k->k<m->k≠r->(c k:Int)=tup l d k){x:Nat}{v:Int}(s:0<=v)(q:v<m)(w:∀k∈kd m l r d v,∀h:Nat,ο m l r d j k*((h:Int)+1)<=2^x->0<=wy m l r d j fr be c k h/\wy m l r d j fr be c k h<=2^(x*ϐ m l r d j k)){ks:d2}(p:∀k∈ks,k∈kd m l r d v){h:Nat}(e:ο m l r d j v*((h:Int)+1)<=2^x):ς fr be (λk g=>wy m l r d j fr be c k (τ (c k) g)) ks h<=2^(x*(ks.map λk=>ϐ m l r d j k+1).sum):=by
 have t:=(eZ g R s q).1;have:=(vE (fr:=fr) (be:=be) (ws:=λk g=>wy m l r d j fr be c k (τ (c k) g)) (X:=h) (x:=x) (by rw[dH];exact vz t (by lia) e) (a:=λk=>x*ϐ m l r d j k) (ks:=ks) (λk f i z=>by
  obtain⟨b,n,u⟩:=(bw g R s q).mp (p k f);refine w k (p k f) _ (bE (Cg g R O b.1 b.2 n (y k b.1 b.2 n) i) ?_);rw[u];exact bE (cj (by lia) (by lia)) e) h (ap _)).2
 refine bE this (zH ?_);rw[gY];exact qS λk _=>by rw[eP,gY];lia
theorem IK(g:Good m l)(R:ζ m l r d j)(O:Order m r d o)(f:∀k,0<=k->k<m->k≠r->(c k:Int)=tup l d k){x:Nat}:∀(n:Nat){v:Int},0<=v->v<m->m.toNat-j v<=n->∀h:Nat,ο m l r d j v*((h:Int)+1)<=2^x->0<=wy m l r d j fr be c v h/\wy m l r d j fr be c v h<=2^(x*ϐ m l r d j v)
 | 0,v,h0,h1,e=>by have:=kM R h0 h1;lia
 | n+1,v,h0,h1,e=>λh q=>by
   refine⟨bE (by decide) (sO g R _ h0 h1 (ap _) h),?_⟩;rw[jF g R h0 h1,<-gc g R h0 h1];refine Jc g R O f h0 h1 (λk b i u=>?_) (λk b=>b) q;obtain⟨a,p,s⟩:=(bw g R h0 h1).mp b;have t:=R.pos a.1 a.2 p;rw[s]at t;exact IK g R O f n a.1 a.2 (by lia) i u
end
section
variable{m r w:Int}{i:hH}{b:d3}{d:fz}{o p j:d3}
structure YX(m:Int)(i:hH)(r:Int)(b:d3)(d:fz)(w:Int)(o p:d3):Prop where
 rt:o r=w-1
 up:∀v,0<=v->v<m->v≠r->o v=(p v+1)*tup i b v-1/\(p v≠0->ο m i r b d v*tup i b v=ο m i r b d (b v))
 su:∀v,0<=v->v<m->kd m i r b v≠[]->((kd m i r b v).map p).sum=o v
theorem YX.Φ(g:Good m i)(R:ζ m i r b d)(N:YX m i r b d w o p)(h:∀v,0<=v->v<m->j v=if kd m i r b v=[]then o v else 0):∀(n:Nat)(v:Int),m.toNat-d v=n->0<=v->v<m->Pb.Φ m i r b d j (Η i b) v=o v
 | 0,v,e,h0,h1=>by
   have:=kM R h0 h1
   lia
 | n+1,v,e,h0,h1=>by
   rw[nL g R h0 h1,h v h0 h1];have s:∀u∈bQ m i (front r b v) v,Η i b u (Pb.Φ m i r b d j (Η i b) u)=p u:=λu l=>by
    obtain⟨a,f,k⟩:=(bw g R h0 h1).mp l;have q:=R.pos a.1 a.2 f;rw[k]at q;rw[YX.Φ g R N h n u (by lia) a.1 a.2,(N.up u a.1 a.2 f).1];exact Jf (fV g R a.1 a.2 f).1
   rw[qy s];by_cases c:kd m i r b v=[]
   .rw[aj c,show bQ m i (front r b v) v=[]from c];exact lF _
   .rw[ag c,N.su v h0 h1 c];exact cR _
theorem YX.sums(g:Good m i)(R:ζ m i r b d)(N:YX m i r b d w o p)(q:∀v,0<=v->v<m->j v=if kd m i r b v=[]then o v else 0):∀(n:Nat)(v:Int),m.toNat-d v=n->0<=v->v<m->((bO m i r b d v).map λu=>j u-ο m i r b d u*(tup i b u-1)).sum=ο m i r b d v*o v-ο m i r b d v*(tup i b v-1)
 | 0,v,e,h0,h1=>by
   have:=kM R h0 h1
   lia
 | n+1,v,e,h0,h1=>by
   rw[fL g R h0 h1,aq,aN,vw];have y:∀u∈bQ m i (front r b v) v,((bO m i r b d u).map λu=>j u-ο m i r b d u*(tup i b u-1)).sum=ο m i r b d v*p u:=λu z=>by
    obtain⟨f,s,t⟩:=(bw g R h0 h1).mp z;have A:=R.pos f.1 f.2 s;rw[t]at A;obtain⟨x,h⟩:=N.up u f.1 f.2 s;rw[YX.sums g R N q n u (by lia) f.1 f.2,x];rw[t]at h;generalize ο m i r b d v=V at h ⊢;generalize ο m i r b d u=W at h ⊢;generalize tup i b u=k at h ⊢;by_cases c:p u=0
    .rw[c,cR,dP,lB]
     lia
    .rw[<-h c,gS,gS,eB,cM,iM,dP,gh,fF (p u)]
     lia
   have B:∀l:List Int,(l.map λu=>ο m i r b d v*p u).sum=ο m i r b d v*(l.map p).sum:=λl=>by
    induction l with
    | nil=>exact(lB _).symm
    | cons a l ih=>rw[aq,aq,aN,aN,ih,cM]
   rw[qy y,B,q v h0 h1];by_cases c:kd m i r b v=[]
   .have w1:ο m i r b d v=1:=by
     show fo mx m i r b d _ _ v=1;rw[sA g R h0 h1,show bQ m i (front r b v) v=[]from c]
     rfl
    rw[aj c,w1,show bQ m i (front r b v) v=[]from c];show o v-_+1*0=_
    lia
   .rw[ag c,N.su v h0 h1 c]
    lia
theorem YX.total(g:Good m i)(R:ζ m i r b d)(N:YX m i r b d w o p)(n:∀v,0<=v->v<m->j v=if kd m i r b v=[]then o v else 0)(c:0<=r)(k:r<m){a:d2}(l:bO m i r b d r=r::a)(O:Order m r b a):((b6 m.toNat).map j).sum=gE m i r b (dD m i r b d) w:=by
 have h:=YX.sums g R N n _ r rfl c k;rw[l,vb,N.rt]at h;have q:((r::a).map j).sum=((b6 m.toNat).map j).sum:=by
  refine tJ ((gK O.nd (hV _) λx=>?_).map _);rw[ax,dN];refine⟨λh=>?_,λh=>O.all x h.1 (by have:=h.2;lia)⟩;rcases h with h|h
  .rw[h];exact⟨c,by lia⟩
  .have:=O.Χ x h;exact⟨this.1,by lia⟩
 rw[<-q];unfold gE;rw[<-O.sums,show(dD m i r b d).getD r.toNat 0=ο m i r b d r from gN c k];have s:(a.map (Zt i b (dD m i r b d))).sum=(a.map λu=>ο m i r b d u*(tup i b u-1)).sum:=by
  refine qy λu e=>?_;unfold Zt tup;rw[show(dD m i r b d).getD u.toNat 0=ο m i r b d u from gN (O.Χ u e).1 (O.Χ u e).2]
 rw[s];rw[aq (f:=λu=>ο m i r b d u*(tup i b u-1)),aN]at h
 lia
theorem Ii(g:Good m i)(R:ζ m i r b d){B:Int}(l:∀v,0<=j v/\j v<=B):∀(n:Nat)(v:Int),m.toNat-d v=n->0<=v->v<m->Pb.Φ m i r b d j (Η i b) v<=B*((ϐ m i r b d v:Int)+1)
 | 0,v,e,h0,h1=>by
   have:=kM R h0 h1
   lia
 | n+1,v,e,h0,h1=>by
   have x:∀a:List Int,(∀k∈a,k∈kd m i r b v)->(a.map λc=>Η i b c (Pb.Φ m i r b d j (Η i b) c)).sum<=B*((a.map λk=>ϐ m i r b d k+1).sum:Nat):=λa s=>by
    induction a with
    | nil=>exact Int.le_of_eq (lB _).symm
    | cons u a ih=>
      have:=ih λk h=>s k (.tail _ h);obtain⟨f,t,z⟩:=(bw g R h0 h1).mp (s u (.head _));have A:=R.pos f.1 f.2 t;rw[z]at A;have q:=Ii g R l n u (by lia) f.1 f.2;have y:=wY (m:=m) (r:=r) (par:=b) (dep:=d) g (λv=>(l v).1) u;have C:=(fV g R f.1 f.2 t).1;rw[aq,aq,aN,aN,dH,cM];have:Η i b u (Pb.Φ m i r b d j (Η i b) u)<=Pb.Φ m i r b d j (Η i b) u:=by
       show _/tup i b u<=_;exact Int.ediv_le_self _ y
      have e:((ϐ m i r b d u+1:Nat):Int)=(ϐ m i r b d u:Int)+1:=rfl;rw[e]
      lia
   have:=x _ λk h=>h;rw[nL g R h0 h1];rw[gc g R h0 h1]at this;have:=(l v).2;rw[cM,iM];exact bE (Int.add_le_add this (x _ λk h=>h)) (by rw[gc g R h0 h1];lia)
end
theorem RK{m r w:Int}{d:hH}{a:d3}{b:fz}(g:Good m d)(R:ζ m d r a b)(h:0<=r)(i:r<m)(s:1<=w):ο m d r a b r*w<=3*gE m d r a (dD m d r a b) w+1:=by
 have q:∀x∈((b6 m.toNat).filter λv=>decide (v≠r)).map (Zt d a (dD m d r a b)),0<=x:=λx t=>by
  obtain⟨v,l,rfl⟩:=aP.mp t;obtain⟨l,u⟩:=bG.mp l;obtain⟨n,E⟩:=dN.mp l;have j:v<m:=by lia
  have o:2<=(cP d v (a v)).getD 1:=(fV g R n j (bN u)).1;unfold Zt;rw[show(dD m d r a b).getD v.toNat 0=ο m d r a b v from gN n j];exact cX (by have:=(eZ g R n j).1;lia) (by lia)
 have z:=(eZ g R h i).1;have y:=Gs q;have B:=cX (show 0<=ο m d r a b r by lia) (show 0<=w-1 by lia);have e:ο m d r a b r*w=ο m d r a b r*(w-1)+ο m d r a b r:=by rw[gS,iM];lia
 unfold gE;rw[show(dD m d r a b).getD r.toNat 0=ο m d r a b r from gN h i,e];by_cases c:kd m d r a r=[]
 .have s:ο m d r a b r=1:=by
   show fo mx m d r a b _ _ r=1;rw[sA g R h i,show bQ m d (front r a r) r=[]from c]
   rfl
  lia
 .obtain⟨k,hk,ek⟩:=uc g R h i c;obtain⟨f,p,D⟩:=(bw g R h i).mp hk;have o:=(fV g R f.1 f.2 p).1;have C:=(eZ g R f.1 f.2).1;have:=Dc q (aP.mpr ⟨k,bG.mpr ⟨dN.mpr ⟨f.1,by lia⟩,bh p⟩,rfl⟩);unfold Zt at this;rw[show(dD m d r a b).getD k.toNat 0=ο m d r a b k from gN f.1 f.2,show(cP d k (a k)).getD 1=tup d a k from rfl,gS,iM,ek]at this;have A:ο m d r a b k*2<=ο m d r a b r:=by rw[<-ek];exact cj o (by lia)
  unfold Zt
  lia
theorem Rv{g b N W:Int}{i c D a:Nat}(h:g.natAbs<=i*2^(50000+600*a-590))(l:b.natAbs<=2^50000)(f:N.natAbs<=2^(50000+600*c))(k:0<=W/\W<=2^(D*(45+20*D)))(n:c+1+D<=a)(m:a<=23):IntMulOk N W/\(g+b+N*W).natAbs<=(i+1)*2^(50000+600*a-590):=by
 have d:W.natAbs<=2^(600*D):=aL (rg k) (bB (by decide) (by rw[gY 600];exact jM _ (by lia)));refine⟨qN (hJ f (by lia)) (hJ d (by lia)),?_⟩;have p:(N*W).natAbs<=2^(50000+600*a-591):=by
  rw[kb];refine aL (bP f d) ?_;rw[<-eO];exact bB (by decide) (by lia)
 have j:b.natAbs<=2^(50000+600*a-591):=aL l (bB (by decide) (by lia));have e:2^(50000+600*a-590)=2^(50000+600*a-591)*2:=by rw[<-eV];congr 1;lia
 rw[eP,jD];generalize i*2^(50000+600*a-590)=I at h ⊢;rw[e];generalize 2^(50000+600*a-591)=X at p j ⊢;refine aL (iU _ _) (aL (gB (aL (iU _ _) (gB h j)) p) ?_);rw[Nat.mul_two,Nat.add_assoc];exact ap _
theorem Rj{m:Nat}{cs csk:d2}{c:Nat}{z:Int}{g:Nat}(u:m<=24)(e:-70<=z)(d:z+1<=2^64)(f:(g:Int)+1<=2^64)(p:c<=1000000)(o:cs.length<=24)(q:csk.length<=24)(t:∀c∈cs,c.natAbs<=2^15000)(s:∀c∈csk,c.natAbs<=2^15000):(Τ (ϩ (ϰ m (Ϲ cs csk c z))) g 0).natAbs<=2^50000:=by
 have a:(ϩ (ϰ m (Ϲ cs csk c z))).length=m:=by rw[Cr];unfold ϰ;rw[aa,bD]
 have h:∀x∈ϩ (ϰ m (Ϲ cs csk c z)),x.natAbs<=2^(42815+m):=zr m (by unfold ϰ;rw[aa,bD]) λx l=>by
  obtain⟨j,n,rfl⟩:=aP.mp l;rw[bU]at n;have r:=zg (F:=Ϲ cs csk c z) (b:=42810) (k:=j) λi v=>Gm e d (by lia) p o q t s;refine aL r (aL (cY _ (show j<=2^5 by lia)) (kO (eO ..).symm))
 have:=vo (z:=(g:Int)) (x:=64) (by lia) f (by decide) (cs:=ϩ (ϰ m (Ϲ cs csk c z))) (k:=0) (by lia) h;rw[pB,a]at this;refine aL this (aL (cY _ (show m<=2^5 by lia)) ?_);rw[<-eO];exact bB (by decide) (by lia)
section
variable{m r w:Int}{n:hH}{b:d3}{c:fz}
theorem TR{p:Int->Bool}{l:d2}{j:Nat}{u:Int}(h:l[j]?=some u)(a:p u=true):(l.take (j+1)).filter p=(l.take j).filter p++[u]:=by
 rw[cz,h,b4];exact congrArg _ (eJ a)
theorem Iu{p:Int->Bool}{l:d2}{j:Nat}{u:Int}(h:l[j]?=some u)(a:p u=false):(l.take (j+1)).filter p=(l.take j).filter p:=by
 rw[cz,h,b4];exact(congrArg _ (dF (by rw[a];decide))).trans (bH _)
variable{g e f d t:d2}{k o:d3}{v a:Int}{i j:Nat}
end
section
variable{X:Cx}{x:Str}{p a l:Pos}{e:Expr}{d:List Expr}{u:TE}{t:TA}{y:XK->TE}
theorem ε(i:Nat)(n:Zq X.env.scope x:=by exact .of (by kernel_rfl))(b:X.N[i]?=some x:=by rfl):PE X (.Name x a) (wD i):=pvl i n b
theorem bY(i:Nat)(n:YQ X.env.scope x:=by exact .of (by kernel_rfl))(b:X.N[i]?=some x:=by rfl):PE X (.Name x a) (wD i):=pvc i n b
theorem ϒ(i:Nat)(c:X.N.Nodup:=by exact bN (by kernel_rfl))(f:X.N[i]?=some x:=by rfl)(b:X.env.scope.names.lookup x=some .local:=by kernel_rfl):PG X (.Name x a) (vC i):=fj c f (.inl b) (.inr b)
theorem Δ(i:Nat)(f:PE X e u)(c:X.N.Nodup:=by exact bN (by kernel_rfl))(h:X.N[i]?=some x:=by rfl)(b:X.env.scope.names.lookup x=some .local:=by kernel_rfl)(g:swapsWith e (some (.Name x l)) a.line X.env=pure false:=by rfl):PS X (.Assign [.Name x l] e a) (Dg u (vC i)):=u7 c h (.inl b) f g (.inr b)
variable{s:Xa}{k j:Nat}{f:Addr}{fd:FuncData}{h:gy}{g:Sp}{o:Stmt}
theorem pcq(D:Df X.K X.mg x o h f fd)(F:ϓ X.prog X.w X.K X.mg X.base s k f fd h g)(i:ϋ j X.A)(q:cg s)(B:PA X (e::d) t)(z:k<=j:=by decide)(n:X.env.scope.names.lookup x=some .globalImplicit:=by kernel_rfl)(c:(x==("__debug__":Str))=false:=by kernel_rfl)(v:starEach (e::d) X.env=(false,eval e X.env)::starEach d X.env:=by rfl)(r:(backTo a (starEach d X.env)).any (·.1)=false:=by rfl):PE X (.Call (.Name x p) (e::d) [] a) (vc g [] E0 t):=qD F (i.mono z) n D.m D.F.kp D.b .nil (tN q) B c v r
theorem pcx{E:XK}(D:Df X.K X.mg x o h f fd)(F:ϓ X.prog X.w X.K X.mg X.base s k f fd h g)(i:ϋ j X.A)(v:rd s X E)(B:PA X (e::d) t)(z:k<=j:=by decide)(n:X.env.scope.names.lookup x=some .globalImplicit:=by kernel_rfl)(c:(x==("__debug__":Str))=false:=by kernel_rfl)(r:starEach (e::d) X.env=(false,eval e X.env)::starEach d X.env:=by rfl)(q:(backTo a (starEach d X.env)).any (·.1)=false:=by rfl):PE X (.Call (.Name x p) (e::d) [] a) (vc g [] E t):=qD F (i.mono z) n D.m D.F.kp D.b .nil v B c r q
structure Cb(P:Program)(w:World)(K:f5)(mg:gw)(base:Heap)(x:Str)(o:Stmt)(h:gy)(k:Nat)(g:Sp) where
 f:Addr
 fd:FuncData
 D:Df K mg x o h f fd
 G:ϓ P w K mg base (Ε P w) k f fd h g
def cb{P:Program}{w:World}{K:f5}{b:gw}{base:Heap}(D:Df K b x o h f fd)(G:ϓ P w K b base (Ε P w) k f fd h g):Cb P w K b base x o h k g:=⟨f,fd,D,G⟩
theorem Ν(c:Cb X.prog X.w X.K X.mg X.base x o h k g)(b:ϋ j X.A)(q:cg (Ε X.prog X.w))(v:PA X (e::d) t)(r:k<=j:=by decide)(i:X.env.scope.names.lookup x=some .globalImplicit:=by kernel_rfl)(hdb:(x==("__debug__":Str))=false:=by kernel_rfl)(n:starEach (e::d) X.env=(false,eval e X.env)::starEach d X.env:=by rfl)(m:(backTo a (starEach d X.env)).any (·.1)=false:=by rfl):PE X (.Call (.Name x p) (e::d) [] a) (vc g [] E0 t):=pcq c.D c.G b q v r i hdb n m
theorem ϡ{E:XK}(c:Cb X.prog X.w X.K X.mg X.base x o h k g)(i:ϋ j X.A)(b:rd (Ε X.prog X.w) X E)(v:PA X (e::d) t)(r:k<=j:=by decide)(m:X.env.scope.names.lookup x=some .globalImplicit:=by kernel_rfl)(hdb:(x==("__debug__":Str))=false:=by kernel_rfl)(q:starEach (e::d) X.env=(false,eval e X.env)::starEach d X.env:=by rfl)(n:(backTo a (starEach d X.env)).any (·.1)=false:=by rfl):PE X (.Call (.Name x p) (e::d) [] a) (vc g [] E t):=pcx c.D c.G i b v r m hdb q n
variable{v T:String}{r:List V->Hp->VK->Prop}
theorem W4(n:lm X (.builtin v) r)(w:X.mg x=none)(q:PA X (e::d) t)(z:bootBuiltins x=some (.builtin v):=by kernel_rfl)(c:X.env.scope.names.lookup x=some .globalImplicit:=by kernel_rfl)(hn:decide (x="__name__")=false:=by kernel_rfl)(b:(x==("__debug__":Str))=false:=by kernel_rfl)(m:starEach (e::d) X.env=(false,eval e X.env)::starEach d X.env:=by rfl)(i:(backTo a (starEach d X.env)).any (·.1)=false:=by rfl):PE X (.Call (.Name x p) (e::d) [] a) (tCB r t):=Fs n c w z q (of_decide_eq_false hn) b m i
theorem Y8(m:lm X (.type T) r)(q:X.mg x=none)(n:PA X (e::d) t)(w:bootBuiltins x=some (.type T):=by kernel_rfl)(b:X.env.scope.names.lookup x=some .globalImplicit:=by kernel_rfl)(hn:decide (x="__name__")=false:=by kernel_rfl)(hdb:(x==("__debug__":Str))=false:=by kernel_rfl)(i:starEach (e::d) X.env=(false,eval e X.env)::starEach d X.env:=by rfl)(c:(backTo a (starEach d X.env)).any (·.1)=false:=by rfl):PE X (.Call (.Name x p) (e::d) [] a) (tCB r t):=DA m b q w n (of_decide_eq_false hn) hdb i c
end
inductive E3{A0 A1 A2:Type}(p:A0->A1->A2->Prop):Prop
 | mk (a0:A0) (a1:A1) (a2:A2) (h:p a0 a1 a2):E3 p
inductive E4{A0 A1 A2 A3:Type}(p:A0->A1->A2->A3->Prop):Prop
 | mk (a0:A0) (a1:A1) (a2:A2) (a3:A3) (h:p a0 a1 a2 a3):E4 p
inductive E5{A0 A1 A2 A3 A4:Type}(p:A0->A1->A2->A3->A4->Prop):Prop
 | mk (a0:A0) (a1:A1) (a2:A2) (a3:A3) (a4:A4) (h:p a0 a1 a2 a3 a4):E5 p
inductive E6{A0 A1 A2 A3 A4 A5:Type}(p:A0->A1->A2->A3->A4->A5->Prop):Prop
 | mk (a0:A0) (a1:A1) (a2:A2) (a3:A3) (a4:A4) (a5:A5) (h:p a0 a1 a2 a3 a4 a5):E6 p
inductive E7{A0 A1 A2 A3 A4 A5 A6:Type}(p:A0->A1->A2->A3->A4->A5->A6->Prop):Prop
 | mk (a0:A0) (a1:A1) (a2:A2) (a3:A3) (a4:A4) (a5:A5) (a6:A6) (h:p a0 a1 a2 a3 a4 a5 a6):E7 p
inductive E8{A0 A1 A2 A3 A4 A5 A6 A7:Type}(p:A0->A1->A2->A3->A4->A5->A6->A7->Prop):Prop
 | mk (a0:A0) (a1:A1) (a2:A2) (a3:A3) (a4:A4) (a5:A5) (a6:A6) (a7:A7) (h:p a0 a1 a2 a3 a4 a5 a6 a7):E8 p
inductive E9{A0 A1 A2 A3 A4 A5 A6 A7 A8:Type}(p:A0->A1->A2->A3->A4->A5->A6->A7->A8->Prop):Prop
 | mk (a0:A0) (a1:A1) (a2:A2) (a3:A3) (a4:A4) (a5:A5) (a6:A6) (a7:A7) (a8:A8) (h:p a0 a1 a2 a3 a4 a5 a6 a7 a8):E9 p
inductive E10{A0 A1 A2 A3 A4 A5 A6 A7 A8 A9:Type}(p:A0->A1->A2->A3->A4->A5->A6->A7->A8->A9->Prop):Prop
 | mk (a0:A0) (a1:A1) (a2:A2) (a3:A3) (a4:A4) (a5:A5) (a6:A6) (a7:A7) (a8:A8) (a9:A9) (h:p a0 a1 a2 a3 a4 a5 a6 a7 a8 a9):E10 p
inductive E11{A0 A1 A2 A3 A4 A5 A6 A7 A8 A9 Wt:Type}(p:A0->A1->A2->A3->A4->A5->A6->A7->A8->A9->Wt->Prop):Prop
 | mk (a0:A0) (a1:A1) (a2:A2) (a3:A3) (a4:A4) (a5:A5) (a6:A6) (a7:A7) (a8:A8) (a9:A9) (Yi:Wt) (h:p a0 a1 a2 a3 a4 a5 a6 a7 a8 a9 Yi):E11 p
inductive E12{A0 A1 A2 A3 A4 A5 A6 A7 A8 A9 Wt W5:Type}(p:A0->A1->A2->A3->A4->A5->A6->A7->A8->A9->Wt->W5->Prop):Prop
 | mk (a0:A0) (a1:A1) (a2:A2) (a3:A3) (a4:A4) (a5:A5) (a6:A6) (a7:A7) (a8:A8) (a9:A9) (Yi:Wt) (YY:W5) (h:p a0 a1 a2 a3 a4 a5 a6 a7 a8 a9 Yi YY):E12 p
inductive E16{A0 A1 A2 A3 A4 A5 A6 A7 A8 A9 Wt W5 XF XG XH XI:Type}(p:A0->A1->A2->A3->A4->A5->A6->A7->A8->A9->Wt->W5->XF->XG->XH->XI->Prop):Prop
 | mk (a0:A0) (a1:A1) (a2:A2) (a3:A3) (a4:A4) (a5:A5) (a6:A6) (a7:A7) (a8:A8) (a9:A9) (Yi:Wt) (YY:W5) (Zw:XF) (Zx:XG) (Zy:XH) (Zz:XI) (h:p a0 a1 a2 a3 a4 a5 a6 a7 a8 a9 Yi YY Zw Zx Zy Zz):E16 p
inductive E18{A0 A1 A2 A3 A4 A5 A6 A7 A8 A9 Wt W5 XF XG XH XI Yx Yy:Type}(p:A0->A1->A2->A3->A4->A5->A6->A7->A8->A9->Wt->W5->XF->XG->XH->XI->Yx->Yy->Prop):Prop
 | mk (a0:A0) (a1:A1) (a2:A2) (a3:A3) (a4:A4) (a5:A5) (a6:A6) (a7:A7) (a8:A8) (a9:A9) (Yi:Wt) (YY:W5) (Zw:XF) (Zx:XG) (Zy:XH) (Zz:XI) (a16:Yx) (a17:Yy) (h:p a0 a1 a2 a3 a4 a5 a6 a7 a8 a9 Yi YY Zw Zx Zy Zz a16 a17):E18 p
inductive E20{A0 A1 A2 A3 A4 A5 A6 A7 A8 A9 Wt W5 XF XG XH XI Yx Yy ZA ZC:Type}(p:A0->A1->A2->A3->A4->A5->A6->A7->A8->A9->Wt->W5->XF->XG->XH->XI->Yx->Yy->ZA->ZC->Prop):Prop
 | mk (a0:A0) (a1:A1) (a2:A2) (a3:A3) (a4:A4) (a5:A5) (a6:A6) (a7:A7) (a8:A8) (a9:A9) (Yi:Wt) (YY:W5) (Zw:XF) (Zx:XG) (Zy:XH) (Zz:XI) (a16:Yx) (a17:Yy) (a18:ZA) (a19:ZC) (h:p a0 a1 a2 a3 a4 a5 a6 a7 a8 a9 Yi YY Zw Zx Zy Zz a16 a17 a18 a19):E20 p
inductive E21{A0 A1 A2 A3 A4 A5 A6 A7 A8 A9 Wt W5 XF XG XH XI Yx Yy ZA ZC A20:Type}(p:A0->A1->A2->A3->A4->A5->A6->A7->A8->A9->Wt->W5->XF->XG->XH->XI->Yx->Yy->ZA->ZC->A20->Prop):Prop
 | mk (a0:A0) (a1:A1) (a2:A2) (a3:A3) (a4:A4) (a5:A5) (a6:A6) (a7:A7) (a8:A8) (a9:A9) (Yi:Wt) (YY:W5) (Zw:XF) (Zx:XG) (Zy:XH) (Zz:XI) (a16:Yx) (a17:Yy) (a18:ZA) (a19:ZC) (a20:A20) (h:p a0 a1 a2 a3 a4 a5 a6 a7 a8 a9 Yi YY Zw Zx Zy Zz a16 a17 a18 a19 a20):E21 p
inductive E22{A0 A1 A2 A3 A4 A5 A6 A7 A8 A9 Wt W5 XF XG XH XI Yx Yy ZA ZC A20 A21:Type}(p:A0->A1->A2->A3->A4->A5->A6->A7->A8->A9->Wt->W5->XF->XG->XH->XI->Yx->Yy->ZA->ZC->A20->A21->Prop):Prop
 | mk (a0:A0) (a1:A1) (a2:A2) (a3:A3) (a4:A4) (a5:A5) (a6:A6) (a7:A7) (a8:A8) (a9:A9) (Yi:Wt) (YY:W5) (Zw:XF) (Zx:XG) (Zy:XH) (Zz:XI) (a16:Yx) (a17:Yy) (a18:ZA) (a19:ZC) (a20:A20) (a21:A21) (h:p a0 a1 a2 a3 a4 a5 a6 a7 a8 a9 Yi YY Zw Zx Zy Zz a16 a17 a18 a19 a20 a21):E22 p
inductive E23{A0 A1 A2 A3 A4 A5 A6 A7 A8 A9 Wt W5 XF XG XH XI Yx Yy ZA ZC A20 A21 A22:Type}(p:A0->A1->A2->A3->A4->A5->A6->A7->A8->A9->Wt->W5->XF->XG->XH->XI->Yx->Yy->ZA->ZC->A20->A21->A22->Prop):Prop
 | mk (a0:A0) (a1:A1) (a2:A2) (a3:A3) (a4:A4) (a5:A5) (a6:A6) (a7:A7) (a8:A8) (a9:A9) (Yi:Wt) (YY:W5) (Zw:XF) (Zx:XG) (Zy:XH) (Zz:XI) (a16:Yx) (a17:Yy) (a18:ZA) (a19:ZC) (a20:A20) (a21:A21) (a22:A22) (h:p a0 a1 a2 a3 a4 a5 a6 a7 a8 a9 Yi YY Zw Zx Zy Zz a16 a17 a18 a19 a20 a21 a22):E23 p
def clK(e:gy)(b:Nat)(c:List Nat)(N:gy)(a d:Scope):Bool:=(a.names.all λy=>decide (y.2≠.cell))&&decide (a.kind=.function)&&(a.names.all λy=>decide (y.2=.local->a.names.lookup y.1=some .local))&&decide (e.length=b+c.length)&&(a.names.all λy=>decide (y.2=.free->d.names.lookup y.1=some .cell))&&decide (d.kind=.function)&&(List.range c.length).all λi=>match e[b+i]?,c[i]? with
 | some x,some j=>decide (N[j]?=some x)&&decide (a.names.lookup x=some .free)
 | _,_=>false
theorem Yz{X:Cx}{scope:Scope}(Nc:gy)(a:Nat)(b:List Nat)(h:clK Nc a b X.N scope X.env.scope=true:=by kernel_rfl)(d:∀x,X.env.scope.names.lookup x=some .cell->∃c,X.env.cells.lookup x=some c:=by exact λ_ h=>zd h):ϥ X Nc a b scope (sZ X.env.cells scope.names []):=by
 unfold clK at h;simp only[ce,bM,dQ,bU]at h;obtain⟨⟨⟨⟨⟨⟨n,f⟩,k⟩,e⟩,g⟩,l⟩,m⟩:=h;refine Rz a b n f k e g l d λi o=>?_;have q:=m i o;split at q
 .rename_i x j e1 e2
  simp only[ce,bM]at q;exact⟨x,j,e1,e2,q.1,q.2⟩
 .cases q
abbrev Ok(P:Program)(w:World)(K:f5)(c:gw)(a:Heap)(x:Str)(st:Stmt)(d:gy)(k:Nat)(e:Sp):Prop:=∀(f:Addr)(b:FuncData),Df K c x st d f b->ϓ P w K c a (Ε P w) k f b d e
section
variable{X:Cx}{a b:Expr}{e d:TE}{c:Pos}
theorem Ι{r:R2}(f:IxR X r)(h:PE X a e)(g:PE X b d)(i:Je b:=by exact λ_ _=>rfl):PE X (.Subscript a b c) (tOp r e d):=mM f h g i
theorem Ϻ{f:CmpOp}{r:R2}(g:iS X (compareOp f) r)(k:PE X a e)(i:PE X b d)(h:f≠.In:=by decide)(j:f≠.NotIn:=by decide):PT X (.Compare a [f] [b] c) (Al (tOp r e d)):=Ct g k i (mV _ h j)
end
theorem Fu(d:Int)(r:d2)(n:Nat):Τ (d::r) (n+1) 0-Τ (d::r) n 0=Τ r n 0:=by
 have:=Nf d r (n:Int);rw[show(n:Int)+1=((n+1:Nat):Int)from rfl,pB,pB,pB]at this;exact this
theorem Fd:∀{cs:d2},(∀n,Τ cs n 0=0)->∀c∈cs,c=0
 | [],_=>λ_ h=>(nomatch h)
 | d::r,h=>by
   have a:=h 0;rw[IL]at a;have b:=Fd (cs:=r) λn=>by rw[<-Fu d r n,h,h];rfl
   intro c hc;rcases ax.mp hc with e|hc
   .rw[e];exact a
   .exact b c hc
theorem Aa:∀{a:d2},(∀c∈a,c=0)->∀(z:Int)(k:Nat),gT a z k=0
 | [],_,z,k=>nZ z k
 | d::r,h,z,k=>by
   rw[jO,h d (.head _),Aa (λc b=>h c (.tail _ b)) z (k+1),Int.zero_mul]
   rfl
theorem Dw:∀(D:Nat){cs:d2}{f:Nat->Int},(∀n,Τ cs n 0=f n)->Pd D f->∀z:Int,Pd D (λg:Nat=>gT cs (z-(g:Int)) 0)
 | _,[],_,_,_,z=>Pd.zero (λn=>nZ _ _) _
 | 0,d::r,f,h,hf,z=>by
   have i:∀c∈r,c=0:=Fd λn=>by
    rw[<-Fu d r n,h,h];have k:f (n+1)=f n:=by
     have a:=hf (n+1);have b:=hf n
     lia
    lia
   intro n;show gT (d::r) _ 0=gT (d::r) _ 0;rw[jO,jO,sN,sN,Aa i,Aa i]
 | D+1,d::r,f,h,hf,z=>by
   have j:=(Dw D (cs:=r) (f:=dl f) (λn=>by rw[<-Fu d r n,h,h];rfl) hf (z-1)).smul (-1);show Pd D (dl λg:Nat=>gT (d::r) (z-(g:Int)) 0);have e:(dl λg:Nat=>gT (d::r) (z-(g:Int)) 0)=λg:Nat=>-1*gT r (z-1-(g:Int)) 0:=by
    funext g
    show gT (d::r) (z-((g+1:Nat):Int)) 0-gT (d::r) (z-(g:Int)) 0=_;have:=Nf d r (z-1-(g:Int));rw[show z-1-(g:Int)+1=z-(g:Int) by lia]at this;rw[show z-((g+1:Nat):Int)=z-1-(g:Int) by lia,<-this]
    lia
   rw[e];exact j
theorem Mf(m:Nat)(G:Nat->Int):ϩ ((List.range m).map G)=Xj m G:=by
 unfold ϩ;rw[aa,bD];exact ua λi a=>zB a
theorem Kj{b a:d2}{c m d f:Nat}{z:Int}{i h:Nat->Int}(q:∀n,Τ b n 0=i n)(r:Pd d i)(o:∀n,Τ a n 0=h n)(k:Pd f h)(t:1<=c)(j:f+d+1<m)(g:Nat):Τ (ϩ (ϰ m (Ϲ b a c z))) g 0=Λ g (Ϲ b a c z):=by
 have l:Pd f (λg=>Τ a (τ c g) 0):=by
  have e:(λg=>Τ a (τ c g) 0)=λg=>h (c*g+(c-1)):=by
   funext g
   rw[o,Jt t]
  rw[e];exact k.lin c (c-1)
 have s:Pd d (λg:Nat=>gT b (z-(g:Int)) 0):=Dw d q r z;have p:Pd (f+d) (Ϲ b a c z):=Pd.mul _ (ap _) l s;unfold ϰ;rw[Mf];exact Bn m p.Λ j g
theorem Sk{e b:d2}{c a g:Nat}{f d:Nat->Int}(i:∀n,Τ e n 0=f n)(j:∀n,Τ b n 0=d n)(h:g<=a):Ϲ e b c (a:Int) g=d (τ c g)*f (a-g):=by
 unfold Ϲ;rw[show(a:Int)-(g:Int)=((a-g:Nat):Int) by lia,pB,i,j]
section
variable{fr be:Int->Bool}{o:Int->Nat->Int}
def lE(fr be:Int->Bool)(o:Int->Nat->Int)(k:Int)(b:d2)(a g:Nat):Int:=if fr k=true then Λ g (λi=>o k i*ς fr be o b (a-i))else 0
inductive Rk(fr be:Int->Bool)(o:Int->Nat->Int):List Int->Nat->List (Int×Nat×Int)->Int->Prop
 | nil (left:Nat):Rk fr be o [] left [] 0
 | cons {k:Int} {ks:d2} {left g:Nat} {n nu:Int} {cs:g8} (hg:g<=left) (hb:fr k=false->be k=true->g=left) (he:fr k=false->be k=false->g=0) (n0:0<=n) (n1:n<o k g) (h:Rk fr be o ks (left-g) cs nu):Rk fr be o (k::ks) left ((k,g,n)::cs) (lE fr be o k ks left g+n*ς fr be o ks (left-g)+nu)
theorem BG{f:Nat->Int}{a b:Nat}(h:∀i,0<=f i)(l:a<=b):Λ a f<=Λ b f:=by
 induction l with
 | refl=>exact b9 _
 | step _ ih=>exact bE ih (by show Λ _ f<=Λ _ f+f _;have:=h (by assumption);lia)
theorem Rk.lt{ks:d2}{d:Nat}{r:g8}{j:Int}(h:Rk fr be o ks d r j):(∀k∈ks,∀i,1<=o k i)->0<=j/\j<ς fr be o ks d:=by
 induction h with
 | nil d=>intro _;exact⟨b9 _,show(0:Int)<1 by decide⟩
 | @cons k ks d g n j r hg hb he n0 n1 h u=>
   intro l;have u:=u λx w=>l x (.tail _ w);have p:=l k (.head _);have m:=pH (fr:=fr) (be:=be) (ws:=o) (ks:=ks) (λk v i=>l k (.tail _ v) i);have s:0<=n*ς fr be o ks (d-g):=cX n0 (by have:=m (d-g);lia);have top:n*ς fr be o ks (d-g)+j<o k g*ς fr be o ks (d-g):=by
    have:(n+1)*ς fr be o ks (d-g)<=o k g*ς fr be o ks (d-g):=bu (by lia) (by have:=m (d-g);lia);rw[eB,dP]at this
    lia
   have t:∀i,0<=o k i*ς fr be o ks (d-i):=λi=>cX (by have:=p i;lia) (by have:=m (d-i);lia);unfold lE;by_cases c:fr k=true
   .rw[aj c,qu c];have a:=FT (f:=λi=>o k i*ς fr be o ks (d-i)) (k:=g) λi _=>t i;have b:Λ (g+1) (λi=>o k i*ς fr be o ks (d-i))<=W2 (o k) (ς fr be o ks) d:=BG t (by lia);have e:Λ (g+1) (λi=>o k i*ς fr be o ks (d-i))=Λ g (λi=>o k i*ς fr be o ks (d-i))+o k g*ς fr be o ks (d-g):=rfl
    lia
   .rw[ag c];have q:fr k=false:=(by simpa using c);by_cases b:be k=true
    .rw[pA c b];have:=hb q b;subst this;rw[d8]at top s ⊢;show _/\_<o k g*ς fr be o ks 0
     lia
    .rw[oX c b];have:=he q (by simpa using b);subst this;rw[gZ]at top s ⊢;show _/\_<o k 0*ς fr be o ks d
     lia
theorem LW{k:Int}{ks:d2}(p:∀x∈k::ks,∀i,1<=o x i){d g:Nat}{f:Int}(u:0<=f)(h:f<ς fr be o (k::ks) d)(n:g<=d)(r:fr k=false->be k=true->g=d)(s:fr k=false->be k=false->g=0)(m:fr k=true->(g=0\/Λ g (λi=>o k i*ς fr be o ks (d-i))<=f)/\(g=d\/f<Λ (g+1) (λi=>o k i*ς fr be o ks (d-i)))):0<=(f-lE fr be o k ks d g)/ς fr be o ks (d-g)/\(f-lE fr be o k ks d g)/ς fr be o ks (d-g)<o k g/\0<=(f-lE fr be o k ks d g)%ς fr be o ks (d-g)/\(f-lE fr be o k ks d g)%ς fr be o ks (d-g)<ς fr be o ks (d-g):=by
 have t:=pH (fr:=fr) (be:=be) (ws:=o) (ks:=ks) (λx q i=>p x (.tail _ q) i) (d-g);have j:0<=f-lE fr be o k ks d g/\f-lE fr be o k ks d g<o k g*ς fr be o ks (d-g):=by
  unfold lE;by_cases c:fr k=true
  .rw[aj c];obtain⟨a,b⟩:=m c;rw[qu c]at h;have e:Λ (g+1) (λi=>o k i*ς fr be o ks (d-i))=Λ g (λi=>o k i*ς fr be o ks (d-i))+o k g*ς fr be o ks (d-g):=rfl;refine⟨?_,?_⟩
   .rcases a with a|a
    .rw[a];show 0<=f-0;lia
    .lia
   .rcases b with b|b
    .have:f<Λ (g+1) (λi=>o k i*ς fr be o ks (d-i)):=(by rw[b];rw[b]at n;exact h)
     lia
    .lia
  .rw[ag c];have l:fr k=false:=(by simpa using c);by_cases b:be k=true
   .rw[pA c b]at h;have:=r l b;subst this;rw[d8];exact⟨by lia,by show f-0<_;rw[nO];exact h⟩
   .rw[oX c b]at h;have:=s l (by simpa using b);subst this;rw[gZ];exact⟨by lia,by show f-0<_;rw[nO];exact h⟩
 exact⟨ik j.1 (by lia),Int.ediv_lt_of_lt_mul (by lia) j.2,dG _ (by lia),cN _ (by lia)⟩
theorem Rk.inj{ks:d2}{d:Nat}{z:g8}{j:Int}(h:Rk fr be o ks d z j):(∀k∈ks,∀i,1<=o k i)->∀{y:g8}{t:Int},Rk fr be o ks d y t->j=t->z=y:=by
 induction h with
 | nil d=>intro _ y t m _;cases m;rfl
 | @cons k ks d g n j z hg hb he n0 n1 h ih=>
   intro C y t m e;have r:∀x∈ks,∀i,1<=o x i:=λx A=>C x (.tail _ A);have B:=C k (.head _);cases m with
   | @cons _ _ _ g' m' adO aoo hg' Y9 he' m0 m1 m=>
     have q:=pH (fr:=fr) (be:=be) (ws:=o) (ks:=ks) (λx A i=>r x A i);have D:∀i,0<=o k i*ς fr be o ks (d-i):=λi=>cX (by have:=B i;lia) (by have:=q (d-i);lia);have f:∀{g:Nat}{n j:Int},0<=n->n<o k g->0<=j->j<ς fr be o ks (d-g)->0<=n*ς fr be o ks (d-g)+j/\n*ς fr be o ks (d-g)+j<o k g*ς fr be o ks (d-g):=λ{g n j} n0 n1 a b=>by
      have p:=cX n0 (show 0<=ς fr be o ks (d-g) by have:=q (d-g);lia);have:(n+1)*ς fr be o ks (d-g)<=o k g*ς fr be o ks (d-g):=bu (by lia) (by have:=q (d-g);lia);rw[eB,dP]at this
      lia
     have v:=h.lt r;have w:=m.lt r;have K:=f n0 n1 v.1 v.2;have J:=f m0 m1 w.1 w.2;have I:g=g':=by
      by_cases c:fr k=true
      .unfold lE at e;rw[aj c,aj c]at e;have s:∀g:Nat,Λ (g+1) (λi=>o k i*ς fr be o ks (d-i))=Λ g (λi=>o k i*ς fr be o ks (d-i))+o k g*ς fr be o ks (d-g):=λ_=>rfl;rcases iG g g' with l|l|l
       .have u:=BG D (show g+1<=g' by lia);rw[s]at u
        lia
       .exact l
       .have u:=BG D (show g'+1<=g by lia);rw[s]at u
        lia
      .have cf:fr k=false:=(by simpa using c);by_cases b:be k=true
       .rw[hb cf b,Y9 cf b]
       .rw[he cf (by simpa using b),he' cf (by simpa using b)]
     subst I;have G:n*ς fr be o ks (d-g)+j=m'*ς fr be o ks (d-g)+adO:=(by lia);have E:n=m':=by
      have H:(n*ς fr be o ks (d-g)+j)/ς fr be o ks (d-g)=n:=by
       rw[nJ,jg _ _ (by have:=q (d-g);lia),jb v.1 v.2,cR]
      have F:(m'*ς fr be o ks (d-g)+adO)/ς fr be o ks (d-g)=m':=by
       rw[nJ,jg _ _ (by have:=q (d-g);lia),jb w.1 w.2,cR]
      rw[<-H,<-F,G]
     subst E;rw[ih r m (by lia)]
theorem Rk.go{a:d2}{z i b g:Nat}{l d k:Int}{m:g8}(p:a[i]?=some k)(E:∀x∈a,∀i,1<=o x i)(P:∀f,Rk fr be o (a.drop i) b f d->Rk fr be o a z (m++f) l)(G:0<=d)(A:d<ς fr be o (a.drop i) b)(r:g<=b)(w:fr k=false->be k=true->g=b)(y:fr k=false->be k=false->g=0)(C:fr k=true->(g=0\/Λ g (λj=>o k j*ς fr be o (a.drop (i+1)) (b-j))<=d)/\(g=b\/d<Λ (g+1) (λj=>o k j*ς fr be o (a.drop (i+1)) (b-j)))):0<=(d-lE fr be o k (a.drop (i+1)) b g)%ς fr be o (a.drop (i+1)) (b-g)/\(d-lE fr be o k (a.drop (i+1)) b g)%ς fr be o (a.drop (i+1)) (b-g)<ς fr be o (a.drop (i+1)) (b-g)/\(0<=(d-lE fr be o k (a.drop (i+1)) b g)/ς fr be o (a.drop (i+1)) (b-g)/\(d-lE fr be o k (a.drop (i+1)) b g)/ς fr be o (a.drop (i+1)) (b-g)<o k g)/\∀f,Rk fr be o (a.drop (i+1)) (b-g) f ((d-lE fr be o k (a.drop (i+1)) b g)%ς fr be o (a.drop (i+1)) (b-g))->Rk fr be o a z ((m++[(k,g,(d-lE fr be o k (a.drop (i+1)) b g)/ς fr be o (a.drop (i+1)) (b-g))])++f) l:=by
 have s:=(az.mp p).1;have B:a[i]=k:=bi ((ao s).symm.trans p);have u:a.drop i=k::a.drop (i+1):=by rw[ck s,B]
 rw[u]at A P;have n:∀x∈k::a.drop (i+1),∀i,1<=o x i:=λx v=>E x (by rw[<-u]at v;exact b5 v);obtain⟨t,q,D,F⟩:=LW n G A r w y C;refine⟨D,F,⟨t,q⟩,λf h=>?_⟩;have c:=Rk.cons r w y t q h;have e:lE fr be o k (a.drop (i+1)) b g+(d-lE fr be o k (a.drop (i+1)) b g)/ς fr be o (a.drop (i+1)) (b-g)*ς fr be o (a.drop (i+1)) (b-g)+(d-lE fr be o k (a.drop (i+1)) b g)%ς fr be o (a.drop (i+1)) (b-g)=d:=by
  have:=mI (d-lE fr be o k (a.drop (i+1)) b g) (ς fr be o (a.drop (i+1)) (b-g));rw[fF]at this
  lia
 rw[e]at c;rw[bX];exact P _ c
theorem IW{m r:Int}{e:hH}{a:d3}{b:fz}{c:fz}(G:Good m e)(R:ζ m e r a b)(s:∀v,0<=v->v<m->v≠r->1<=c v/\c v<=1000000){v k:Int}{i I H:Nat}{y n:d2}(q:0<=v)(t:v<m)(u:(kd m e r a v)[i]?=some k)(A:Ϗ I y (ς fr be (λk g=>wy m e r a b fr be c k (τ (c k) g)) ((kd m e r a v).drop (i+1))))(w:Ϗ H n (wy m e r a b fr be c k)){left g:Nat}(J:g<=left+1):(if fr k=true then Τ (ϩ (ϰ m.toNat (Ϲ y n (c k) (left:Int)))) g 0 else 0)=lE fr be (λk g=>wy m e r a b fr be c k (τ (c k) g)) k ((kd m e r a v).drop (i+1)) left g:=by
 unfold lE;by_cases f:fr k=true
 .rw[aj f,aj f];obtain⟨p,D,K⟩:=(bw G R q t).mp (aQ u);have h:∀x∈(kd m e r a v).drop (i+1),(0<=x/\x<m)/\x≠r/\a x=v:=λx l=>(bw G R q t).mp (b5 l);have F:=(ya (fr:=fr) (be:=be) (W:=wy m e r a b fr be c) (c:=c) (d:=ϐ m e r a b) (ks:=(kd m e r a v).drop (i+1)) (λx l=>Bd G R s _ (h x l).1.1 (h x l).1.2 (ap _)) λx l=>s x (h x l).1.1 (h x l).1.2 (h x l).2.1).1;have B:=(Bd (fr:=fr) (be:=be) G R s _ p.1 p.2 (ap _)).1;have z:=(az.mp u).1;have C:(kd m e r a v)[i]=k:=bi ((ao z).symm.trans u);have E:=sK (λk=>ϐ m e r a b k+1) (kd m e r a v) i;rw[gc G R q t,ck z,C,aq,aN]at E;have dl:=md G R q t;rw[Kj A.val F w.val B (s k p.1 p.2 D).1 (by lia) g];exact rp λj L=>Sk A.val w.val (by lia)
 .rw[ag f,ag f]
end
section
variable{fr be:Int->Bool}{d:Int->Nat->Int}
theorem Rk.fst{b:d2}{a:Nat}{c:g8}{e:Int}(h:Rk fr be d b a c e):c.map (·.1)=b:=by
 induction h with
 | nil=>rfl
 | cons _ _ _ _ _ _ ih=>rw[aq,ih]
theorem Rk.Yj{k:Int}{b:d2}{a g:Nat}{n c:Int}{f:g8}(h:Rk fr be d (k::b) a ((k,g,n)::f) c):g<=a/\∃e,Rk fr be d b (a-g) f e/\c=lE fr be d k b a g+n*ς fr be d b (a-g)+e:=by
 cases h with
 | cons hg _ _ _ _ h=>exact⟨hg,_,h,rfl⟩
theorem Rk.dO{a:Nat}{c:g8}{b:Int}(h:Rk fr be d [] a c b):b=0:=by
 cases h
 rfl
theorem Rk.bd{c:d2}{a:Nat}{b:g8}{e:Int}(h:Rk fr be d c a b e):∀x∈b,(0<=x.2.2/\x.2.2<d x.1 x.2.1)/\x.2.1<=a/\(fr x.1=false->be x.1=false->x.2.1=0):=by
 induction h with
 | nil=>intro x hx;cases hx
 | cons hg hb he n0 n1 h ih=>
   intro x hx;rcases ax.mp hx with rfl|hx
   .exact⟨⟨n0,n1⟩,hg,he⟩
   .have:=ih x hx;exact⟨this.1,by lia,this.2.2⟩
theorem Rk.sum{e:d2}{a:Nat}{c:g8}{i:Int}(h:Rk fr be d e a c i):(c.map (·.2.1)).sum<=a/\((∃k∈e,fr k=false/\be k=true)->(c.map (·.2.1)).sum=a):=by
 induction h with
 | nil=>exact⟨bj _,λ⟨_,h,_⟩=>(by cases h)⟩
 | cons hg hb he n0 n1 h ih=>
   obtain⟨j,g⟩:=ih;rw[aq,aN];dsimp only;refine⟨by lia,λ⟨k,hk,f,b⟩=>?_⟩;rcases ax.mp hk with rfl|hk
   .have:=hb f b
    lia
   .have:=g ⟨k,hk,f,b⟩
    lia
theorem LG(f:Nat->Int)(b:Int):∀a:Nat,∃g,g<=a/\(g=0\/Λ g f<=b)/\(g=a\/b<Λ (g+1) f)
 | 0=>⟨0,ap _,.inl rfl,.inl rfl⟩
 | n+1=>by
   obtain⟨g,h,e,h3⟩:=LG f b n;by_cases c:Λ (n+1) f<=b
   .exact⟨n+1,ap _,.inr c,.inl rfl⟩
   .rcases h3 with h3|h3
    .subst h3;exact⟨g,by lia,e,.inr (by lia)⟩
    .exact⟨g,by lia,e,.inr h3⟩
theorem Rk.ex:∀{f:d2}{e:Nat}{j:Int},(∀k∈f,∀i,1<=d k i)->0<=j->j<ς fr be d f e->∃l,Rk fr be d f e l j
 | [],e,j,_,h0,h1=>by
   have:j=0:=by have:j<1:=h1;lia
   subst this;exact⟨_,.nil _⟩
 | k::f,e,j,hw,h0,h1=>by
   obtain⟨g,m,n,o,q⟩:∃g,g<=e/\(fr k=false->be k=true->g=e)/\(fr k=false->be k=false->g=0)/\(fr k=true->(g=0\/Λ g (λi=>d k i*ς fr be d f (e-i))<=j)/\(g=e\/j<Λ (g+1) (λi=>d k i*ς fr be d f (e-i)))):=by
    cases ef:fr k with
    | true=>
      obtain⟨g,a,b,c⟩:=LG (λi=>d k i*ς fr be d f (e-i)) j e;exact⟨g,a,λz=>(by cases z),λz=>(by cases z),λ_=>⟨b,c⟩⟩
    | false=>
      cases eb:be k with
      | true=>exact⟨e,ap _,λ_ _=>rfl,λ_ z=>(by cases z),λz=>(by cases z)⟩
      | false=>exact⟨0,bj _,λ_ z=>(by cases z),λ_ _=>rfl,λz=>(by cases z)⟩
   obtain⟨r,p,s,u⟩:=LW hw h0 h1 m n o q;obtain⟨l,h⟩:=Rk.ex (λx t=>hw x (.tail _ t)) s u;have c:=Rk.cons m n o r p h;have:=mI (j-lE fr be d k f e g) (ς fr be d f (e-g));rw[fF]at this;rw[show lE fr be d k f e g+(j-lE fr be d k f e g)/ς fr be d f (e-g)*ς fr be d f (e-g)+(j-lE fr be d k f e g)%ς fr be d f (e-g)=j by lia]at c;exact⟨_,c⟩
def YZ(a:g8)(x:Int):Nat×Int:=((a.find? λy=>decide (y.1=x)).map (·.2)).getD (0,0)
theorem I0:∀{cs:g8},(cs.map (·.1)).Nodup->cs=(cs.map (·.1)).map λx=>(x,(YZ cs x).1,(YZ cs x).2)
 | [],_=>rfl
 | y::cs,h=>by
   rw[aq]at h;obtain⟨b,a⟩:=bg.mp h;have e:YZ (y::cs) y.1=y.2:=by unfold YZ;rw[List.find?_cons_of_pos (by simp)];rfl
   rw[aq,aq,e];refine congrArg (y::·) ((I0 a).trans (bZ λx c=>?_));have:YZ (y::cs) x=YZ cs x:=by
    unfold YZ;rw[List.find?_cons_of_neg (by simp;intro z;exact b (z▸c))]
   rw[this]
end
section
variable{m r:Int}{rs:hH}{d:d3}{dep:fz}{fr be:Int->Bool}{c:fz}
structure ϳ(m:Int)(rs:hH)(r:Int)(d:d3)(dep:fz)(fr be:Int->Bool)(c:fz)(cn gv:fz)(nb:d3):Prop where
 up:∀v,0<=v->v<m->v≠r->cn v=τ (c v) (gv v)
 at_:∀v,0<=v->v<m->Rk fr be (λk g=>wy m rs r d dep fr be c k (τ (c k) g)) (kd m rs r d v) (cn v) ((kd m rs r d v).map λk=>(k,gv k,nb k)) (nb v)
theorem uC(g:Good m rs)(R:ζ m rs r d dep){v:Int}(f:0<=v)(e:v<m):∀k∈kd m rs r d v,∀i,1<=(λk g=>wy m rs r d dep fr be c k (τ (c k) g)) k i:=λk b i=>by
 have a:=((bw g R f e).mp b).1;exact sO g R _ a.1 a.2 (ap _) _
theorem ϳ.bd{f h:fz}{e:d3}(N:ϳ m rs r d dep fr be c f h e)(g:Good m rs)(R:ζ m rs r d dep){v:Int}(b:0<=v)(a:v<m):0<=e v/\e v<wy m rs r d dep fr be c v (f v):=by
 rw[jF g R b a];exact(N.at_ v b a).lt (uC g R b a)
theorem ϳ.kid{e a:fz}{k:d3}(N:ϳ m rs r d dep fr be c e a k)(g:Good m rs)(R:ζ m rs r d dep){v:Int}(j:0<=v)(h:v<m)(f:v≠r):v∈kd m rs r d (d v)/\a v<=e (d v)/\(fr v=false->be v=false->a v=0):=by
 have p:=(R.up v j h f).1;have i:v∈kd m rs r d (d v):=(bw g R p.1 p.2).mpr ⟨⟨j,h⟩,f,rfl⟩;have b:=(N.at_ _ p.1 p.2).bd (v,a v,k v) (aP.mpr ⟨v,i,rfl⟩);exact⟨i,b.2.1,b.2.2⟩
theorem ϳ.inj{i x f j:fz}{h l:d3}(N:ϳ m rs r d dep fr be c i x h)(k:ϳ m rs r d dep fr be c f j l)(g:Good m rs)(R:ζ m rs r d dep)(s:i r=f r)(o:h r=l r):∀(n:Nat)(v:Int),dep v=n->0<=v->v<m->i v=f v/\h v=l v
 | 0,v,e,h0,h1=>by
   by_cases b:v=r
   .rw[b];exact⟨s,o⟩
   .have:=R.pos h0 h1 b
    lia
 | n+1,v,e,h0,h1=>by
   have b:v≠r:=λz=>by have:=R.root;rw[z]at e;lia
   have p:=(R.up v h0 h1 b).1;obtain⟨w,u⟩:=ϳ.inj N k g R s o n (d v) (by have:=R.pos h0 h1 b;lia) p.1 p.2;have a:=N.at_ _ p.1 p.2;rw[w]at a;have q:=a.inj (uC g R p.1 p.2) (k.at_ _ p.1 p.2) u;have t:=List.map_inj_left.mp q v (N.kid g R h0 h1 b).1;injection t with _ t
   injection t with t1 t2
   rw[N.up v h0 h1 b,k.up v h0 h1 b,t1];exact⟨rfl,t2⟩
def W7(F:Int->Nat->Int->List (Int×Nat×Int))(d:d3)(c:fz)(z:Nat)(a:Int):Nat->Int->Nat×Nat×Int
 | 0,_=>(z,0,a)
 | n+1,v=>let q:=YZ (F (d v) (W7 F d c z a n (d v)).1 (W7 F d c z a n (d v)).2.2) v
   (τ (c v) q.1,q.1,q.2)
theorem ϳ.ex(g:Good m rs)(R:ζ m rs r d dep){z:Nat}{f:Int}(I:0<=r)(J:r<m)(H:0<=f)(B:f<wy m rs r d dep fr be c r z):∃(A G:fz)(y:d3),ϳ m rs r d dep fr be c A G y/\A r=z/\y r=f:=by
 let F:Int->Nat->Int->List (Int×Nat×Int):=λv h n=>Classical.epsilon λcs=>Rk fr be (λk g=>wy m rs r d dep fr be c k (τ (c k) g)) (kd m rs r d v) h cs n
 have t:∀v h n,0<=v->v<m->0<=n->n<wy m rs r d dep fr be c v h->Rk fr be (λk g=>wy m rs r d dep fr be c k (τ (c k) g)) (kd m rs r d v) h (F v h n) n:=λv h n o q a b=>by
  rw[jF g R o q]at b;exact Classical.epsilon_spec (Rk.ex (uC g R o q) a b)
 have s:∀v h n,0<=v->v<m->0<=n->n<wy m rs r d dep fr be c v h->F v h n=(kd m rs r d v).map λx=>(x,(YZ (F v h n) x).1,(YZ (F v h n) x).2):=λv h n o q a b=>by
  have e:=(t v h n o q a b).fst;have:=I0 (cs:=F v h n) (by rw[e];exact nV);rw[e]at this;exact this
 have st:∀v,0<=v->v<m->v≠r->W7 F d c z f (dep v) v=(τ (c v) (YZ (F (d v) (W7 F d c z f (dep (d v)) (d v)).1 (W7 F d c z f (dep (d v)) (d v)).2.2) v).1,(YZ (F (d v) (W7 F d c z f (dep (d v)) (d v)).1 (W7 F d c z f (dep (d v)) (d v)).2.2) v).1,(YZ (F (d v) (W7 F d c z f (dep (d v)) (d v)).1 (W7 F d c z f (dep (d v)) (d v)).2.2) v).2):=λv o q l=>by
  rw[R.pos o q l]
  rfl
 have u:W7 F d c z f (dep r) r=(z,0,f):=by rw[R.root];rfl
 have bd:∀(n:Nat)(v:Int),dep v=n->0<=v->v<m->0<=(W7 F d c z f (dep v) v).2.2/\(W7 F d c z f (dep v) v).2.2<wy m rs r d dep fr be c v (W7 F d c z f (dep v) v).1:=λn=>by
  induction n with
  | zero=>
    intro v e j i;by_cases l:v=r
    .rw[l,u];exact⟨H,B⟩
    .have:=R.pos j i l
     lia
  | succ n ih=>
    intro v e j i;have l:v≠r:=λz=>by have:=R.root;rw[z]at e;lia
    have p:=(R.up v j i l).1;obtain⟨a,b⟩:=ih (d v) (by have:=R.pos j i l;lia) p.1 p.2;have k:=s (d v) _ _ p.1 p.2 a b;have:=(t (d v) _ _ p.1 p.2 a b).bd (v,_,_) (by rw[k];exact aP.mpr ⟨v,(bw g R p.1 p.2).mpr ⟨⟨j,i⟩,l,rfl⟩,rfl⟩);rw[st v j i l];exact this.1
 refine⟨λv=>(W7 F d c z f (dep v) v).1,λv=>(W7 F d c z f (dep v) v).2.1,λv=>(W7 F d c z f (dep v) v).2.2,⟨λv j i l=>?_,λv j i=>?_⟩,?_,?_⟩
 .show(W7 F d c z f (dep v) v).1=τ (c v) (W7 F d c z f (dep v) v).2.1;rw[st v j i l]
 .obtain⟨a,b⟩:=bd _ v rfl j i;have h:=t v _ _ j i a b;have e:=s v _ _ j i a b;rw[e]at h;refine(?_:List.map _ _=List.map _ _)▸h;refine bZ λk C=>?_;obtain⟨w,D,E⟩:=(bw g R j i).mp C;rw[st k w.1 w.2 D,E]
 .show(W7 F d c z f (dep r) r).1=z;rw[u]
 .show(W7 F d c z f (dep r) r).2.2=f;rw[u]
theorem C8(f:fz):∀l:List Int,(l.map λk=>(f k:Int)).sum=((l.map f).sum:Nat)
 | []=>rfl
 | a::l=>by rw[aq,aq,aN,aN,C8 f l];rfl
theorem CY{c i:Nat}(h:1<=c):((τ c i:Nat):Int)=((i:Int)+1)*c-1:=by
 unfold τ;have:1<=(i+1)*c:=bP (show 1<=i+1 by lia) h;rw[jG this,eX]
 rfl
theorem ϳ.spr{a b:fz}{h:d3}(N:ϳ m rs r d dep fr be c a b h)(g:Good m rs)(R:ζ m rs r d dep)(hc:∀k,0<=k->k<m->k≠r->(c k:Int)=tup rs d k)(e:∀k,0<=k->k<m->k≠r->fr k=true\/be k=true->ο m rs r d dep k*tup rs d k=ο m rs r d dep (d k))(f:∀v,0<=v->v<m->kd m rs r d v≠[]->∃k∈kd m rs r d v,fr k=false/\be k=true):YX m rs r d dep (a r+1) (λv=>(a v:Int)) λv=>(b v:Int) where
 rt:=by lia
 up v h0 h1 vr:=by
  refine⟨?_,λz=>e v h0 h1 vr ?_⟩
  .rw[N.up v h0 h1 vr,CY (by have:=hc v h0 h1 vr;have:=(fV g R h0 h1 vr).1;lia),hc v h0 h1 vr]
  .have q:=(N.kid g R h0 h1 vr).2.2;cases ef:fr v with
   | true=>exact .inl rfl
   | false=>
     cases eb:be v with
     | true=>exact .inr rfl
     | false=>exact absurd (q ef eb) (by lia)
 su v h0 h1 kn:=by
  have s:=(N.at_ v h0 h1).sum.2 (f v h0 h1 kn);rw[cZ]at s;rw[C8,<-s]
  rfl
theorem ϳ.adP{l u:fz}{y:d3}(N:ϳ m rs r d dep fr be c l u y)(g:Good m rs)(R:ζ m rs r d dep){a:d2}(O:Order m r d a)(t:∀k,fr k=(decide (ο m rs r d dep k*tup rs d k=ο m rs r d dep (d k))&&decide (bV m rs r d dep a (d k)≠some k)))(w:∀k,be k=decide (bV m rs r d dep a (d k)=some k))(z:∀k,c k=(tup rs d k).toNat):YX m rs r d dep (l r+1) (λv=>(l v:Int)) λv=>(u v:Int):=by
 have B:=Fa g R O;refine N.spr g R (λk i f j=>?_) (λk i f j h=>?_) λv n o x=>?_
 .rw[z k];exact br (by have:=(fV g R i f j).1;lia)
 .have p:=(R.up k i f j).1;rcases h with h|h
  .rw[t k,ce]at h;exact bN h.1
  .rw[w k]at h;exact(B.hv _ _ p.1 p.2 (bN h)).2
 .cases e:bV m rs r d dep a v with
  | none=>exact absurd (B.no v n o e) x
  | some b=>
    have q:=(B.hv v b n o e).1;have s:=((bw g R n o).mp q).2.2;refine⟨b,q,?_,?_⟩
    .rw[t b,s,e];simp
    .rw[w b,s,e];simp
theorem IB{w:Int}(b:0<=r)(e:r<m){t:d2}(O:Order m r d t):gE m rs r d (dD m rs r d dep) w=(t.map (hol m rs r d dep)).sum+ο m rs r d dep r*(w-1):=by
 unfold gE;rw[<-O.sums,show(dD m rs r d dep).getD r.toNat 0=ο m rs r d dep r from gN b e,nJ];refine congrArg (·+_) (qy λu a=>?_);unfold Zt hol upT;rw[show(dD m rs r d dep).getD u.toNat 0=ο m rs r d dep u from gN (O.Χ u a).1 (O.Χ u a).2]
end
end Pb
namespace PySem.SeqAt
open AutoSeq1 (wpAny_loadPart')
open MeetsSeq MeetsSeq2 MeetsSeq3 SeqRoads2
def Θ:List Int->List Int->Bool
 | a::as,b::bs=>if a=b then Θ as bs else decide (a<b)
 | _,_=>false
theorem L6(l b:Addr)(a p:Array Value)(n Q:Nat)(P x:Option Addr)(I z:Array (Option Value))(y:a.size=p.size)(c e:d2)(V:c.length=a.size)(U:e.length=a.size)(J:∀j (S:j<a.size),∃t,a[j]=.int (c.getD j 0) t)(G:∀j (S:j<p.size),∃t,p[j]=.int (e.getD j 0) t)(k:Nat):∀i:Nat,a.size-i=k->Meets (Builtin.«list.__eq__.loop» ⟨[.ref l,.ref b,rawInt i,rawInt 0],[]⟩)
 (λA R s=>s.heap.get? l=some { cls:=.type "list",dict:=P,data:=.seq a n,slots:=I }/\s.heap.get? b=some { cls:=.type "list",dict:=x,data:=.seq p Q,slots:=z }/\R (.ok (.ret (.bool (Θ (c.drop i) (e.drop i))))) s):=by
 induction k with
 | zero=>
   intro i L f w A R s h;obtain⟨M,g,d,O,os⟩:=s;obtain⟨q,r,h⟩:=h
   wp_walk using wpAny_loadPart' q,hW r
   have o:a[((i:Nat):Int).toNat]?=none:=by simp;lia
   have m:p[((i:Nat):Int).toNat]?=none:=by simp;lia
   have H:c.drop i=[]:=by simp;lia
   rw[H]at h;rw[o,m]
   wp_walk using wpAny_loadPart' q,hW r
   show R (.ok (.ret (.bool (decide (a.size<p.size))))) _;rw[y,bA (cU _)];exact h
 | succ k ih=>
   intro i L f w A R s h;obtain⟨M,g,d,O,os⟩:=s;obtain⟨q,r,h⟩:=h
   wp_walk using wpAny_loadPart' q,hW r
   have F:i<a.size:=by lia
   have u:i<p.size:=by lia
   obtain⟨D,N⟩:=J i F;obtain⟨E,K⟩:=G i u;have o:a[((i:Nat):Int).toNat]?=some (.int (c.getD i 0) D):=by simp[F,N]
   have m:p[((i:Nat):Int).toNat]?=some (.int (e.getD i 0) E):=by simp[u,K]
   have B:c.drop i=c.getD i 0::c.drop (i+1):=by rw[ck (by lia),aX,ao (by lia)];rfl
   have C:e.drop i=e.getD i 0::e.drop (i+1):=by rw[ck (by lia),aX,ao (by lia)];rfl
   have T:((i:Int)+1)=((i+1:Nat):Int):=by push_cast;rfl
   rw[B,C,Θ]at h;rw[o,m];refine ak (EqAt.int_int (c.getD i 0) D (e.getD i 0) E f w _ _ ?_);by_cases v:c.getD i 0=e.getD i 0
   .rw[aj v]at h;rw[show(c.getD i 0==e.getD i 0)=true from gR.mpr v]
    wp_walk
    rw[T];exact⟨plainId_quiet plain_eq_loop _,codeAny_builtin entry_eq_loop (by
     rw[Around.under_plainId plain_eq_loop _];exact ih (i+1) (by lia) f w A R _ ⟨q,r,h⟩)⟩
   .rw[ag v]at h;rw[show(c.getD i 0==e.getD i 0)=false from beq_eq_false_iff_ne.mpr v]
    wp_walk using wpAny_loadPart' q,hW r
    rw[o,m];refine ak (show wpAny _ _ (compareOp .Lt _ _) _ _ _ from wpAny_lt_int ?_)
    wp_walk
    exact h
theorem L1(l b:Addr)(a i:Array Value)(n v:Nat)(u e:Option Addr)(p f:Array (Option Value))(o:a.size=i.size)(k m:d2)(B:k.length=a.size)(z:m.length=a.size)(y:∀j (C:j<a.size),∃t,a[j]=.int (k.getD j 0) t)(x:∀j (C:j<i.size),∃t,i[j]=.int (m.getD j 0) t):Meets (Builtin.«list.__lt__» ⟨[.ref l,.ref b],[]⟩)
 (λA R s=>s.heap.get? l=some { cls:=.type "list",dict:=u,data:=.seq a n,slots:=p }/\s.heap.get? b=some { cls:=.type "list",dict:=e,data:=.seq i v,slots:=f }/\R (.ok (.ret (.bool (Θ k m)))) s):=by
 intro c w A R s h;obtain⟨E,g,d,F,os⟩:=s;obtain⟨q,r,h⟩:=h;have D:=AutoSeq1.sub_list_list
 wp_walk using wpAny_loadPart' q,hW r
 exact⟨plainId_quiet plain_eq_loop _,codeAny_builtin entry_eq_loop (by
  rw[Around.under_plainId plain_eq_loop _];exact L6 l b a i n v u e p f o k m B z y x _ 0 rfl c w A R _ ⟨q,r,by simpa using h⟩)⟩
end PySem.SeqAt
namespace L2
open PySem PySem.W NumText
section
variable{X:Cx}
theorem zw:∀{b:d2}{a:gn},Vals (b.map V.int) a->∀j (h:j<a.length),∃t,a[j]=.int (b.getD j 0) t
 | [],_,.nil,j,h=>absurd h (ji _)
 | x::b,_,.cons r rs,0,_=>by obtain⟨t,e⟩:=(show ∃t,_=Value.int x t from r);exact⟨t,e⟩
 | x::b,_,.cons r rs,j+1,h=>zw rs j (Nat.lt_of_succ_lt_succ h)
theorem RE{K:f5}{H:Hp}{a b:Addr}{c ys:d2}{Q:VK}(e:H a=some (.lst (c.map V.int)))(d:H b=some (.lst (ys.map V.int)))(q:Q (.bl (!decide (c=ys))) H):Nk K (.ref a) (.ref b) H Q:=⟨_,_,tQ e,tQ d,BQ c,by rw[Sb];exact q⟩
end
end L2
namespace Pb
open L2 PySem PySem.W NumText PySem.SeqAt
section
variable{j m:Int->Bool}{d:Int->Nat->Int}
theorem Rk.mk{gv:fz}{nb:d3}:∀{ks:d2}{left:Nat},(∀k∈ks,0<=nb k/\nb k<d k (gv k))->(∀k∈ks,j k=false->m k=false->gv k=0)->(∀g k c,ks=g++k::c->j k=false->m k=true->∀b∈c,gv b=0)->(ks.map gv).sum<=left->((∃k∈ks,j k=false/\m k=true)->(ks.map gv).sum=left)->∃n,Rk j m d ks left (ks.map λk=>(k,gv k,nb k)) n
 | [],left,_,_,_,_,_=>⟨0,.nil _⟩
 | k::ks,left,h1,h2,h3,h4,h5=>by
   rw[aq,aN]at h4 h5;obtain⟨n,h⟩:=Rk.mk (ks:=ks) (left:=left-gv k) (λx i=>h1 x (.tail _ i)) (λx i=>h2 x (.tail _ i)) (λg x c e=>h3 (k::g) x c (by rw[e];rfl)) (by lia) λ⟨x,i,e⟩=>by
    have:=h5 ⟨x,.tail _ i,e⟩
    lia
   refine⟨_,.cons (by lia) (λf b=>?_) (h2 k (.head _)) (h1 k (.head _)).1 (h1 k (.head _)).2 h⟩;have e:=h5 ⟨k,.head _,f,b⟩;have z:(ks.map gv).sum=0:=by
    have o:=h3 [] k ks rfl f b;clear h h1 h2 h3 h4 h5 e n
    induction ks with
    | nil=>rfl
    | cons a l ih=>rw[aq,aN,o a (.head _),ih λb p=>o b (.tail _ p)]
   lia
theorem Rk.cmp{k:Int}{ks:d2}{a g b:Nat}{n o q v:Int}{A C:g8}(z:∀x∈k::ks,∀i,1<=d x i)(h:Rk j m d (k::ks) a ((k,g,n)::A) q)(y:Rk j m d (k::ks) a ((k,b,o)::C) v):(g<b->q<v)/\(g=b->n<o->q<v):=by
 have l:∀x∈ks,∀i,1<=d x i:=λx r=>z x (.tail _ r);have w:=z k (.head _);have f:=pH (fr:=j) (be:=m) (ws:=d) (ks:=ks) (λx r i=>l x r i);cases h with
 | @cons _ _ _ _ _ nu1 _ hg hb he n0 n1 h=>
   cases y with
   | @cons _ _ _ _ _ nu2 _ hg' Y9 he' m0 m1 y=>
     have B:∀i,0<=d k i*ς j m d ks (a-i):=λi=>cX (by have:=w i;lia) (by have:=f (a-i);lia);have D:=h.lt l;have E:=y.lt l;refine⟨λlt=>?_,λe lt=>?_⟩
     .have c:j k=true:=by
       cases ef:j k with
       | true=>rfl
       | false=>
         cases eb:m k with
         | true=>have:=hb ef eb;have:=Y9 ef eb;lia
         | false=>have:=he ef eb;have:=he' ef eb;lia
      unfold lE;rw[aj c,aj c];have u:=BG B (show g+1<=b by lia);have s:Λ (g+1) (λi=>d k i*ς j m d ks (a-i))=Λ g (λi=>d k i*ς j m d ks (a-i))+d k g*ς j m d ks (a-g):=rfl;rw[s]at u;have t:(n+1)*ς j m d ks (a-g)<=d k g*ς j m d ks (a-g):=bu (by lia) (by have:=f (a-g);lia);rw[eB,dP]at t;have p:=cX m0 (show 0<=ς j m d ks (a-b) by have:=f (a-b);lia)
      lia
     .subst e;have t:(n+1)*ς j m d ks (a-g)<=o*ς j m d ks (a-g):=bu (by lia) (by have:=f (a-g);lia);rw[eB,dP]at t
      lia
end
theorem NX{A A' B B':d2}(e:A.length=A'.length):(Θ A A'=true->Θ (A++B) (A'++B')=true)/\(A=A'->Θ (A++B) (A'++B')=Θ B B'):=by
 induction A generalizing A' with
 | nil=>
   cases A' with
   | nil=>exact⟨λh=>(by cases h),λ_=>rfl⟩
   | cons a A'=>cases e
 | cons a A ih=>
   cases A' with
   | nil=>cases e
   | cons a' A'=>
     obtain⟨d,b⟩:=ih (A':=A') (by simpa using e);refine⟨λh=>?_,λh=>?_⟩
     .rw[Θ]at h;rw[fG,fG,Θ];split
      .rename_i c
       rw[aj c]at h;exact d h
      .rename_i c
       rw[ag c]at h;exact h
     .injection h with h1 h2
      rw[fG,fG,Θ,aj h1];exact b h2
theorem Du:∀{A B:d2},Θ A B=true->Θ B A=false
 | [],_,h=>by cases h
 | _::_,[],h=>by cases h
 | a::A,b::B,h=>by
   rw[Θ]at h ⊢;by_cases c:a=b
   .rw[aj c]at h;rw[aj c.symm];exact Du h
   .rw[ag c]at h;rw[ag λz=>c z.symm];have:=bN h;exact bA (by lia)
theorem Ϣ:∀A:List Int,Θ A A=false
 | []=>rfl
 | a::A=>by rw[Θ,aj rfl];exact Ϣ A
section
variable{m r:Int}{o:hH}{d:d3}{j:fz}{q p:Int->Bool}{c:fz}
theorem ϳ.abO(g:Good m o)(R:ζ m o r d j)(W:0<=r)(r1:r<m){L:d2}(et:bO m o r d j r=r::L)(O:Order m r d L)(Z:∀k,q k=(decide (ο m o r d j k*tup o d k=ο m o r d j (d k))&&decide (bV m o r d j L (d k)≠some k)))(V:∀k,p k=decide (bV m o r d j L (d k)=some k))(N:∀k,c k=(tup o d k).toNat){w:Int}{E gv:d3}(S:YX m o r d j w E gv)(nn:∀v,0<=v->v<m->0<=E v):∃nb,ϳ m o r d j q p c (λv=>(E v).toNat) (λv=>(gv v).toNat) nb:=by
 have J:∀v,0<=v->v<m->v≠r->0<=gv v:=λv B C G=>by
  have a:=nn v B C;have t:=(fV g R B C G).1;rw[(S.up v B C G).1]at a;by_cases z:0<=gv v
  .exact z
  .have:(gv v+1)*tup o d v<=0*tup o d v:=bu (by lia) (by lia);rw[Int.zero_mul]at this
   lia
 have up:∀v,0<=v->v<m->v≠r->(E v).toNat=τ (c v) (gv v).toNat:=λv B C G=>by
  have t:=(fV g R B C G).1;have e:=CY (c:=c v) (i:=(gv v).toNat) (by rw[N];lia);rw[N,br (J v B C G),show(((tup o d v).toNat:Nat):Int)=tup o d v from br (by lia),<-(S.up v B C G).1]at e;rw[N,<-e,bJ]
 let F:Nat->Int->Int:=Nat.rec (motive:=λ_=>Int->Int) (λ_=>0) λ_ f v=>Classical.epsilon λnu=>Rk q p (λk g=>wy m o r d j q p c k (τ (c k) g)) (kd m o r d v) (E v).toNat ((kd m o r d v).map λk=>(k,(gv k).toNat,f k)) nu
 have M:∀(n:Nat)(v:Int),0<=v->v<m->m.toNat-j v=n->Rk q p (λk g=>wy m o r d j q p c k (τ (c k) g)) (kd m o r d v) (E v).toNat ((kd m o r d v).map λk=>(k,(gv k).toNat,F (m.toNat-j k) k)) (F n v):=λn=>by
  induction n with
  | zero=>
    intro v B C e;have:=kM R B C
    lia
  | succ n ih=>
    intro v B C e;have D:∀k∈kd m o r d v,((0<=k/\k<m)/\k≠r/\d k=v)/\m.toNat-j k=n:=λk u=>by
     obtain⟨A,H,K⟩:=(bw g R B C).mp u;have pd:=R.pos A.1 A.2 H;rw[K]at pd;exact⟨⟨A,H,K⟩,by lia⟩
    rw[show((kd m o r d v).map λk=>(k,(gv k).toNat,F (m.toNat-j k) k))=(kd m o r d v).map λk=>(k,(gv k).toNat,F n k)from bZ λk u=>by rw[(D k u).2]];have I:∀k∈kd m o r d v,(gv k).toNat≠0->ο m o r d j k*tup o d k=ο m o r d j v:=λk u z=>by
     obtain⟨⟨A,H,K⟩,_⟩:=D k u;have:=(S.up k A.1 A.2 H).2 (by lia);rw[K]at this;exact this
    have Q:kd m o r d v≠[]->((kd m o r d v).map λk=>(gv k).toNat).sum=(E v).toNat:=λz=>by
     have s:=S.su v B C z;rw[qy (h:=λk=>(((gv k).toNat:Nat):Int)) λk u=>(br (J k (D k u).1.1.1 (D k u).1.1.2 (D k u).1.2.1)).symm,C8]at s
     lia
    exact Classical.epsilon_spec (Rk.mk (gv:=λk=>(gv k).toNat) (nb:=F n) (λk u=>by
     obtain⟨⟨A,H,K⟩,X⟩:=D k u;have l:=(ih k A.1 A.2 X).lt (uC g R A.1 A.2);rw[<-jF g R A.1 A.2,up k A.1 A.2 H]at l;exact l) (λk u f b=>Classical.byContradiction λz=>by
     have h:=I k u z;rw[Z,(D k u).1.2.2,bh h,iZ]at f;rw[V,(D k u).1.2.2]at b;exact(of_decide_eq_false f) λy=>of_decide_eq_false b y) (λai k P e _ b x T=>Classical.byContradiction λz=>by
     have Y:k∈kd m o r d v:=(by rw[e];exact aW _ (.head _));have xm:x∈kd m o r d v:=(by rw[e];exact aW _ (.tail _ T));rw[V,(D k Y).1.2.2]at b;have U:=(NR g R W r1 et O B C e).mp (bN b);rw[ce,fW]at U;have:=List.any_eq_false.mp U.2 x T;exact this (bh (I x xm z))) (by
     by_cases z:kd m o r d v=[]
     .rw[z];exact bj _
     .exact kO (Q z)) λ⟨k,u,_⟩=>Q λz=>by rw[z]at u;cases u)
 exact⟨λv=>F (m.toNat-j v) v,up,λv B C=>M _ v B C rfl⟩
abbrev WM(m:Int)(o:hH)(r:Int)(d:d3)(j:fz)(a:fz)(v:Int):List Int:=(bO m o r d j v).map λu=>(a u:Int)
theorem vF(g:Good m o)(R:ζ m o r d j){v:Int}(e:0<=v)(b:v<m)(a:fz):WM m o r d j a v=(a v:Int)::(kd m o r d v).flatMap (WM m o r d j a):=by
 unfold WM;rw[fL g R e b,aq,List.map_flatMap]
theorem ϳ.lex{w E t A:fz}{G I:d3}(N:ϳ m o r d j q p c w E G)(K:ϳ m o r d j q p c t A I)(g:Good m o)(R:ζ m o r d j)(X:∀k,0<=k->k<m->k≠r->1<=c k):∀(n:Nat)(v:Int),m.toNat-j v=n->0<=v->v<m->w v=t v->(G v<I v->Θ (WM m o r d j w v) (WM m o r d j t v)=true)/\(G v=I v->WM m o r d j w v=WM m o r d j t v)
 | 0,v,e,h0,h1=>by
   have:=kM R h0 h1
   lia
 | n+1,v,e,h0,h1=>λT=>by
   have Z:∀k∈kd m o r d v,((0<=k/\k<m)/\k≠r)/\m.toNat-j k=n:=λk D=>by
    obtain⟨f,C,M⟩:=(bw g R h0 h1).mp D;have pd:=R.pos f.1 f.2 C;rw[M]at pd;exact⟨⟨f,C⟩,by lia⟩
   have go:∀(h:d2)(s:Nat)(F H:Int),(∀k∈h,k∈kd m o r d v)->Rk q p (λk g=>wy m o r d j q p c k (τ (c k) g)) h s (h.map λk=>(k,E k,G k)) F->Rk q p (λk g=>wy m o r d j q p c k (τ (c k) g)) h s (h.map λk=>(k,A k,I k)) H->(F<H->Θ (h.flatMap (WM m o r d j w)) (h.flatMap (WM m o r d j t))=true)/\(F=H->h.flatMap (WM m o r d j w)=h.flatMap (WM m o r d j t)):=λh=>by
    induction h with
    | nil=>
      intro s F H _ a b;rw[a.dO,b.dO];exact⟨λz=>absurd z (by lia),λ_=>rfl⟩
    | cons k h ih=>
      intro s F H D a b;rw[aq]at a b;obtain⟨⟨f,C⟩,M⟩:=Z k (D k (.head _));have U:∀x∈k::h,∀i,1<=(λk g=>wy m o r d j q p c k (τ (c k) g)) x i:=λx O=>uC g R h0 h1 x (D x O);have W:=Rk.cmp U a b;have V:=Rk.cmp U b a;obtain⟨_,u,S,P⟩:=a.Yj;obtain⟨_,u',b',ac⟩:=b.Yj;have ln:(WM m o r d j w k).length=(WM m o r d j t k).length:=(by unfold WM;rw[aa,aa]);obtain⟨Q,p2⟩:=NX (B:=h.flatMap (WM m o r d j w)) (B':=h.flatMap (WM m o r d j t)) ln;rw[bC,bC];rcases iG (E k) (A k)with l|l|l
      .refine⟨λ_=>Q ?_,λz=>absurd (W.1 l) (by lia)⟩;have hl:w k<t k:=by
        rw[N.up k f.1 f.2 C,K.up k f.1 f.2 C];unfold τ;have:=cY (c k) (show E k+1+1<=A k+1 by lia);rw[eP (E k+1),jD]at this;have:=X k f.1 f.2 C;have:1<=(E k+1)*c k:=bP (show 1<=E k+1 by lia) this
        lia
       rw[vF g R f.1 f.2,vF g R f.1 f.2,Θ,ag (by lia)];exact bh (by lia)
      .have ek:w k=t k:=(by rw[N.up k f.1 f.2 C,K.up k f.1 f.2 C,l]);obtain⟨L,J⟩:=ϳ.lex N K g R X n k M f.1 f.2 ek;rw[l]at S P;rcases Int.lt_trichotomy (G k) (I k)with y|y|y
       .exact⟨λ_=>Q (L y),λz=>absurd (W.2 l y) (by lia)⟩
       .rw[y]at P;obtain⟨i1,Y⟩:=ih _ u u' (λx O=>D x (.tail _ O)) S b';rw[p2 (J y)];refine⟨λz=>i1 (by lia),λz=>?_⟩;rw[J y,Y (by lia)]
       .have:=V.2 l.symm y;exact⟨λz=>absurd z (by lia),λz=>absurd z (by lia)⟩
      .have:=V.1 l;exact⟨λz=>absurd z (by lia),λz=>absurd z (by lia)⟩
   have a:=N.at_ v h0 h1;rw[T]at a;obtain⟨L,J⟩:=go _ _ _ _ (λk D=>D) a (K.at_ v h0 h1);rw[vF g R h0 h1,vF g R h0 h1,T];refine⟨λz=>?_,λz=>by rw[J z]⟩;rw[Θ,aj rfl];exact L z
theorem ϳ.order{f x a i:fz}{b h:d3}(N:ϳ m o r d j q p c f x b)(t:ϳ m o r d j q p c a i h)(g:Good m o)(R:ζ m o r d j)(u:∀k,0<=k->k<m->k≠r->1<=c k)(l:0<=r)(s:r<m)(e:f r=a r):Θ (WM m o r d j f r) (WM m o r d j a r)=decide (b r<h r)/\(WM m o r d j f r=WM m o r d j a r↔b r=h r):=by
 obtain⟨n,w⟩:=ϳ.lex N t g R u _ r rfl l s e;obtain⟨v,A⟩:=ϳ.lex t N g R u _ r rfl l s e.symm;rcases Int.lt_trichotomy (b r) (h r)with y|y|y
 .rw[n y];refine⟨(bh y).symm,λz=>?_,λz=>absurd z (by lia)⟩;have:=n y;rw[z,Ϣ]at this;cases this
 .rw[w y,Ϣ];exact⟨(bA (by lia)).symm,λ_=>y,λ_=>rfl⟩
 .rw[Du (v y)];refine⟨(bA (by lia)).symm,λz=>?_,λz=>absurd z (by lia)⟩;have:=v y;rw[z,Ϣ]at this;cases this
end
end Pb
namespace Pb
open L2 PySem PySem.W NumText
section
variable{m r:Int}{d:hH}{n l a:d3}{b:fz}{g f i j:Int->Bool}{c o:fz}{e h:d2}
structure Ϛ(m:Int)(d:hH)(r:Int)(a:d3)(b:fz)(e:d2)(g f:Int->Bool)(c:fz):Prop where
 et:bO m d r a b r=r::e
 or:Order m r a e
 hf:∀k,g k=(decide (ο m d r a b k*tup d a k=ο m d r a b (a k))&&decide (bV m d r a b e (a k)≠some k))
 hb:∀k,f k=decide (bV m d r a b e (a k)=some k)
 hc:∀k,c k=(tup d a k).toNat
theorem OC{F:d3}{v:Int}(k:0<=v)(p:v<m):((b6 m.toNat).map F).getD v.toNat 0=F v:=by
 rw[aX,aA,fN (by lia),br k]
 rfl
end
theorem xf{f h:d3}:∀{l:d2},(∀c∈l,f c<=h c)->(l.map f).sum=(l.map h).sum->∀c∈l,f c=h c
 | [],_,_,c,hc=>by cases hc
 | a::l,le,e,c,hc=>by
   rw[aq,aq,aN,aN]at e;have g:=le a (.head _);have d:=EG λx b=>le x (.tail _ b);rcases ax.mp hc with rfl|hc
   .lia
   .exact xf (λx b=>le x (.tail _ b)) (by lia) c hc
section
variable{m r w:Int}{i:hH}{a:d3}{b:fz}{held:d3}
def Y0(m:Int)(i:hH)(r:Int)(a:d3)(b:fz)(held:d3)(v:Int):Int:=((bO m i r a b v).map λu=>ο m i r a b u*held u-ο m i r a b u*(tup i a u-1)).sum
def ZD(m:Int)(i:hH)(r:Int)(a:d3)(b:fz)(held:d3)(v:Int):Int:=ο m i r a b v*Φ m i r a b held (Η i a) v-ο m i r a b v*(tup i a v-1)
theorem FM(g:Good m i)(R:ζ m i r a b){e:d2}(O:Order m r a e)(f:∀v,0<=held v){v:Int}(l:0<=v)(k:v<m):Y0 m i r a b held v<=ZD m i r a b held v:=wle (held:=held) g R (ws:=ο m i r a b) (λv j o=>by have:=(eZ g R j o).1;lia) (λc d h n=>CM g R O d h n) f _ v rfl l k
theorem JZ{G k W V:Int}(s:2<=k)(n:1<=W)(st:W*k<=V)(g:0<=G):W*G-W*(k-1)<=V*(G/k)/\(W*G-W*(k-1)=V*(G/k)->G=(G/k+1)*k-1/\(G/k≠0->W*k=V)):=by
 have d:0<=G/k:=ik g (by lia);have c:=mE G k;have o:=cN G (show 0<k by lia);have t:=dG G (show k≠0 by lia);have l:W*G=W*(G%k)+W*k*(G/k):=by rw[<-c,cM,<-gh,c]
 have p:W*(G%k)<=W*(k-1):=cj (by lia) (by lia);have q:W*k*(G/k)<=V*(G/k):=bu st d;refine⟨by lia,λe=>?_⟩;have j:W*(G%k)=W*(k-1):=by(omega)
 have h:W*k*(G/k)=V*(G/k):=by lia
 have u:G%k=k-1:=Int.eq_of_mul_eq_mul_left (show W≠0 by lia) j;refine⟨?_,λf=>Int.eq_of_mul_eq_mul_right f h⟩;rw[eB,dP,fF (G/k)]
 lia
theorem BW(g:Good m i)(R:ζ m i r a b){s:d2}(O:Order m r a s)(o:∀v,0<=held v){v:Int}(j:0<=v)(h:v<m)(e:Y0 m i r a b held v=ZD m i r a b held v):∀u∈kd m i r a v,Y0 m i r a b held u=ZD m i r a b held u/\Φ m i r a b held (Η i a) u=(Η i a u (Φ m i r a b held (Η i a) u)+1)*tup i a u-1/\(Η i a u (Φ m i r a b held (Η i a) u)≠0->ο m i r a b u*tup i a u=ο m i r a b v):=by
 have d:∀u∈kd m i r a v,_:=λu f=>by
  obtain⟨c,k,p⟩:=(bw g R j h).mp f;have st:=CM g R O c.1 c.2 k;rw[p]at st;exact JZ (G:=Φ m i r a b held (Η i a) u) (fV g R c.1 c.2 k).1 (eZ g R c.1 c.2).1 st (wY g o u)
 have le:∀u∈kd m i r a v,Y0 m i r a b held u<=ο m i r a b v*Η i a u (Φ m i r a b held (Η i a) u):=λu f=>by
  obtain⟨c,k,p⟩:=(bw g R j h).mp f;exact bE (FM g R O o c.1 c.2) (d u f).1
 have eq:((kd m i r a v).map (Y0 m i r a b held)).sum=((kd m i r a v).map λu=>ο m i r a b v*Η i a u (Φ m i r a b held (Η i a) u)).sum:=by
  unfold Y0 ZD at e;rw[fL g R j h,aq,aN,vw,nL g R j h,cM]at e;rw[z3 (ο m i r a b v) (λu=>Η i a u (Φ m i r a b held (Η i a) u))];have y:ο m i r a b v*held v-ο m i r a b v*(tup i a v-1)+((kd m i r a v).map (Y0 m i r a b held)).sum=ο m i r a b v*held v+ο m i r a b v*((kd m i r a v).map λu=>Η i a u (Φ m i r a b held (Η i a) u)).sum-ο m i r a b v*(tup i a v-1):=e
  lia
 intro u f;obtain⟨c,k,p⟩:=(bw g R j h).mp f;have t:=xf le eq u f;have z:=FM (held:=held) g R O o c.1 c.2;have x:=(d u f).1;have q:ZD m i r a b held u<=ο m i r a b v*Η i a u (Φ m i r a b held (Η i a) u):=x;have l:Y0 m i r a b held u=ZD m i r a b held u:=by lia
 have n:ZD m i r a b held u=ο m i r a b v*Η i a u (Φ m i r a b held (Η i a) u):=by lia
 exact⟨l,(d u f).2 n⟩
theorem L3(g:Good m i)(R:ζ m i r a b){j:d2}(O:Order m r a j)(k:∀v,0<=held v)(e:Y0 m i r a b held r=ZD m i r a b held r)(n:Nat):∀v,b v=n->0<=v->v<m->Y0 m i r a b held v=ZD m i r a b held v:=by
 induction n with
 | zero=>
   intro v d f h;by_cases c:v=r
   .rw[c];exact e
   .have:=R.pos f h c
    lia
 | succ n ih=>
   intro v d f h;have c:v≠r:=λz=>by have:=R.root;rw[z]at d;lia
   have p:=(R.up v f h c).1;exact(BW g R O k p.1 p.2 (ih (a v) (by have:=R.pos f h c;lia) p.1 p.2) v ((bw g R p.1 p.2).mpr ⟨⟨f,h⟩,c,rfl⟩)).1
theorem MM(g:Good m i)(R:ζ m i r a b)(s:0<=r)(z:r<m){q:d2}(D:bO m i r a b r=r::q)(O:Order m r a q)(j:∀v,0<=held v)(Q:((b6 m.toNat).map held).sum=gE m i r a (dD m i r a b) w)(N:Φ m i r a b held (Η i a) r<w):YX m i r a b w (Φ m i r a b held (Η i a)) (λv=>Η i a v (Φ m i r a b held (Η i a) v))/\∀v,0<=v->v<m->held v=if kd m i r a v=[]then Φ m i r a b held (Η i a) v else 0:=by
 have S:=Jo g R O;have P:=(eZ g R s z).1;have C:∀v,0<=v->v<m->(dD m i r a b).getD v.toNat 0=ο m i r a b v:=λv c d=>gN c d;have T:=RD (held:=held) g R s z D O S j N;have U:=RP (held:=held) g (ws:=dD m i r a b) S.pos j;have E:=xf (f:=held) (h:=λv=>(dD m i r a b).getD v.toNat 0*held v) (l:=b6 m.toNat) (λv t=>by
  obtain⟨c,d⟩:=dN.mp t;have:=S.pos v c (by lia);have:=bu this (j v)
  lia) (by lia)
 have o:∀v,0<=v->v<m->kd m i r a v≠[]->held v=0:=λv c d A=>by
  have e:=E v (dN.mpr ⟨c,by lia⟩);rw[C v c d]at e;obtain⟨k,J,K⟩:=uc g R c d A;obtain⟨y,M,V⟩:=(bw g R c d).mp J;have F:=(fV g R y.1 y.2 M).1;have L:=(eZ g R y.1 y.2).1;have H:2<=ο m i r a b v:=by rw[<-K];exact bE (by decide) (df L F (by decide) (by lia))
  have:=bu H (j v);have:=j v
  lia
 have n:Φ m i r a b held (Η i a) r=w-1/\Y0 m i r a b held r=ZD m i r a b held r:=by
  have h:=FM (held:=held) g R O j s z;have e:Y0 m i r a b held r=ο m i r a b r*(w-1)-ο m i r a b r*(tup i a r-1):=by
   unfold Y0;rw[D,vb];have G:((r::q).map λv=>ο m i r a b v*held v).sum=((b6 m.toNat).map λv=>(dD m i r a b).getD v.toNat 0*held v).sum:=by
    have I:(r::q).Perm (b6 m.toNat):=gK O.nd (hV _) λx=>by
     rw[ax,dN];refine⟨λh=>?_,λh=>O.all x h.1 (by have:=h.2;lia)⟩;rcases h with h|h
     .rw[h];exact⟨s,by lia⟩
     .have:=O.Χ x h;exact⟨this.1,by lia⟩
    rw[tJ (I.map _)];exact qy λv t=>by have t:=dN.mp t;rw[C v t.1 (by lia)]
   have X:=IB (rs:=i) (dep:=b) (w:=w) s z O;have W:(q.map (hol m i r a b)).sum=(q.map λu=>ο m i r a b u*(tup i a u-1)).sum:=rfl;rw[aq (f:=λu=>ο m i r a b u*(tup i a u-1)),aN,G]
   lia
  have le:ο m i r a b r*Φ m i r a b held (Η i a) r<=ο m i r a b r*(w-1):=cj (by lia) (by lia);unfold ZD at h ⊢;have eq:ο m i r a b r*Φ m i r a b held (Η i a) r=ο m i r a b r*(w-1):=by(omega)
  exact⟨Int.eq_of_mul_eq_mul_left (by lia) eq,by lia⟩
 have all:=λv=>L3 g R O j n.2 _ v rfl;refine⟨⟨n.1,λv c d B=>?_,λv c d A=>?_⟩,λv c d=>?_⟩
 .have p:=(R.up v c d B).1;exact(BW g R O j p.1 p.2 (all _ p.1 p.2) v ((bw g R p.1 p.2).mpr ⟨⟨c,d⟩,B,rfl⟩)).2
 .rw[nL g R c d,o v c d A,cR]
 .split
  .rename_i kz
   rw[nL g R c d,show bQ m i (front r a v) v=[]from kz];exact(lF _).symm
  .rename_i kz
   exact o v c d kz
end
end Pb
namespace L2
open PySem PySem.Spec PyProof.Rows PySem.W
def KasT.val{b:Type}(lt:Nat->Nat->Bool):KasT b->b
 | .ret a=>a
 | .ask i j k=>KasT.val lt (k (lt i j))
theorem KasT.ϣ{a b:Type}{lt:Nat->Nat->Bool}{f:a->KasT b}:∀t:KasT a,KasT.val lt (t.bind f)=KasT.val lt (f (KasT.val lt t))
 | .ret _=>rfl
 | .ask i j k=>KasT.ϣ (k (lt i j))
theorem ώ.val{c:Type}{I:Nat->Prop}{P:c->Prop}{lt:Nat->Nat->Bool}{b:Nat->Nat->(Bool->Shared->Prop)->Shared->Prop}{Q:c->Shared->Prop}{s:Shared}(d:∀i j C,I i->I j->C (lt i j) s->b i j C s):∀{t:KasT c},ώ I P t->Q (KasT.val lt t) s->t.kasWp b Q s
 | .ret a,_,h=>h
 | .ask i j k,a,h=>d i j _ a.1 a.2.1 (ώ.val d (a.2.2 (lt i j)) h)
section
variable{n:Nat}{g:Nat->Nat->Bool}
structure Lin(n:Nat)(g:Nat->Nat->Bool):Prop where
 WD:∀a b,a<n->b<n->a≠b->g a b=false->g b a=true
 tr:∀a b c,a<n->b<n->c<n->g a b=true->g b c=true->g a c=true
def ZE(g:Nat->Nat->Bool)(p:Array Nat)(m:Nat):Prop:=∀i j,i<j->j<m->g (p.getD i 0) (p.getD j 0)=true
def Dsc(g:Nat->Nat->Bool)(p:Array Nat)(m:Nat):Prop:=∀i j,i<j->j<m->g (p.getD j 0) (p.getD i 0)=true
theorem Ρ.size{p:Array Nat}(h:Ρ n p):p.size=n:=by
 have:=h.length_eq;rw[bD]at this
 simpa using this
theorem Ρ.ne{p:Array Nat}(h:Ρ n p){i j:Nat}(a:i<n)(b:j<n)(e:i≠j):p.getD i 0≠p.getD j 0:=λz=>by
 have c:p.toList.Nodup:=h.nodup_iff.mpr List.nodup_range;have s:=Ρ.size h;have d:p.getD i 0=p.toList[i]'(by simpa[s]using a):=by simp[Array.getD,s,a]
 have f:p.getD j 0=p.toList[j]'(by simpa[s]using b):=by simp[Array.getD,s,b]
 rw[d,f]at z;exact e ((fS (by simpa[s]using a) c).mp (by rw[ao (by simpa[s]using a),ao (by simpa[s]using b),z]))
variable(L:Lin n g)(o:0<n)
include L o
theorem ZE.step{p:Array Nat}(h:Ρ n p){m:Nat}(k:1<=m)(f:m<n)(S:ZE g p m)(c:g (p.getD m 0) (p.getD (m-1) 0)=false):ZE g p (m+1):=λi j b l=>by
 have d:=L.WD _ _ (Ρ.at o h m) (Ρ.at o h (m-1)) (Ρ.ne h f (by lia) (by lia)) c;by_cases e:j=m
 .subst e;by_cases a:i=j-1
  .rw[a];exact d
  .exact L.tr _ _ _ (Ρ.at o h _) (Ρ.at o h _) (Ρ.at o h _) (S i (j-1) (by lia) (by lia)) d
 .exact S i j b (by lia)
theorem B7{p:Array Nat}(h:Ρ n p):∀(f m:Nat),1<=m->m+f<=n->ZE g p m->∃i,KasT.val g (kas_asc p f m)=i/\m<=i/\i<=m+f/\ZE g p i/\(i<m+f->g (p.getD i 0) (p.getD (i-1) 0)=true)
 | 0,m,_,_,S=>⟨m,rfl,ap _,ap _,S,λz=>absurd z (by lia)⟩
 | f+1,m,m1,mf,S=>by
   show ∃i,KasT.val g (if g (p.getD m 0) (p.getD (m-1) 0)=true then .ret m else kas_asc p f (m+1))=i/\_;cases c:g (p.getD m 0) (p.getD (m-1) 0)with
   | true=>exact⟨m,rfl,ap _,by lia,S,λ_=>c⟩
   | false=>
     obtain⟨i,e,a,b,j,d⟩:=B7 h f (m+1) (by lia) (by lia) (ZE.step L o h m1 (by lia) S c);exact⟨i,e,by lia,by lia,j,λz=>d (by lia)⟩
theorem FV{p:Array Nat}(h:Ρ n p):∀(f m:Nat),2<=m->m+f<=n->Dsc g p m->∃k,KasT.val g (kas_desc f p m 0)=(p,k,0)/\m<=k/\k<=m+f/\Dsc g p k
 | 0,m,_,_,S=>⟨m,rfl,ap _,ap _,S⟩
 | f+1,m,m1,mf,S=>by
   show ∃k,KasT.val g (if g (p.getD m 0) (p.getD (m-1) 0)=true then(if 0>0 then kas_desc f (kas_rev p (m-(0+1)) m) (m+1) 0 else kas_desc f p (m+1) 0)else .ask (p.getD (m-1) 0) (p.getD m 0) λd=>if d=true then .ret (p,m,0)else kas_desc f p (m+1) (0+1))=_/\_;cases c:g (p.getD m 0) (p.getD (m-1) 0)with
   | true=>
     rw[aj rfl,ag (by lia)];obtain⟨k,e,a,b,r⟩:=FV h f (m+1) (by lia) (by lia) λi j q s=>by
      by_cases e:j=m
      .subst e;by_cases l:i=j-1
       .rw[l];exact c
       .exact L.tr _ _ _ (Ρ.at o h _) (Ρ.at o h _) (Ρ.at o h _) c (S i (j-1) (by lia) (by lia))
      .exact S i j q (by lia)
     exact⟨k,e,by lia,by lia,r⟩
   | false=>
     have d:=L.WD _ _ (Ρ.at o h m) (Ρ.at o h (m-1)) (Ρ.ne h (by lia) (by lia) (by lia)) c;rw[ag (by decide)];refine⟨m,?_,ap _,by lia,S⟩;show KasT.val g (if g (p.getD (m-1) 0) (p.getD m 0)=true then _ else _)=_;rw[aj d]
     rfl
theorem GC{p:Array Nat}(h:Ρ n p){m k:Nat}(c:m<=n)(a:k<m):(kas_rev p 0 m).getD k 0=p.getD (m-1-k) 0:=by
 have e:=getElem?_mirror_all (xs:=p) (i:=0) (j:=m) (by rw[Ρ.size h];exact c) k;rw[aj ⟨bj _,a⟩]at e;have b:(kas_rev p 0 m)[k]?=p[0+m-1-k]?:=e;rw[fZ,fZ,b,iX]
theorem MA{p:Array Nat}(h:Ρ n p):∃m k,KasT.val g (kas_count n p)=(m,k)/\1<=m/\m<=n/\Ρ n k/\ZE g k m:=by
 obtain⟨m,e,a,b,S,d⟩:=B7 L o h (n-1) 1 (ap _) (by lia) λi j r l=>absurd l (by lia);unfold kas_count;rw[KasT.ϣ,e];by_cases c:(m==n)=true
 .rw[aj c];exact⟨m,p,rfl,a,by lia,h,S⟩
 .rw[ag c];have D:m<n:=by have:m≠n:=λz=>c (gR.mpr z);lia
  have d:=d (by lia);by_cases s:m>1
  .rw[aj s];show ∃f k,KasT.val g (if g (p.getD 0 0) (p.getD (m-1) 0)=true then _ else _)=_/\_;rw[aj (S 0 (m-1) (by lia) (by lia))];exact⟨m,p,rfl,a,by lia,h,S⟩
  .rw[ag s];have w:m=1:=(by lia);subst w;unfold kas_descPart;rw[KasT.ϣ];obtain⟨f,y,B,A,x⟩:=FV L o h (n-(1+1)) (1+1) (by lia) (by lia) λi j r l=>by
    have:i=0:=(by lia);have:j=1:=(by lia);subst i;subst j;exact d
   rw[y,ag (show ¬(0:Nat)>0 by decide)];unfold kas_tail3;rw[KasT.ϣ];have q:Ρ n (kas_rev p 0 f):=h.rev 0 f;obtain⟨t,u,C,E,v,_⟩:=B7 L o q (n-f) f (by lia) (by lia) λi j r l=>by
    rw[GC L o h (by lia) (by lia),GC L o h (by lia) l];exact x _ _ (by lia) (by lia)
   show ∃m k,KasT.val g (KasT.ret (KasT.val g (kas_asc (kas_rev p 0 f) (n-f) f),kas_rev p 0 f))=_/\_;rw[u];exact⟨t,_,rfl,by lia,by lia,q,v⟩
theorem xI{p:Array Nat}(h:Ρ n p){k:Nat}(m:k<n)(S:ZE g p k):∀(f l r:Nat),r-l<=f->l<=r->r<=k->(∀i,i<l->g (p.getD i 0) (p.getD k 0)=true)->(∀i,r<=i->i<k->g (p.getD k 0) (p.getD i 0)=true)->∃j,KasT.val g (kas_place p k f l r)=j/\j<=k/\(∀i,i<j->g (p.getD i 0) (p.getD k 0)=true)/\∀i,j<=i->i<k->g (p.getD k 0) (p.getD i 0)=true
 | 0,l,r,f0,lr,rk,A,B=>⟨l,rfl,by lia,A,λi a b=>B i (by lia) b⟩
 | f+1,l,r,f0,lr,rk,A,B=>by
   unfold kas_place;by_cases c:l ≥ r
   .rw[aj c];exact⟨l,rfl,by lia,A,λi a b=>B i (by lia) b⟩
   .rw[ag c];show ∃j,KasT.val g (if g (p.getD k 0) (p.getD ((l+r)/2) 0)=true then _ else _)=j/\_;cases d:g (p.getD k 0) (p.getD ((l+r)/2) 0)with
    | true=>
      rw[aj rfl];refine xI h m S f l ((l+r)/2) (by lia) (by lia) (by lia) A λi a b=>?_;by_cases e:i=(l+r)/2
      .rw[e];exact d
      .exact L.tr _ _ _ (Ρ.at o h _) (Ρ.at o h _) (Ρ.at o h _) d (S _ _ (by lia) b)
    | false=>
      rw[ag (by decide)];have q:=L.WD _ _ (Ρ.at o h k) (Ρ.at o h ((l+r)/2)) (Ρ.ne h m (by lia) (by lia)) d;refine xI h m S f ((l+r)/2+1) r (by lia) (by lia) rk (λi a=>?_) B;by_cases e:i=(l+r)/2
      .rw[e];exact q
      .exact L.tr _ _ _ (Ρ.at o h _) (Ρ.at o h _) (Ρ.at o h _) (S i ((l+r)/2) (by lia) (by lia)) q
theorem GJ{p:Array Nat}(h:Ρ n p){k l j:Nat}(a:k<n)(b:l<=k):(bubble p k (k-l)).getD j 0=if j=l then p.getD k 0 else if l<j/\j<=k then p.getD (j-1) 0 else p.getD j 0:=by
 have e:=getElem?_bubble (xs:=p) (src:=k) (by rw[Ρ.size h];exact a) (k-l) (by lia) j;rw[show k-(k-l)=l by lia]at e;rw[fZ,e]
 repeat' split
 all_goals exact(fZ ..).symm
theorem Jp:∀(f k:Nat){p:Array Nat},Ρ n p->k+f<=n->ZE g p k->∃c,KasT.val g (kas_bin f p k)=c/\Ρ n c/\ZE g c (k+f)
 | 0,k,p,h,_,S=>⟨p,rfl,h,S⟩
 | f+1,k,p,h,kf,S=>by
   unfold kas_bin;rw[KasT.ϣ];obtain⟨l,e,q,A,B⟩:=xI L o h (show k<n by lia) S k 0 k (by lia) (by lia) (ap _) (λi z=>absurd z (by lia)) λi a b=>absurd b (by lia);rw[e];obtain⟨c,t,u,v⟩:=Jp f (k+1) (p:=bubble p k (k-l)) (h.bub k (k-l)) (by lia) λi j w x=>by
    rw[GJ L o h (by lia) q,GJ L o h (by lia) q];by_cases m:i=l
    .rw[aj m,ag (by lia),aj (by lia)];exact B _ (by lia) (by lia)
    .rw[ag m];by_cases d:l<i/\i<=k
     .rw[aj d,ag (by lia),aj (by lia)];exact S _ _ (by lia) (by lia)
     .rw[ag d];by_cases r:j=l
      .rw[aj r];exact A i (by lia)
      .rw[ag r];by_cases s:l<j/\j<=k
       .rw[aj s];exact S _ _ (by lia) (by lia)
       .rw[ag s];exact S _ _ w (by lia)
   exact⟨c,t,u,by rw[show k+(f+1)=k+1+f by lia];exact v⟩
theorem NG:∃p,KasT.val g (kas_sort n)=p/\Ρ n p/\ZE g p n:=by
 obtain⟨m,p,e,i,j,h,S⟩:=MA L o (p:=List.toArray (List.range n)) (iE _);unfold kas_sort;rw[KasT.ϣ,e];dsimp only;by_cases c:m<n
 .rw[aj c,show max m 1=m by lia];obtain⟨f,b,d,a⟩:=Jp L o (n-m) m h (by lia) S;exact⟨f,b,d,by rw[show m+(n-m)=n by lia]at a;exact a⟩
 .rw[ag c];have:m=n:=by lia
  subst this;exact⟨p,rfl,h,S⟩
end
end L2
namespace Pb
open L2 PySem PySem.W NumText
theorem sh{f:fz}:∀l:List Int,l.length<=(l.map λk=>f k+1).sum
 | []=>ap _
 | a::l=>by rw[aq,aN,aF];have:=sh (f:=f) l;lia
theorem mS{f:fz}:∀{l:d2}{k:Int},k∈l->f k+1<=(l.map λk=>f k+1).sum
 | a::l,k,h=>by
   rw[aq,aN];rcases ax.mp h with rfl|h
   .lia
   .have:=mS (f:=f) h
    lia
section
variable{fr be:Int->Bool}{ws:Int->Nat->Int}
theorem vd{X:Nat}:∀{ks:d2},(∀k∈ks,∀i,ws k i=1)->∀a,a<=X->0<=ς fr be ws ks a/\ς fr be ws ks a<=((X+1)^(ks.filter fr).length:Nat)
 | [],_,a,_=>⟨by show(0:Int)<=1;decide,by show(1:Int)<=((X+1)^0:Nat);simp⟩
 | k::ks,h,a,hl=>by
   have d:=vd (X:=X) (ks:=ks) λx g=>h x (.tail _ g);have e:=h k (.head _);by_cases c:fr k=true
   .rw[qu c,eJ c,aF,eV];have:=Dk (f:=λi=>ws k i*ς fr be ws ks (a-i)) (B:=(((X+1)^(ks.filter fr).length:Nat):Int)) (k:=a+1) λi _=>by
     rw[e,dP];exact d (a-i) (by lia)
    refine⟨this.1,bE this.2 ?_⟩;rw[gY,eX];exact bu (by lia) (by lia)
   .rw[dF c];by_cases b:be k=true
    .rw[pA c b];show 0<=ws k a*_/\ws k a*_<=_;rw[e,dP];exact d 0 (by lia)
    .rw[oX c b];show 0<=ws k 0*_/\ws k 0*_<=_;rw[e,dP];exact d a hl
end
section
variable{m r:Int}{q:hH}{j:d3}{o:fz}{s u:Int->Bool}{c:fz}{x:d2}
theorem Ϛ.free(B:Ϛ m q r j o x s u c)(g:Good m q)(R:ζ m q r j o)(t:0<=r)(w:r<m){v:Int}(d:0<=v)(h:v<m)(k:kd m q r j v≠[]):((kd m q r j v).filter s).length+1<=(kd m q r j v).length:=by
 cases e:bV m q r j o x v with
 | none=>exact absurd ((Fa g R B.or).no v d h e) k
 | some b=>
   have i:b∈kd m q r j v:=((Fa g R B.or).hv v b d h e).1;have n:=((bw g R d h).mp i).2.2;have p:s b=false:=by rw[B.hf,n,e];simp
   obtain⟨f,a,l⟩:=List.append_of_mem i;rw[l,b4,dF (by rw[p];decide),aE,aE,aF];have:=cC s f;have:=cC s a
   lia
theorem Ϛ.few(B:Ϛ m q r j o x s u c)(g:Good m q)(R:ζ m q r j o)(E:0<=r)(H:r<m){v:Int}(a:0<=v)(f:v<m):(ϐ m q r j o v<=1->∀h,wy m q r j o s u c v h=1)/\(ϐ m q r j o v=2->∀h,wy m q r j o s u c v h<=(h:Int)+1):=by
 have pos:=λ(k:Int)(I:0<=k)(l:k<m)(h:Nat)=>sO (fr:=s) (be:=u) (c:=c) g R _ I l (ap _) h;have w:∀(n:Nat)(v:Int),0<=v->v<m->m.toNat-o v=n->ϐ m q r j o v<=1->∀h,wy m q r j o s u c v h=1:=λn=>by
  induction n with
  | zero=>
    intro v a f e;have:=kM R a f
    lia
  | succ n ih=>
    intro v a f e d h;rw[jF g R a f];have C:=gc g R a f;by_cases y:kd m q r j v=[]
    .rw[y];rfl
    .have J:=B.free g R E H a f y;have A:∀k∈kd m q r j v,∀i,(λk g=>wy m q r j o s u c k (τ (c k) g)) k i=1:=λk t i=>by
      obtain⟨l,F,G⟩:=(bw g R a f).mp t;have K:=R.pos l.1 l.2 F;rw[G]at K;have le:ϐ m q r j o k+1<=((kd m q r j v).map λk=>ϐ m q r j o k+1).sum:=mS t;exact ih k l.1 l.2 (by lia) (by lia) _
     have D:(kd m q r j v).length<=1:=by
      have:(kd m q r j v).length<=((kd m q r j v).map λk=>ϐ m q r j o k+1).sum:=sh _
      lia
     have b:=vd (fr:=s) (be:=u) (X:=h) A h (ap _);rw[show((kd m q r j v).filter s).length=0 by lia,Nat.pow_zero]at b;have p:=pH (fr:=s) (be:=u) (ws:=λk g=>wy m q r j o s u c k (τ (c k) g)) (ks:=kd m q r j v) (λk t i=>Int.le_of_eq (A k t i).symm) h;have:=b.2
     lia
 refine⟨w _ v a f rfl,λd h=>?_⟩;rw[jF g R a f];have C:=gc g R a f;have y:kd m q r j v≠[]:=λz=>by rw[z]at C;simp at C;lia
 have J:=B.free g R E H a f y;have D:(kd m q r j v).length<=((kd m q r j v).map λk=>ϐ m q r j o k+1).sum:=sh _;have A:∀k∈kd m q r j v,∀i,(λk g=>wy m q r j o s u c k (τ (c k) g)) k i=1:=λk t i=>by
  obtain⟨l,F,G⟩:=(bw g R a f).mp t;have le:ϐ m q r j o k+1<=((kd m q r j v).map λk=>ϐ m q r j o k+1).sum:=mS t;exact w _ k l.1 l.2 rfl (by lia) _
 have b:=vd (fr:=s) (be:=u) (X:=h) A h (ap _);have:(h+1)^((kd m q r j v).filter s).length<=(h+1)^1:=bB (by lia) (by lia);rw[Nat.pow_one]at this;have:=b.2
 lia
theorem Ϛ.ZT(B:Ϛ m q r j o x s u c)(g:Good m q)(R:ζ m q r j o)(h:0<=r)(t:r<m){n:Nat}(M:m<=3/\n<=2\/m=4/\n<=1/\∀k,c k<=2):wy m q r j o s u c r n<64:=by
 have m1:=g.m1;have dl:=md g R h t;obtain⟨K,I⟩:=B.few g R h t h t;by_cases L:ϐ m q r j o r<=1
 .rw[K L];decide
 by_cases G:ϐ m q r j o r=2
 .have:=I G n
  lia
 have P:m=4:=by lia
 obtain⟨_,H,O⟩:=M.resolve_left (by lia);have w:=gc g R h t;have A:kd m q r j r≠[]:=λz=>by rw[z]at w;simp at w;lia
 have y:=B.free g R h t h t A;have N:(kd m q r j r).length<=((kd m q r j r).map λk=>ϐ m q r j o k+1).sum:=sh _;rw[jF g R h t];by_cases F:∀k∈kd m q r j r,ϐ m q r j o k<=1
 .have b:=vd (fr:=s) (be:=u) (ws:=λk g=>wy m q r j o s u c k (τ (c k) g)) (X:=n) (ks:=kd m q r j r) (λk hk i=>by
   obtain⟨v,_,_⟩:=(bw g R h t).mp hk;exact(B.few g R h t v.1 v.2).1 (F k hk) _) n (ap _)
  have p:(n+1)^((kd m q r j r).filter s).length<=2^2:=aL (bB (by lia) (show _<=2 by lia)) (fy (by lia) 2);have:=b.2
  lia
 .obtain⟨k,hk⟩:=Classical.not_forall.mp F;obtain⟨hk,d⟩:=Classical.not_imp.mp hk;have le:=mS (f:=ϐ m q r j o) hk;obtain⟨v,_,_⟩:=(bw g R h t).mp hk;have J:kd m q r j r=[k]:=by
   match e:kd m q r j r,A with
   | [a],_=>rw[e]at hk;rw[aI.mp hk]
   | a::b::l,_=>
     rw[e,aq,aq,aN,aN]at w;rw[e]at hk;rcases ax.mp hk with z|hk
     .rw[z]at d;lia
     .have:=mS (f:=ϐ m q r j o) hk;rw[aq,aN]at this
      lia
  rw[J]at y w ⊢;simp at w;have E:¬s k=true:=λz=>by rw[eJ z]at y;simp at y
  have C:=(B.few g R h t v.1 v.2).2 (by lia);have D:∀i,i<=1->((τ (c k) i:Nat):Int)+1<=4:=λi Q=>by
   unfold τ;have:(i+1)*c k<=2*2:=bP (by lia) (O k)
   lia
  by_cases b:u k=true
  .rw[pA E b];show wy m q r j o s u c k (τ (c k) n)*1<64;have:=C (τ (c k) n);have:=D n H
   lia
  .rw[oX E b];show wy m q r j o s u c k (τ (c k) 0)*1<64;have:=C (τ (c k) 0);have:=D 0 (by lia)
   lia
theorem Ie(g:Good m q)(R:ζ m q r j o){T:Nat}(p:1<=T)(w:∀v,0<=v->v<m->v≠r->tup q j v<=T)(n:Nat):∀v,0<=v->v<m->m.toNat-o v=n->ο m q r j o v<=(T^ϐ m q r j o v:Nat):=by
 induction n with
 | zero=>
   intro v d b e;have:=kM R d b
   lia
 | succ n ih=>
   intro v d b e;by_cases i:kd m q r j v=[]
   .have l:ο m q r j o v=1:=by
     show fo mx m q r j o _ _ v=1;rw[sA g R d b,show bQ m q (front r j v) v=[]from i]
     rfl
    rw[l];have:1<=T^ϐ m q r j o v:=Nat.pow_pos p
    lia
   .obtain⟨k,hk,ek⟩:=uc g R d b i;obtain⟨a,h,y⟩:=(bw g R d b).mp hk;have z:=R.pos a.1 a.2 h;rw[y]at z;have A:=gc g R d b;have le:=mS (f:=ϐ m q r j o) (show k∈kd m q r j v from hk);have t:=ih k a.1 a.2 (by lia);have l:=(eZ g R a.1 a.2).1;rw[<-ek];refine bE (df t (w k a.1 a.2 h) (by have:=(fV g R a.1 a.2 h).1;lia) (by lia)) ?_;have:T^ϐ m q r j o k*T<=T^ϐ m q r j o v:=by
     rw[<-eV];exact bB p (by lia)
    rw[<-eX]
    lia
theorem Lr(g:Good m q)(R:ζ m q r j o)(l:0<=r)(z:r<m)(N:bO m q r j o r=r::x)(O:Order m r j x){w:Int}(C:1<=w)(D:m<=3/\w<=3/\(∀v,0<=v->v<m->v≠r->tup q j v<=3)\/m=4/\w<=2/\∀v,0<=v->v<m->v≠r->tup q j v<=2):0<=gE m q r j (dD m q r j o) w/\gE m q r j (dD m q r j o) w<=40:=by
 have m1:=g.m1;have y:(x.length:Int)=m-1:=by have:=O.XE l z;lia
 have E:=(eZ g R l z).1;have I:=md g R l z;rw[IB l z O];have n:∀T:Nat,2<=T->(∀v,0<=v->v<m->v≠r->tup q j v<=T)->0<=(x.map (hol m q r j o)).sum/\(x.map (hol m q r j o)).sum<=((T^(m-2).toNat*(T-1):Nat):Int)*x.length/\ο m q r j o r<=(T^(m-1).toNat:Nat):=λT P i=>by
  have B:∀v∈x,0<=hol m q r j o v/\hol m q r j o v<=((T^(m-2).toNat*(T-1):Nat):Int):=λv k=>by
   have h:=O.Χ v k;have A:=O.ne k;have p:=(R.up v h.1 h.2 A).1;have K:=md g R p.1 p.2;have H:=gc g R p.1 p.2;have le:=mS (f:=ϐ m q r j o) (show v∈kd m q r j (j v)from(bw g R p.1 p.2).mpr ⟨h,A,rfl⟩);have M:=Ie g R (by lia) i _ v h.1 h.2 rfl;have J:T^ϐ m q r j o v<=T^(m-2).toNat:=bB (by lia) (by lia);have t:=fV g R h.1 h.2 A;have G:=i v h.1 h.2 A;have C:=(eZ g R h.1 h.2).1;show 0<=ο m q r j o v*(tup q j v-1)/\ο m q r j o v*(tup q j v-1)<=_;refine⟨cX (by lia) (by lia),?_⟩;rw[eX];exact df (by lia) (by lia) (by lia) (by lia)
  have F:=Ie g R (by lia) i _ r l z rfl;have:T^ϐ m q r j o r<=T^(m-1).toNat:=bB (by lia) (by lia);exact⟨Ca λv k=>(B v k).1,Ip λv k=>(B v k).2,by lia⟩
 have L:=cX (show 0<=ο m q r j o r by lia) (show 0<=w-1 by lia);rcases D with⟨m3,w3,i⟩|⟨m4,w2,i⟩
 .obtain⟨a,b,d⟩:=n 3 (by decide) i;have e:ο m q r j o r*(w-1)<=(3^(m-1).toNat:Nat)*2:=df d (by lia) (by lia) (by lia);rw[y]at b;rcases(show m=1\/m=2\/m=3 by lia)with rfl|rfl|rfl
  .simp at b e;lia
  .simp at b e;lia
  .simp at b e;lia
 .obtain⟨a,b,d⟩:=n 2 (by decide) i;have e:ο m q r j o r*(w-1)<=(2^(m-1).toNat:Nat)*1:=df d (by lia) (by lia) (by lia);rw[y]at b;subst m4;simp at b e
  lia
end
end Pb
namespace PySem.SeqAt
theorem BL:∀{a b:d2},a.length=b.length->a≠b->Θ a b=false->Θ b a=true
 | [],[],_,n,_=>absurd rfl n
 | [],_::_,e,_,_=>by cases e
 | _::_,[],e,_,_=>by cases e
 | x::a,y::b,e,n,h=>by
   rw[Θ]at h ⊢;by_cases c:x=y
   .rw[aj c]at h;rw[aj c.symm];exact BL (by simpa using e) (λz=>n (by rw[c,z])) h
   .rw[ag c]at h;rw[ag λz=>c z.symm];have:=of_decide_eq_false h;exact bh (by lia)
theorem Bh:∀{a b c:d2},Θ a b=true->Θ b c=true->Θ a c=true
 | [],_,_,h,_=>by cases h
 | _::_,[],_,h,_=>by cases h
 | _::_,_::_,[],_,h=>by cases h
 | x::a,y::b,z::c,h1,h2=>by
   rw[Θ]at h1 h2 ⊢;by_cases e:x=y
   .rw[aj e]at h1;by_cases d:y=z
    .rw[aj d]at h2;rw[aj (e.trans d)];exact Bh h1 h2
    .rw[ag d]at h2;rw[e,ag d];exact h2
   .rw[ag e]at h1;have f:=bN h1;by_cases d:y=z
    .rw[<-d,ag e];exact h1
    .rw[ag d]at h2;have g:=bN h2;rw[ag (by lia)];exact bh (by lia)
end PySem.SeqAt
namespace L2
open PySem PySem.Spec PyProof.Rows PySem.W PySem.SeqAt
section
variable{prog:Program}{w:World}{A:Around}{E:f3}{s:Shared}
theorem Gn{a:Addr}{c:gn}{n:Nat}{lt:Nat->Nat->Bool}(L:Lin c.length lt){P:PySem.Fin->Shared->Prop}(D:s.heap.get? a=some (seqObj "list" c.toArray n))(K:c.length<64)(F:2<=c.length->∀y:Heap,(∀b o,b≠a->s.heap.get? b=some o->y.get? b=some o)->∃H,(∀Q:SortKind->Shared->Prop,Q H { s with heap:=y }->wpAny (model prog w) A (keyKind' c.toArray) Q (λ_ _=>False) { s with heap:=y })/\∀i j (C:Bool->Shared->Prop),i<c.length->j<c.length->C (lt i j) { s with heap:=y }->kas_ask prog w A H c i j C { s with heap:=y })(h:∀p:List Nat,p.Perm (List.range c.length)->p.Pairwise (λi j=>lt i j=true)->P (.done (.ret .none)) { s with heap:=sortedHeap s.heap a c (p.map λi=>c.getD i Value.none).toArray }):wpAny (model prog w) A (Builtin.«list.sort» ⟨[.ref a],[]⟩) P E s:=by
 rw[list_sort_plain];have ha:a<s.heap.objs.size:=aG D;have z:c.length<=sizeLine:=by rw[sizeLine_eq];lia
 refine ak (listItems_at D rfl ?_);refine ak (listUpdate_at D rfl ?_ (by rw[aM];exact z) (bj _));obtain⟨R,v⟩:∃R,(s.heap.update a (Obj.mapSeq λ_=>(#[]:Array Value))).get? a=some (seqObj "list" #[] R):=⟨_,get?_update_seq D (λ_=>#[])⟩;refine ak (seqEpoch_at v rfl ?_);refine ak (wpAny_newTuple ?_ (by exact z));refine ak (wpAny_newList ?_ (bj _));refine gM ?_;have f:∀b o,(s.heap.update a (Obj.mapSeq λ_=>(#[]:Array Value))).get? b=some o->(((s.heap.update a (Obj.mapSeq λ_=>#[])).push (seqObj "tuple" c.toArray 0)).push (seqObj "list" #[] 0)).get? b=some o:=λb o e=>ar _ (ar _ e)
 have d:=f _ _ v;have N:∀b o,b≠a->s.heap.get? b=some o->(((s.heap.update a (Obj.mapSeq λ_=>#[])).push (seqObj "tuple" c.toArray 0)).push (seqObj "list" #[] 0)).get? b=some o:=λb o hb e=>f b o (by rw[Heap.get?_update_ne _ _ _ _ hb];exact e)
 show wpAny (model prog w) A _ P E { s with heap:=((s.heap.update a (Obj.mapSeq λ_=>#[])).push (seqObj "tuple" c.toArray 0)).push (seqObj "list" #[] 0) };dsimp only;by_cases g:c.toArray.size<2
 .rw[aj g,aj g];refine ak (ba ?_);rw[StateT.run_pure];refine ak (ba ?_);dsimp only;have S:(arrOf (SortSt.mk' general' (c.toArray.zip c.toArray) #[] 7 none)).map (·.2)=c.toArray:=by
   show(c.toArray.zip c.toArray).map (·.2)=c.toArray;apply Array.toList_inj.mp;rw[Array.toList_map,Array.toList_zip];show(c.zip c).map Prod.snd=c;exact List.map_snd_zip (ap _)
  refine ak (seqEpoch_at d rfl ?_);refine ak (listUpdate_at d rfl ?_ (bj _) (by rw[S,aM];exact Nat.le_succ_of_le z));simp only[bne_self_eq_false,dL,if_false];have q:=h (List.range c.length) (iE _) (by
   rw[aM]at g
   match c.length,g with
   | 0,_=>exact .nil
   | 1,_=>exact List.pairwise_singleton _ _)
  rw[D2]at q;refine ba ?_;rw[S];exact q
 .rw[ag g,ag g];have u:2<=c.length:=by rw[aM]at g;lia
  obtain⟨H,W,k2⟩:=F u _ N;refine ak (di (W (λt m=>t=H/\m={ s with heap:=((s.heap.update a (Obj.mapSeq λ_=>#[])).push (seqObj "tuple" c.toArray 0)).push (seqObj "list" #[] 0) }) ⟨rfl,rfl⟩) (λt s0 U=>?_) λ_ _ x=>x.elim);obtain⟨rfl,rfl⟩:=U;obtain⟨l,Y,r,X⟩:=NG L (show 0<c.length by lia);refine ak (di (kat_run (Q:=λB m=>m={ s with heap:=((s.heap.update a (Obj.mapSeq λ_=>#[])).push (seqObj "tuple" c.toArray 0)).push (seqObj "list" #[] 0) }/\arrOf B=l.map (kas_item (c.toArray.zip c.toArray))/\failedOf B=none)
   (G:=λp m=>m={ s with heap:=((s.heap.update a (Obj.mapSeq λ_=>#[])).push (seqObj "tuple" c.toArray 0)).push (seqObj "list" #[] 0) }/\p=l)
   rfl u K (λp' B m a1 a2 V T=>⟨T.1,T.2▸a2,V⟩) ?_) ?_ λ_ _ e=>e)
  .exact ώ.val (lt:=lt) (λi j C O J hC=>k2 i j C O J hC) (QF (by lia)) ⟨rfl,Y⟩
  rintro⟨⟨⟩,B⟩ m ⟨rfl,I,hf⟩;dsimp only;have M:=kat_snds rfl I;have Z:l.toList.length=c.length:=by have:=r.length_eq;rwa [bD]at this
  rw[M];refine ak (seqEpoch_at d rfl ?_);refine ak (listUpdate_at d rfl ?_ (bj _) (by rw[aM,aa,Z];exact Nat.le_succ_of_le z));rw[hf];simp only[bne_self_eq_false,dL,if_false];refine ba (h _ r ?_);rw[f6];intro i j O J ij;have e:∀k (F:k<l.toList.length),l.toList[k]=l.getD k 0:=λk F=>by simp[Array.getD,show k<l.size by simpa using F]
  rw[e i O,e j J];exact X i j ij (by lia)
def wL(h:Heap)(l:Addr)(b:d2):Prop:=∃(a:gn)(n:Nat)(c:Option Addr)(d:Array (Option Value)),h.get? l=some { cls:=.type "list",dict:=c,data:=.seq a.toArray n,slots:=d }/\a.length=b.length/\∀j (e:j<a.length),∃t,a[j]=.int (b.getD j 0) t
def Oq(h:Heap)(q l:Addr)(b:d2):Prop:=(∃o a n,h.get? q=some o/\o.cls=.type "tuple"/\o.data=.seq (List.toArray (Value.ref l::a)) n)/\wL h l b
theorem Ka{l b:Addr}{a c:d2}{Q:Bool->Shared->Prop}(q:A.units<cLine)(t:wL s.heap l a)(o:wL s.heap b c)(e:a.length=c.length)(h:Q (Θ a c) s):wpAny (model prog w) A (oneLt' true (.ref l) (.ref b)) Q E s:=by
 obtain⟨d,n,r,p,f,z,y⟩:=t;obtain⟨i,v,k,x,m,B,u⟩:=o;rw[oneLt'_eq];simp only[if_true];refine ak (wpAny_cRoomFor q ?_);refine ak (wpAny_callSpecialIfBound?_slot ⟨_,f,rfl⟩ F.slot_list_lt (call_meets F.slot_list_lt ⟨_,f,rfl⟩ F.entry_list_lt (F.args_list_lt_2 _ _) (L1 l b d.toArray i.toArray n v r k p x (by simp;lia) a c (by simp;lia) (by simp;lia) (λj g=>?_) λj g=>?_) ⟨f,m,?_⟩))
 .simpa using y j (by simpa using g)
 .simpa using u j (by simpa using g)
 .exact cQ h
theorem Aw{l b:Addr}{d f:d2}{Q:Bool->Shared->Prop}(y:A.units<cLine)(B:wL s.heap l d)(x:wL s.heap b f)(e:d.length=f.length)(n:d≠f)(h:Q false s):wpAny (model prog w) A (eqBool (.ref l) (.ref b)) Q E s:=by
 obtain⟨i,v,I,H,o,J,r⟩:=B;obtain⟨F,D,G,L,m,K,p⟩:=x;have ne:l≠b:=λz=>n (by
  subst z;rw[o]at m;cases m;refine lQ e λj k g=>?_;obtain⟨t,a⟩:=r j (by lia);obtain⟨u,c⟩:=p j (by lia);rw[a]at c;injection c with c _
  rw[aX,aX,ao k,ao g]at c;exact c)
 have C:((List.range i.toArray.size).all λj=>decide (d.getD j 0=f.getD j 0))=false:=Bool.eq_false_iff.mpr λz=>n (by
  rw[dQ]at z;refine lQ e λj k g=>?_;have:=bN (z j (bU.mpr (by simp;lia)));rw[aX,aX,ao k,ao g]at this;exact this)
 have q:RcAt A s (.ref l) (.ref b) ((List.range i.toArray.size).all λj=>decide (d.getD j 0=f.getD j 0)):=RcAt.lists ⟨_,o,rfl,v,rfl⟩ ⟨_,m,rfl,D,rfl⟩ (by simp;lia) y λj k g=>by
  obtain⟨t,a⟩:=r j (by simpa using k);obtain⟨u,c⟩:=p j (by simpa using g);have:=EqAt.int_int (A:=A.in1) (s:=s) (d.getD j 0) t (f.getD j 0) u;rw[show(d.getD j 0==f.getD j 0)=decide (d.getD j 0=f.getD j 0)from dX.mpr (by rw[gR,fK])]at this
  simpa[a,c]using this
 rw[C]at q;exact EqAt.of_refs ne q prog w E Q h
theorem Gb{b a:Bool}{Q:Bool->Shared->Prop}(h:Q a s):∀(l:gn)(i:Nat),KatLex prog w A b a Q (l.zip l) i s
 | [],i=>h
 | v::l,i=>kat_cons (EqAt.same v prog w _ _ (kat_yes (Gb h l (i+1))))
theorem Ju{h:Heap}:∀{a:List (Addr×Addr×List Int)},(∀z∈a,Oq h z.1 z.2.1 z.2.2)->KatTups h (a.map λz=>Value.ref z.1) (a.map λz=>Value.ref z.2.1)
 | [],_=>.nil
 | z::a,hz=>by
   obtain⟨⟨o,f,n,d,b,c⟩,_⟩:=hz z (.head _);exact KatTups.cons d b c (by simp) (Ju λy e=>hz y (.tail _ e))
theorem Rg{zs:List (Addr×Addr×List Int)}{n:Nat}(u:A.units<cLine)(g:∀z∈zs,Oq s.heap z.1 z.2.1 z.2.2/\z.2.2.length=n)(D:(zs.map (·.2.2)).Nodup)(N:2<=zs.length):∃t,(∀Q:SortKind->Shared->Prop,Q t s->wpAny (model prog w) A (keyKind' (zs.map λz=>Value.ref z.1).toArray) Q (λ_ _=>False) s)/\∀i j (C:Bool->Shared->Prop),i<(zs.map λz=>Value.ref z.1).length->j<(zs.map λz=>Value.ref z.1).length->C (Θ ((zs.map (·.2.2)).getD i []) ((zs.map (·.2.2)).getD j [])) s->kas_ask prog w A t (zs.map λz=>Value.ref z.1) i j C s:=by
 refine⟨tuples' (Value.type "list" != Value.type "tuple"),λQ G=>kat_kind (Ju λz h=>(g z h).1) (by rw[aa];lia) (λv F=>?_) (by decide) G,λi j C a b l=>?_⟩
 .obtain⟨z,h,rfl⟩:=aP.mp F;obtain⟨_,T,k,S,K,o,_⟩:=(g z h).1;exact(Looks.ld o).andThen (Looks.of_pure rfl)
 .rw[aa]at a b;have e:∀i (a:i<zs.length),(zs.map λz=>Value.ref z.1).getD i Value.none=.ref (zs[i]).1/\(zs.map (·.2.2)).getD i []=(zs[i]).2.2:=λi a=>by simp[a]
  unfold kas_ask;rw[(e i a).1,(e j b).1];rw[(e i a).2,(e j b).2]at l;obtain⟨⟨⟨L,H,P,d,O,f⟩,r⟩,x⟩:=g _ (dj a);obtain⟨⟨⟨M,I,J,m,R,p⟩,y⟩,q⟩:=g _ (dj b);rw[show(Value.type "list" != Value.type "tuple")=true by decide];by_cases c:i=j
  .subst c;rw[Pb.Ϣ]at l;rw[d]at m;cases m;rw[f]at p;refine kat_lt d f d f ?_;rw[bA (cU _)];exact Gb l _ _
  .refine kat_lt d f m p (kat_cons (Aw u r y (x.trans q.symm) (λz=>c ?_) (kat_no (Ka u r y (x.trans q.symm) l))));have B:=(fS (show i<(zs.map (·.2.2)).length by rw[aa];exact a) D).mp (show(zs.map (·.2.2))[i]?=(zs.map (·.2.2))[j]? by rw[aA,aA,ao a,ao b];exact congrArg some z);exact B
end
section
variable{X:Cx}
theorem sL:∀{b:gg}{a:gn},Vals (b.map V.ref) a->a=b.map Value.ref
 | [],_,.nil=>rfl
 | q::b,_,.cons r rs=>by
   cases(show _=Value.ref q from r);rw[sL rs]
   rfl
abbrev Pz:=Addr×Addr×V×List Int
theorem EV(hv:X.A.units+64<cLine):lm X (.builtin "sorted") (λxs H Q=>∃(a:Addr)(zs:List Pz)(n:Nat),xs=[.ref a]/\H a=some (.lst (zs.map λz=>V.ref z.1))/\(∀z∈zs,H z.1=some (.tup [.ref z.2.1,z.2.2.1])/\H z.2.1=some (.lst (z.2.2.2.map V.int))/\z.2.2.2.length=n)/\zs.length<64/\(zs.map (·.2.2.2)).Nodup/\∀(l:Addr)(d:List Pz),H l=none->d.Perm zs->(d.map (·.2.2.2)).Pairwise (λa b=>Θ a b=true)->Q (.ref l) (upd H l (.lst (d.map λz=>V.ref z.1)))):=by
 intro D s σ H xs us Q I r h;obtain⟨a,zs,n,rfl,ha,hz,N,nd,q⟩:=h;obtain⟨u,rfl,ru⟩:=qY r;cases ru;obtain⟨F,rv,⟨o0,k0,g0,c0,_,d0⟩,G⟩:=I.list (ξ.of ha);rw[show zs.map (λz=>V.ref z.1)=(zs.map (·.1)).map V.ref by rw[cZ];rfl]at rv;have ei:=sL rv;rw[cZ]at ei;subst ei;have B:(zs.map (Value.ref ∘ (·.1))).length=zs.length:=aa _;refine Calls.call_function_entry kind_sorted plain_sorted entry_sorted (args_sorted1 _) ?_;unfold Builtin.«sorted»;refine ak (m:=checkCount "sorted" 1 1 _) (ba ?_);refine ak (collect_list ⟨o0,g0,c0,k0,d0⟩ ?_ (by rw[B];exact cm (by lia)));have t:∀b o,s.heap.get? b=some o->((s.heap.push (seqObj "list" #[] 0)).update s.heap.objs.size (Obj.mapSeq (·++(zs.map (Value.ref ∘ (·.1))).toArray))).get? b=some o:=λb o e=>by
  have Z:b<s.heap.objs.size:=aG e;rw[Heap.get?_update_ne _ _ _ _ (aV Z),Heap.get?_push_ne _ _ _ (aV Z)];exact e
 generalize (s.heap.push (seqObj "list" #[] 0)).update s.heap.objs.size (Obj.mapSeq (·++(zs.map (Value.ref ∘ (·.1))).toArray))=f at t ⊢;refine ak (wpAny_newList ?_ (by rw[B];exact cm (by lia)));have x:(f.push (seqObj "list" (zs.map (Value.ref ∘ (·.1))).toArray 0)).get? f.objs.size=some (seqObj "list" (zs.map (Value.ref ∘ (·.1))).toArray 0):=bf _ rfl;have J:Inv X D σ H { s with heap:=f,toks:=s.toks }:=I.kept t;have U:∀v:Heap,(∀b o,b≠f.objs.size->(f.push (seqObj "list" (zs.map (Value.ref ∘ (·.1))).toArray 0)).get? b=some o->v.get? b=some o)->∀z∈zs.map (λz:Pz=>(z.1,z.2.1,z.2.2.2)),Oq v z.1 z.2.1 z.2.2/\z.2.2.length=n:=by
  intro v T z0 G;obtain⟨z,hm,rfl⟩:=aP.mp G;obtain⟨M,L,e3⟩:=hz z hm;have kk:∀b o,f.get? b=some o->v.get? b=some o:=λb o e=>T b o (aV (aG e)) (ar _ e);obtain⟨_,F,r,o,g1,K,k,g3⟩:=(show Γ X.prog X.w H f z.1 (.tup [.ref z.2.1,z.2.2.1])from J.ψ z.1 _ M);obtain⟨_,O,S,r2,g4⟩:=(show Γ X.prog X.w H f z.2.1 (.lst (z.2.2.2.map V.int))from J.ψ z.2.1 _ L);refine⟨⟨?_,O,S,none,#[],kk _ _ (by simpa[seqObj]using g4),by rw[<-r2.length,aa],λj g=>zw r2 j g⟩,e3⟩
  match F,r with
  | [u1,u2],.cons a1 _=>
    cases(show u1=Value.ref z.2.1 from a1);exact⟨o,[u2],k,kk _ _ g1,K,g3⟩
 have P:((zs.map (λz:Pz=>(z.1,z.2.1,z.2.2.2))).map (·.2.2)).Nodup:=by rw[cZ];exact nd
 have E:∀i,i<zs.length->((zs.map (·.2.2.2)).getD i []).length=n:=λi c=>by
  rw[aX,aA,ao c];exact(hz _ (dj c)).2.2
 have W:Lin (zs.map (Value.ref ∘ (·.1))).length (λi j=>Θ ((zs.map (·.2.2.2)).getD i []) ((zs.map (·.2.2.2)).getD j [])):=by
  rw[B];refine⟨λi j c g ne e=>BL ((E i c).trans (E j g).symm) (λz=>ne ?_) e,λi j k _ _ _ M L=>Bh M L⟩;refine(fS (show i<(zs.map (·.2.2.2)).length by rw[aa];exact c) nd).mp ?_;rw[aX,aX,aA,aA,ao c,ao g]at z;rw[aA,aA,ao c,ao g];exact congrArg some z
 have em:zs.map (Value.ref ∘ (·.1))=(zs.map (λz:Pz=>(z.1,z.2.1,z.2.2.2))).map λz=>Value.ref z.1:=by rw[cZ];rfl
 refine ak (gM (gP slot_list_sort ⟨_,x,rfl⟩ entry_list_sort (Gn W x (by rw[B];exact N) (λK v T=>?_) λp R ps=>⟨_,rfl,?_⟩) (args_list_sort _)))
 .obtain⟨κ,q1,q2⟩:=Rg (prog:=X.prog) (w:=X.w) (A:=X.A.in1.in1) (s:={ s with heap:=v }) (zs:=zs.map (λz:Pz=>(z.1,z.2.1,z.2.2.2))) (n:=n) (by show X.A.units+1+1<cLine;lia) (U v T) P (by rw[aa];rw[B]at K;exact K);rw[<-em]at q1 q2;refine⟨κ,q1,λi j C c g hC=>q2 i j C c g ?_⟩;rw[cZ];exact hC
 .refine ba ⟨_,rfl,?_⟩;rw[B]at R;have y:∀i∈p,i<zs.length:=λi c=>bU.mp (R.mem_iff.mp c);obtain⟨d,Y⟩:∃d:List Pz,d=p.map λi=>zs.getD i (0,0,.ω,[]):=⟨_,rfl⟩;have yp:d.Perm zs:=by
   rw[Y];refine(R.map _).trans ?_;rw[D2]
  have yl:d.length=zs.length:=yp.length_eq;have eo:(p.map λi=>(zs.map (Value.ref ∘ (·.1))).getD i Value.none)=(d.map (·.1)).map Value.ref:=by
   rw[Y,cZ,cZ];refine bZ λi c=>?_;have c:=y i c;simp[c]
  have yo:(d.map (·.2.2.2)).Pairwise λa b=>Θ a b=true:=by
   rw[Y,cZ,fP];refine ps.imp_of_mem λ{i j} c g h=>?_;have c:=y i c;have g:=y j g;rw[aX,aX,aA,aA,ao c,ao g]at h;show Θ (zs.getD i _).2.2.2 (zs.getD j _).2.2.2=true;rw[aX,aX,ao c,ao g];exact h
  rw[eo];obtain⟨k,hk⟩:∃k,(sortedHeap (f.push (seqObj "list" (zs.map (Value.ref ∘ (·.1))).toArray 0)) f.objs.size (zs.map (Value.ref ∘ (·.1))) ((d.map (·.1)).map Value.ref).toArray).get? f.objs.size=some (seqObj "list" ((d.map (·.1)).map Value.ref).toArray k):=sortedHeap_at x;refine⟨.ref f.objs.size,_,J.laid (a:=f.objs.size) (o:=.lst (d.map λz=>V.ref z.1)) (t':=s.toks) (λb u e=>?_) (ap _) ⟨?_,(d.map (·.1)).map Value.ref,k,?_,?_⟩,rfl,q _ d (J.ψ.fresh (ap _)) yp yo⟩
  .show(sortedHeap (f.push (seqObj "list" (zs.map (Value.ref ∘ (·.1))).toArray 0)) f.objs.size (zs.map (Value.ref ∘ (·.1))) ((d.map (·.1)).map Value.ref).toArray).get? b=_;rw[sortedHeap_old (aV (aG e)) (aZ (aG e) (by rw[de];exact fE _))];exact ar _ e
  .rw[aa,yl];exact cm (by lia)
  .rw[show d.map (λz=>V.ref z.1)=(d.map (·.1)).map V.ref by rw[cZ];rfl];exact DS _
  .simpa[seqObj]using hk
theorem MV{A:Around}{s:Shared}{l b:Addr}{f g:d2}(m:A.units<cLine)(o:wL s.heap l f)(k:wL s.heap b g)(e:f.length=g.length):EqAt A s (.ref l) (.ref b) (decide (f=g)):=by
 by_cases c:f=g
 .by_cases n:l=b
  .rw[n,bh c];exact EqAt.same _
  .obtain⟨it1,n1,d1,s1,o1,l1,v1⟩:=o;obtain⟨z,x,B,D,q,C,v⟩:=k;have p:RcAt A s (.ref l) (.ref b) ((List.range it1.toArray.size).all λ_=>true):=RcAt.lists ⟨_,o1,rfl,n1,rfl⟩ ⟨_,q,rfl,x,rfl⟩ (by simp;lia) m λj y r=>by
    obtain⟨t,a⟩:=v1 j (by simpa using y);obtain⟨u,d⟩:=v j (by simpa using r);have:=EqAt.int_int (A:=A.in1) (s:=s) (f.getD j 0) t (g.getD j 0) u;rw[c,beq_self_eq_true]at this;rw[c]at a
    simpa[a,d]using this
   rw[dQ.mpr λ_ _=>rfl]at p;rw[bh c];exact EqAt.of_refs n p
 .rw[bA c];exact λi w E Q h=>Aw m o k e c h
theorem Ji{a:gf}{g:St}{H:Hp}{s:Shared}(I:Inv X a g H s){q:Addr}{z:d2}(h:H q=some (.lst (z.map V.int))):wL s.heap q z:=by
 obtain⟨_,b,c,d,e⟩:=(show Γ X.prog X.w H s.heap q (.lst (z.map V.int))from I.ψ q _ h);exact⟨b,c,none,#[],by simpa[seqObj]using e,by rw[<-d.length,aa],λj f=>zw d j f⟩
def aiS:R2:=λx y H Q=>∃(p b:Addr)(c:gg)(a:List (List Int))(w:d2),x=.ref b/\y=.ref p/\H p=some (.lst (c.map V.ref))/\Paired (λq z=>H q=some (.lst (z.map V.int))/\z.length=w.length) c a/\H b=some (.lst (w.map V.int))/\Q (.bl (decide (w∈a))) H
theorem Jn{e f:Type}{R:e->f->Prop}:∀{l:List e}{d:List f},Paired R l d->(∀p∈l.zip d,R p.1 p.2)/\(l.zip d).map (·.1)=l/\(l.zip d).map (·.2)=d
 | _,_,.nil=>⟨λ_ h=>(by cases h),rfl,rfl⟩
 | _,_,.cons h t=>by
   obtain⟨a,b,c⟩:=Jn t;refine⟨λp hp=>?_,by simp[b],by simp[c]⟩;rcases ax.mp (by simpa using hp)with rfl|hp
   .exact h
   .exact a p hp
theorem Uu(U:X.A.units+64<cLine):iS X (compareOp .In) aiS:=by
 intro z s T H x y v u Q I J N h;obtain⟨p,b,n,k,w,rfl,rfl,K,L,M,q⟩:=h;cases J;cases N;obtain⟨D,r,O,S⟩:=I.list (ξ.of K);have G:=sL r;subst G;obtain⟨m,f,i⟩:=Jn L;have o:=λ(d:Addr×List Int)(h:d∈n.zip k)=>Ji I (m d h).1
 let e:Value->Bool:=λu=>@decide (∃a,u=Value.ref a/\H a=some (.lst (w.map V.int))) (Classical.propDecidable _)
 have C:∀u,e u=true↔∃a,u=Value.ref a/\H a=some (.lst (w.map V.int)):=λu=>@decide_eq_true_iff _ (Classical.propDecidable _);refine SeqAt.in_listAt e O.isList (λy F=>?_) ⟨.bl _,H,I,rfl,?_⟩
 .have hy':y∈n.map Value.ref:=by simpa using F
  obtain⟨a,l,rfl⟩:=aP.mp hy';rw[<-f]at l;obtain⟨d,c,rfl⟩:=aP.mp l;have g:=m d c;have B:=MV (A:=X.A.in1) (s:=s) (by show X.A.units+1<cLine;lia) (o d c) (Ji I M) g.2;have E:e (.ref d.1)=decide (d.2=w):=by
   rw[dX,C,bM];refine⟨λ⟨a,P,t⟩=>?_,λh=>⟨d.1,rfl,by rw[g.1,h]⟩⟩;cases P;rw[g.1]at t;exact CL (HO.lst.inj (bi t))
  rw[E]
  first|exact B|exact EqAt.of_in1 B
 .have e2:(n.map Value.ref).toArray.any e=decide (w∈k):=by
   rw[dX,bM];simp only[List.any_toArray,lM,C]
   constructor
   .rintro⟨u,hu',a,rfl,l⟩;obtain⟨R,j,e⟩:=aP.mp hu';cases e;rw[<-f]at j;obtain⟨d,c,rfl⟩:=aP.mp j;rw[(m d c).1]at l;rw[<-CL (HO.lst.inj (bi l)),<-i];exact aP.mpr ⟨d,c,rfl⟩
   .intro h;rw[<-i]at h;obtain⟨d,c,rfl⟩:=aP.mp h;exact⟨_,aP.mpr ⟨d.1,by rw[<-f];exact aP.mpr ⟨d,c,rfl⟩,rfl⟩,d.1,rfl,(m d c).1⟩
  rw[e2];exact q
end
end L2
namespace L2
open PySem
theorem LN{X:Cx}(K:f5)(c:X.K=K)(d:X.calm=true):lm X (.builtin "sum") (λb H Q=>∃p a,b=[.ref p]/\(ξ K H p (List.map V.int a)\/Ξ K H p (List.map V.int a))/\Q (.int a.sum) H):=by
 subst c;exact vK d
end L2
namespace Pb
open L2 PySem PySem.W NumText PySem.SeqAt
abbrev Κ(H:Hp):List Addr->List (List Int)->Prop:=Paired λp z=>H p=some (.lst (z.map V.int))
theorem Κ.same{H c:Hp}{b:gg}{a:List (List Int)}(e:δ H c)(h:Κ H b a):Κ c b a:=Paired.imp' (λp z x=>e p _ x) h
theorem Κ.snoc{H:Hp}{q:Addr}{z:d2}(e:H q=some (.lst (z.map V.int))):∀{b:gg}{a:List (List Int)},Κ H b a->Κ H (b++[q]) (a++[z])
 | _,_,.nil=>.cons e .nil
 | _,_,.cons x xs=>.cons x (Κ.snoc e xs)
theorem Κ.app{H:Hp}:∀{d c:gg}{b a:List (List Int)},Κ H d b->Κ H c a->Κ H (d++c) (b++a)
 | _,_,_,_,.nil,h=>h
 | _,_,_,_,.cons x xs,h=>.cons x (Κ.app xs h)
theorem Κ.get{H:Hp}:∀{a:gg}{b:List (List Int)}{i:Nat}{x:V},Κ H a b->(a.map V.ref)[i]?=some x->∃p z,x=.ref p/\a[i]?=some p/\b[i]?=some z/\H p=some (.lst (z.map V.int))
 | _,_,0,_,.cons h _,e=>⟨_,_,(bi e).symm,rfl,rfl,h⟩
 | _,_,i+1,_,.cons _ t,e=>Κ.get (i:=i) t e
def Wv(h:Int):Nat->List (List Int)
 | 0=>[[]]
 | k+1=>(Wv h k).flatMap λa=>(b6 (h-a.sum+1).toNat).map λp=>a++[p]
def lyA(h:Int)(k:Nat):List (List Int):=(Wv h k).map λa=>a++[h-a.sum]
theorem qJ{h:Int}(i:0<=h):∀{k:Nat}{d:d2},d∈Wv h k↔d.length=k/\(∀x∈d,0<=x)/\d.sum<=h
 | 0,d=>by
   show d∈[[]]↔_;rw[aI];refine⟨λe=>by rw[e];exact⟨rfl,λx hx=>(by cases hx),i⟩,λe=>lD.mp e.1⟩
 | k+1,d=>by
   show d∈(Wv h k).flatMap _↔_;rw[dM]
   constructor
   .rintro⟨f,hr,hm⟩;obtain⟨p,g,rfl⟩:=aP.mp hm;obtain⟨a,b,c⟩:=(qJ i).mp hr;have g:=dN.mp g;refine⟨by rw[aE,a];rfl,λx hx=>?_,by rw[c9];simp;lia⟩;rcases aY.mp hx with hx|hx
    .exact b x hx
    .rw[aI.mp hx];exact g.1
   .rintro⟨a,b,c⟩;rcases fh d with rfl|⟨f,p,rfl⟩
    .cases a
    .rw[ff]at a b c ⊢;rw[aE]at a;rw[c9]at c;have c:f.sum+p<=h:=(by simpa using c);have j:=b p (aW _ (.head _));have l:0<=f.sum:=ww λx hx=>b x (bo _ hx);exact⟨f,(qJ i).mpr ⟨by simpa using a,λx hx=>b x (bo _ hx),by lia⟩,aP.mpr ⟨p,dN.mpr ⟨j,by lia⟩,rfl⟩⟩
theorem D3(h:Int):∀k,(Wv h k).Nodup
 | 0=>List.pairwise_singleton _ _
 | k+1=>by
   show List.Pairwise _ ((Wv h k).flatMap _);rw[List.pairwise_flatMap];refine⟨λa _=>?_,(D3 h k).imp λne x c y b e=>?_⟩
   .rw[fP];exact(hV _).imp λne e=>ne (by simpa using e)
   .obtain⟨p,_,rfl⟩:=aP.mp c;obtain⟨q,_,rfl⟩:=aP.mp b;exact ne (List.append_inj_left' e rfl)
theorem IY{h:Int}(e:0<=h):∀k,(Wv h k).length<=(h.toNat+1)^k
 | 0=>ap _
 | k+1=>by
   have d:=IY e k;have c:∀l:List (List Int),(∀b∈l,0<=b.sum)->(l.flatMap λb=>(b6 (h-b.sum+1).toNat).map λp=>b++[p]).length<=l.length*(h.toNat+1):=λl=>by
    induction l with
    | nil=>intro _;exact bj _
    | cons a l d=>
      intro f;have m:=f a (.head _);have j:=d λx i=>f x (.tail _ i);rw[bC,aE,aa,b7,aF,eP,jD]
      lia
   show((Wv h k).flatMap _).length<=_;refine aL (c _ λb g=>ww ((qJ e).mp g).2.1) ?_;rw[eV];exact cY _ d
theorem Cd{h:Int}(f:0<=h){k:Nat}{d:d2}:d∈lyA h k↔d.length=k+1/\(∀x∈d,0<=x)/\d.sum=h:=by
 unfold lyA;rw[aP]
 constructor
 .rintro⟨row,hr,rfl⟩;obtain⟨a,b,c⟩:=(qJ f).mp hr;refine⟨by rw[aE,a];rfl,λx hx=>?_,by rw[c9];simp;lia⟩;rcases aY.mp hx with hx|hx
  .exact b x hx
  .rw[aI.mp hx];lia
 .rintro⟨a,b,c⟩;rcases fh d with rfl|⟨e,p,rfl⟩
  .cases a
  .rw[ff]at a b c ⊢;rw[aE]at a;rw[c9]at c;have c:e.sum+p=h:=(by simpa using c);have g:=b p (aW _ (.head _));exact⟨e,(qJ f).mpr ⟨by simpa using a,λx hx=>b x (bo _ hx),by lia⟩,by rw[show h-e.sum=p by lia]⟩
theorem LH(h:Int)(k:Nat):(lyA h k).Nodup:=by
 unfold lyA;show List.Pairwise _ (List.map _ _);rw[fP];exact(D3 h k).imp λ{a b} ne (e:a++[h-a.sum]=b++[h-b.sum])=>ne (List.append_inj_left' e (by simp))
section
variable{m r w:Int}{n:hH}{d:d3}{l:fz}{q p:Int->Bool}{c:fz}{s:d2}
def XM(m:Int)(n:hH)(r:Int)(d:d3)(l:fz)(a:d2):List Int:=(bO m n r d l r).map (Φ m n r d l (λv=>a.getD v.toNat 0) (Η n d))
def Num(m:Int)(n:hH)(r:Int)(d:d3)(l:fz)(q p:Int->Bool)(c:fz)(w:Int)(b:d2)(i:Int):Prop:=(b.length:Int)=m/\∃(a f:fz)(e:d3),ϳ m n r d l q p c a f e/\(a r:Int)=w-1/\e r=i/\∀v,0<=v->v<m->b.getD v.toNat 0=if kd m n r d v=[]then(a v:Int)else 0
def YB(m:Int)(n:hH)(r:Int)(d:d3)(l:fz)(w:Int)(a:d2):Prop:=(a.length:Int)=m/\(∀x∈a,0<=x)/\a.sum=gE m n r d (dD m n r d l) w/\Φ m n r d l (λv=>a.getD v.toNat 0) (Η n d) r<w
theorem Num.about(B:Ϛ m n r d l s q p c)(g:Good m n)(R:ζ m n r d l)(f:0<=r)(k:r<m){b:d2}{i:Int}(h:Num m n r d l q p c w b i):YB m n r d l w b/\0<=i/\∃a v o,ϳ m n r d l q p c a v o/\(a r:Int)=w-1/\o r=i/\XM m n r d l b=WM m n r d l a r:=by
 obtain⟨G,a,v,o,N,t,z,y⟩:=h;have SP:=N.adP g R B.or B.hf B.hb B.hc;rw[t]at SP;have D:=SP.Φ g R y;have C:=SP.total g R y f k B.et B.or;have E:∀x∈b,0<=x:=λx F=>by
  obtain⟨i,H,rfl⟩:=List.mem_iff_getElem.mp F;have:=y (i:Int) (by lia) (by lia);rw[bJ,aX,ao H]at this;have e:b[i]=if kd m n r d (i:Int)=[]then(a (i:Int):Int)else 0:=this;rw[e];split<;>lia
 rw[Dt (by lia),show w-1+1=w by lia]at C;have A:∀u∈bO m n r d l r,0<=u/\u<m:=λu j=>((oz g R _ r f k).2 u j).1;refine⟨⟨G,E,C,by rw[D _ r rfl f k,t];lia⟩,by rw[<-z];exact(N.bd g R f k).1,a,v,o,N,t,z,?_⟩;exact bZ λu j=>D _ u rfl (A u j).1 (A u j).2
theorem YB.num(B:Ϛ m n r d l s q p c)(g:Good m n)(R:ζ m n r d l)(b:0<=r)(j:r<m){a:d2}(h:YB m n r d l w a):∃i,Num m n r d l q p c w a i:=by
 obtain⟨z,k,f,x⟩:=h;obtain⟨SP,y⟩:=MM (held:=λv=>a.getD v.toNat 0) g R b j B.et B.or (λv=>Jm k _) (by rw[Dt (by lia)];exact f) x;have e:∀v,0<=v->v<m->0<=Φ m n r d l (λv=>a.getD v.toNat 0) (Η n d) v:=λv _ _=>wY g (λv=>Jm k _) v;obtain⟨o,N⟩:=ϳ.abO g R b j B.et B.or B.hf B.hb B.hc SP e;exact⟨o r,z,_,_,o,N,by rw[br (e r b j)];exact SP.rt,rfl,λv t u=>by rw[y v t u,br (e v t u)]⟩
theorem Num.order(B:Ϛ m n r d l s q p c)(g:Good m n)(R:ζ m n r d l)(u:0<=r)(v:r<m){f t:d2}{i j:Int}(h:Num m n r d l q p c w f i)(y:Num m n r d l q p c w t j):Θ (XM m n r d l f) (XM m n r d l t)=decide (i<j)/\(f=t↔i=j)/\(XM m n r d l f=XM m n r d l t↔i=j):=by
 obtain⟨_,_,cn,gv,nb,N,V,A,J⟩:=h.about B g R u v;obtain⟨_,_,U,K,Xv,O,S,x,L⟩:=y.about B g R u v;have o:=N.order O g R (λk D z H=>by have:=(fV g R D z H).1;rw[B.hc];lia) u v (by lia);rw[A,x,<-J,<-L]at o;refine⟨o.1,⟨λe=>o.2.mp (by rw[e]),λe=>?_⟩,o.2⟩;obtain⟨xl,c1,T,W,M,f1,X,I⟩:=h;obtain⟨Y,c2,Z,n2,P,C,F,E⟩:=y;refine lQ (by lia) λk Q G=>?_;have a:=I (k:Int) (by lia) (by lia);have b:=E (k:Int) (by lia) (by lia);rw[(M.inj P g R (by lia) (by lia) _ (k:Int) rfl (by lia) (by lia)).1,<-b,bJ,aX,aX,ao Q,ao G]at a;exact a
theorem RL(B:Ϛ m n r d l s q p c)(g:Good m n)(R:ζ m n r d l)(o:0<=r)(t:r<m)(O:1<=w){k:List (List Int)}(y:∀j,j∈k↔YB m n r d l w j)(u:(k.map (XM m n r d l)).Pairwise λa b=>Θ a b=true):(k.length:Int)=wy m n r d l q p c r (w-1).toNat/\∀(i:Nat) j,k[i]?=some j->Num m n r d l q p c w j i:=by
 have ex:∀j,∃i,j∈k->Num m n r d l q p c w j i:=λj=>by
  by_cases h:j∈k
  .obtain⟨i,hi⟩:=YB.num B g R o t ((y j).mp h);exact⟨i,λ_=>hi⟩
  .exact⟨0,λz=>absurd z h⟩
 obtain⟨f,x⟩:∃f:List Int->Int,∀j∈k,Num m n r d l q p c w j (f j):=⟨λj=>(ex j).choose,λj h=>(ex j).choose_spec h⟩;have up:(k.map f).Pairwise (·<·):=by
  rw[fP]at u ⊢;refine u.imp_of_mem λ{a b} ha hb h=>?_;rw[(Num.order B g R o t (x a ha) (x b hb)).1]at h;exact bN h
 have M:=sO (fr:=q) (be:=p) (c:=c) g R _ o t (ap _) (w-1).toNat;have eq:k.map f=b6 (wy m n r d l q p c r (w-1).toNat).toNat:=by
  refine tT (gK (up.imp λh e=>by lia) (hV _) λi=>?_) (up.imp λh=>by lia) (xC _);rw[aP,dN]
  constructor
  .rintro⟨j,hx,rfl⟩;obtain⟨_,A,G,I,N,J,C,_⟩:=x j hx;have:=N.bd g R o t;rw[show A r=(w-1).toNat by lia,C]at this;exact⟨this.1,by lia⟩
  .rintro⟨i0,i1⟩;obtain⟨A,G,I,N,J,C⟩:=ϳ.ex (fr:=q) (be:=p) (c:=c) g R (z:=(w-1).toNat) o t i0 (by lia);have H:Num m n r d l q p c w ((b6 m.toNat).map λv=>if kd m n r d v=[]then(A v:Int)else 0) i:=⟨by have:=g.m1;rw[aa,b7];lia,A,G,I,N,by lia,C,λv K L=>OC (F:=λv=>if kd m n r d v=[]then(A v:Int)else 0) K L⟩;have E:=(y _).mpr (H.about B g R o t).1;exact⟨_,E,((Num.order B g R o t (x _ E) H).2.1.mp rfl)⟩
 have D:=congrArg List.length eq;rw[aa,b7]at D;refine⟨by lia,λi j h=>?_⟩;have P:=(az.mp h).1;have e:(k.map f)[i]?=some (i:Int):=by rw[eq,fN (by lia)]
 rw[aA,h]at e;have e:f j=i:=bi e;have:=x j (aQ h);rw[e]at this;exact this
end
end Pb
namespace Pb
open L2 PySem
def wdA:Nat->Str
 | 0=>"place"
 | 1=>"wish"
 | _=>"step"
abbrev TS(H:Hp):List Addr->List (Str×Nat)->Prop:=Paired λq p=>H q=some (.tup [.str p.1,.str (wdA p.2)])
end Pb
set_option maxHeartbeats 4000000
namespace Pk
open PySem L2 Pb
seal L2.X7 L2.PS L2.PE L2.PT L2.PW L2.PA L2.PG L2.PGs L2.PI L2.PTs L2.PC L2.PPs L2.PO
abbrev top(i:Nat):Stmt:=Hd.top i
local macro_rules|`(tactic| walk_at "") => `(tactic| ((try dsimp only [abA, Lf, DR, Ig, DK, OU, JK, NL, Kn, JT, JS, OQ, Op, Lx, DQ, QZ, K6, Ze, Dg, vC, J0, Kh, abm, NC, Kz, NO, ipI, Nt, JL, Al, tB, AY, tC, wD, tOp, tUn, ZO, rI, rU, rEq, rNe, vc, KN, KM, abp, O4, Pu, tCB, tBM, QD, NN, Qi, O7, CB, Ld, Kr, EJ, wX, Yc, Yd, Nq, tOr, P5, Lb, KR, List.nil_append, List.append_nil, List.set_cons_zero, List.set_cons_succ, List.getElem?_cons_zero, List.getElem?_cons_succ]);(try simp only [abA, Lf, DR, Ig, DK, OU, JK, NL, Kn, JT, JS, OQ, Op, Lx, DQ, QZ, K6, Ze, Dg, vC, J0, Kh, abm, NC, Kz, NO, ipI, Nt, JL, Al, tB, AY, tC, wD, tOp, tUn, ZO, rI, rU, rEq, rNe, Rc, Rn, RH, Sf, Sg, RY, vc, KN, KM, abp, O4, Pu, tCB, tBM, QD, NN, Qi, O7, CB, Ld, Kr, EJ, wX, Yc, Yd, Nq, tOr, P5, Lb, KR, List.nil_append, List.append_nil, List.set_cons_zero, List.set_cons_succ, List.getElem?_cons_zero, List.getElem?_cons_succ, Option.some.injEq, V.int.injEq, V.bl.injEq, V.ref.injEq, List.cons.injEq, exists_eq_left, exists_eq_left', exists_and_left, exists_const, and_true, true_and, decide_eq_true_eq, Bool.not_eq_true', decide_eq_false_iff_not, Bool.true_eq_false, Bool.false_eq_true, if_true, if_false])))
local macro_rules|`(tactic| walk_at "v") => `(tactic| (intro _ _ _ _ h;first|(cases h;(have q := ‹_ = _ /\ _›);rw [q.1];rfl)|((repeat (obtain ⟨_, h⟩ := h));subst_vars;rfl)))
local macro_rules|`(tactic| walk_at "s") => `(tactic| simp only [L2.start, List.map_cons, List.map_nil, List.length_cons, List.length_nil, Nat.reduceAdd, Nat.reduceSub, List.replicate_succ, List.replicate_zero, List.cons_append, List.nil_append])
set_option genSizeOf false in
set_option genInjectivity false in
structure Txt(K:f5)(mg:gw) where
 NoPlace:Addr
 Lu:mg "NoPlace"=some (.ref NoPlace)
 NoRoad:Addr
 Ob:mg "NoRoad"=some (.ref NoRoad)
 BadLaying:Addr
 G3:mg "BadLaying"=some (.ref BadLaying)
 BadWish:Addr
 Lj:mg "BadWish"=some (.ref BadWish)
 TooMany:Addr
 LK:mg "TooMany"=some (.ref TooMany)
 NoNumber:Addr
 BN:mg "NoNumber"=some (.ref NoNumber)
 Web:Addr
 Vz:mg "Web"=some (.ref Web)
 Tally:Addr
 Dl:mg "Tally"=some (.ref Tally)
 wG:pX K NoPlace
 zR:pX K NoRoad
 uu:pX K BadLaying
 xJ:pX K BadWish
 wE:pX K TooMany
 rY:pX K NoNumber
 range:mg "range"=none
 zip:mg "zip"=none
 len:mg "len"=none
 isinstance:mg "isinstance"=none
 all:mg "all"=none
 int:mg "int"=none
 bool:mg "bool"=none
 tuple:mg "tuple"=none
 list:mg "list"=none
 reversed:mg "reversed"=none
 sorted:mg "sorted"=none
 min:mg "min"=none
 max:mg "max"=none
 enumerate:mg "enumerate"=none
 sum:mg "sum"=none
 str:mg "str"=none
 set:mg "set"=none
 WN:∃t,mg "MOST_PLACES"=some (.int 24 t)
 Xl:∃t,mg "LEAST_TOLL"=some (.int 2 t)
 XN:∃t,mg "MOST_TOLL"=some (.int 1000000 t)
 Ww:∃t,mg "MOST_PEBBLES"=some (.int 1000000000000 t)
 lI:Z3 K Web
 ϕ:Ψ K Web "many"
 Xm:Ψ K Web "roads"
 cW:Z3 K Tally
 RW:Ψ K Tally "web"
 uL:Ψ K Tally "down"
 W8:Ψ K Tally "weights"
 tV:Ψ K Tally "bearers"
 rz:Ψ K Tally "kids"
 ϴ:Ψ K Tally "rests"
section
variable{P:Program}{w:World}{K:f5}{X:gw}{base:Heap}{CX:Xa}
def tW(T:Txt K X):Sp:=λb H Q _=>E3 λ(m:Int)(t:Addr)(a:List V)=>b=[.int m,.ref t]/\Ξ K H t a/\1<=m/\m<=24/\(a.length:Int)=m-1/\Q .ω H
abbrev lY:Stmt:=top 18
theorem AD:η ["many","roads"] ["many","roads"] (aK lY):=.of
theorem mH:Ϝ (aK lY) "MOST_PLACES":=.of (by kernel_rfl)
theorem Bo(T:Txt K X)(f:cg (Ε P w)):Ok P w K X base "check_counts" lY ["many","roads"] 1 (tW T):=λ_ _ D=>by
 refine D.F.Ϙ AD (by walk_at "v") λo A a s H l Q E i h=>?_;obtain⟨m,t,b,rfl,c,e,j,n,k⟩:=h;refine⟨_,(aD (eK (kK (zS vS vS aU (ε 0) (vB mH.g T.WN (hd:=mH.d)))) (aO qM) dy) (aO (eK (Ϻ sj (W4 kG T.len (ah (ε 1) aB)) (bn iB (ε 0) aU)) (aO qM) dy))),?_⟩;walk_at "s";walk_at "";rw[aj e,ag (by lia)];exact⟨b,.inr c,by rw[ag (by lia)];exact k⟩
def ui(T:Txt K X):Sp:=λa H Q _=>∃m n:Int,a=[.int m,.int n]/\Q (.bl (decide (0<=n)&&decide (n<m))) H
abbrev p8:Stmt:=top 17
theorem G6:η ["many","number"] ["many","number"] (aK p8):=.of
theorem HB(T:Txt K X)(b:cg (Ε P w)):Ok P w K X base "is_place" p8 ["many","number"] 1 (ui T):=λ_ _ D=>by
 refine D.F.Ϙ G6 (by walk_at "v") λf A a s H e Q E d h=>?_;obtain⟨m,n,rfl,k⟩:=h;refine⟨_,(aO (bR (Nj vS pY aU (ε 1) (ε 0)))),?_⟩;walk_at "s";walk_at "";by_cases c:0<=n
 .simpa[c]using k
 .simpa[c]using k
def vU(T:Txt K X):Sp:=λc H Q _=>E3 λ(m:Int)(p:Addr)(r:Road)=>c=[.int m,.ref p]/\H p=some (.tup (lu r))/\0<=r.a/\r.a<m/\0<=r.b/\r.b<m/\r.a≠r.b/\Q .ω H
abbrev p7:Stmt:=top 19
theorem Ek:η ["many","road"] ["many","road"] (aK p7):=.of
theorem Ew(T:Txt K X)(e:cg (Ε P w))(g:Cb P w K X base "is_place" p8 ["many","number"] 1 (ui T)):Ok P w K X base "check_ends" p7 ["many","road"] 2 (vU T):=λ_ _ D=>by
 refine D.F.Ϙ Ek (by walk_at "v") λq A d s H o Q E f h=>?_;obtain⟨m,p,r,rfl,c,i,j,l,n,ne,k⟩:=h;refine⟨_,(aD (eK (PW.pt (BS (kK (mq (Ν g f e (ah (ε 0) (ah (Ι jv (ε 1) aU) aB))))) (wI (kK (mq (Ν g f e (ah (ε 0) (ah (Ι jv (ε 1) aU) aB)))))))) (aO qM) dy) (aO (eK (Ϻ jX (Ι jv (ε 1) aU) (Ι jv (ε 1) aU)) (aO qM) dy))),?_⟩;walk_at "s";walk_at "";refine WZ c rfl ⟨m,r.a,rfl,_,rfl,?_⟩;rw[ag (by simp[i,j])];refine WZ c rfl ⟨m,r.b,rfl,_,rfl,?_⟩;rw[ag (by simp[l,n])];refine WZ c rfl (WZ c rfl ⟨rfl,?_⟩);rw[ag (by simpa using ne)];exact k
def rE(T:Txt K X):Sp:=λd H Q _=>E4 λ(t:Addr)(c:gg)(a:hH)(n:Int)=>d=[.ref t,.int n]/\Ξ K H t (c.map V.ref)/\ν H c a/\a.length<=1000/\∀l b,H l=none->δ H b->b l=some (.lst ((gi a n).map V.int))->Q (.ref l) b
abbrev nQ:Stmt:=top 22
theorem Eu:η ["roads","place","ends","road"] ["roads","place"] (aK nQ):=.of
theorem D4(T:Txt K X)(R:cg (Ε P w)):Ok P w K X base "other_ends" nQ ["roads","place"] 1 (rE T):=λ_ _ D=>by
 refine D.F.Ϙ Eu (by walk_at "v") λΑ A G s H W Q E S h=>?_;obtain⟨t,N,c,n,rfl,J,M,Y,k⟩:=h;refine⟨_,(aD (Δ 2 (eD aB)) (aD (fm PassesOwn.never rfl (uT (ε 0)) (ϒ 3) (aD (eK (Ϻ jX (Ι jv (ε 3) aU) (ε 1)) (aO (dz (iR PySem.F.plainAttrs_list PySem.F.slot_list_append PySem.F.type_list_append fM (ε 2) (ah (Ι jv (ε 3) aU) aB)))) dy) (aO (eK (Ϻ jX (Ι jv (ε 3) aU) (ε 1)) (aO (dz (iR PySem.F.plainAttrs_list PySem.F.slot_list_append PySem.F.type_list_append fM (ε 2) (ah (Ι jv (ε 3) aU) aB)))) dy)))) (aO (bR (ε 2))))),?_⟩;walk_at "s";walk_at "";refine⟨by decide,λl m=>?_⟩;have j:N.length=c.length:=Paired.length M;refine⟨⟨_,δ.tup (δ.new _ m) J⟩,B5 (xs:=N.map V.ref) (λi B y=>y=upd H l (.lst ((gi (c.take i) n).map V.int))/\∃v,B=[some (.ref t),some (.int n),some (.ref l),v]) ⟨rfl,_,rfl⟩ (λi B y _ z=>by rw[z.1];exact δ.tup (δ.new _ m) J) ?_ ?_⟩
 .rintro i x B y hi ⟨rfl,v,rfl⟩;obtain⟨p,r,rfl,h1,I,L⟩:=M.get hi;have O:p≠l:=cq L m;have U:i<c.length:=(az.mp I).1;have u:c.take (i+1)=c.take i++[r]:=by rw[bK,I];rfl
  have Z:(gi (c.take i) n).length<=2000:=aL (EW _ _) (by rw[bq];lia);have g:∀o,upd H l o p=some (.tup (lu r)):=λo=>by rw[aR O];exact L
  walk_at "";refine WZ (g _) rfl ?_;walk_at "";have d:∀(C:d2),(gi (c.take i) n++C)=gi (c.take (i+1)) n->upd H l (.lst ((gi (c.take i) n).map V.int++C.map V.int))=upd H l (.lst ((gi (c.take (i+1)) n).map V.int)):=λC e=>by
   rw[<-aw,e]
  have q:t7 n r=(if r.a=n then[r.b]else[])++(if r.b=n then[r.a]else[]):=rfl;by_cases f:r.a=n
  .rw[aj f];refine⟨Io ay,WZ (g _) rfl (oZ ay (d4 (by rw[aa];lia)) ?_)⟩;rw[sB];refine WZ (g _) rfl ?_;walk_at "";by_cases cb:r.b=n
   .rw[aj cb];refine⟨Io ay,WZ (g _) rfl (oZ ay (d4 (by rw[aE,aa];simp;lia)) ?_)⟩;rw[sB,bX];exact⟨d [r.b,r.a] (by rw[u,tP,q,aj f,aj cb];rfl),_,rfl⟩
   .rw[ag cb];exact⟨d [r.b] (by rw[u,tP,q,aj f,ag cb];rfl),_,rfl⟩
  .rw[ag f];refine WZ (g _) rfl ?_;walk_at "";by_cases cb:r.b=n
   .rw[aj cb];refine⟨Io ay,WZ (g _) rfl (oZ ay (d4 (by rw[aa];lia)) ?_)⟩;rw[sB];exact⟨d [r.a] (by rw[u,tP,q,ag f,aj cb];rfl),_,rfl⟩
   .rw[ag cb];have:=d [] (by rw[u,tP,q,ag f,ag cb];rfl);rw[d7,bH]at this;exact⟨this,_,rfl⟩
 .rintro B y ⟨rfl,v,rfl⟩;rw[aa,j,bx];exact⟨_,rfl,k l _ m (δ.new _ m) ay⟩
def nW(a:d2):List (Key×V):=a.map λk=>((Sum.inl k:Key),V.bl true)
theorem Dx(a:d2):(nW a).length=a.length:=by unfold nW;rw[aa]
theorem FC(a:d2)(e:Int):gj (nW a) (Sum.inl e:Key)=if e∈a then some (V.bl true)else none:=by
 unfold nW
 induction a with
 | nil=>rfl
 | cons k a ih=>
   rw[aq];by_cases c:k=e
   .rw[jc (by rw[c]),aj (by rw[c];exact aJ)]
   .rw[je (λz=>c (Sum.inl.inj z)),ih];by_cases d:e∈a
    .rw[aj d,aj (aH _ d)]
    .rw[ag d,ag (λz=>by rcases ax.mp z with z|z;exact c z.symm;exact d z)]
theorem QJ{a:d2}{e:Int}(h:e∉a):iJ (nW a) (Sum.inl e:Key) (V.bl true)=nW (a++[e]):=by
 rw[FO _ (by rw[FC,ag h])];unfold nW;rw[aw]
 rfl
def tL(T:Txt K X):Sp:=λd H Q _=>E4 λ(m:Int)(t:Addr)(a:gg)(b:hH)=>d=[.int m,.ref t]/\Ξ K H t (a.map V.ref)/\ν H a b/\Good m b/\∀c,δ H c->Q .ω c
abbrev oj:Stmt:=top 21
theorem Bu:η ["many","roads","reached","waiting","place","end"] ["many","roads"] (aK oj):=.of
theorem AW(T:Txt K X)(hq:cg (Ε P w))(mh:Cb P w K X base "other_ends" nQ ["roads","place"] 1 (rE T)):Ok P w K X base "check_joined" oj ["many","roads"] 2 (tL T):=λ_ _ D=>by
 refine D.F.Ϙ Bu (by walk_at "v") λΑ A ad s H vs Q E hr h=>?_;obtain⟨m,t,ps,u,rfl,ht,hp,g,k⟩:=h;have hu:=rR hr;refine⟨_,(aD (Δ 2 (Jv (GP aU rV Ir) rfl rfl (List.cons_ne_nil _ _) (by decide))) (aD (Δ 3 (eD (ah aU aB))) (aD (o9 PassesOwn.never (sI (ε 3) (λ_=>rfl)) (aD (Δ 4 (Af PySem.F.plainAttrs_list PySem.F.slot_list_pop PySem.F.type_list_pop Be (ε 3))) (aO (fm PassesOwn.never rfl (g6 (Ν mh hr hq (ah (ε 1) (ah (ε 4) aB)))) (ϒ 5) (aO (eK (Fb (Lq hu (ε 5) (ε 2))) (aD (xO hu (ε 2) (ε 5) rV rfl) (aO (dz (iR PySem.F.plainAttrs_list PySem.F.slot_list_append PySem.F.type_list_append fM (ε 3) (ah (ε 5) aB))))) dy)))))) (aO (eK (Ϻ sj (W4 Na T.len (ah (ε 2) aB)) (ε 0)) (aO qM) dy))))),?_⟩;walk_at "s";have m1:=g.m1;have Ο:=g.Ο;have be:=g.len;walk_at "";intro d hd;refine⟨ay,[(Sum.inl 0,.bl true)],rfl,by decide,?_⟩;rw[sB];refine⟨by decide,λr S=>?_⟩;have ed:jS [] [((Sum.inl 0:Key),V.bl true)]=nW [0]:=rfl;rw[ed];have y:r≠d:=λz=>by rw[z,ay]at S;cases S
 have R:H r=none:=by rw[aR y]at S;exact S
 refine u9 (λn I U=>E4 λ(B N:d2)(v4 L:Option V)=>n=2*(m.toNat-B.length)+N.length/\I=[some (.int m),some (.ref t),some (.ref d),some (.ref r),v4,L]/\δ H U/\U d=some (.dK (nW B))/\U r=some (.lst (N.map V.int))/\XD m u B N) _ ⟨[0],[0],none,none,rfl,rfl,?_,?_,ay,XD.start m1⟩ ?_
 .exact δ.trans (δ.new _ hd) (δ.new _ S)
 .rw[aR y.symm,ay]
 rintro n I U NW hN Xi ⟨B,N,v4,L,rfl,rfl,sm,Z,O,J⟩;have kl:=fC (by lia) J.nd J.Χ;refine⟨_,rfl,!(N.map V.int).isEmpty,.inl ⟨_,ξ.of O,rfl⟩,?_⟩;rcases fh N with rfl|⟨j,p,rfl⟩
 .-- nothing adS: all places have bm reached
  have al:=J.all m1 g.jn;refine TC ?_;walk_at "";refine⟨nW B,Z,?_⟩;rw[Dx,ag (by lia)];exact k _ sm
 .rw[ff]at J O hN Xi ⊢;have e1:(!(List.map V.int (j++[p])).isEmpty)=true:=by simp
  rw[e1];refine Us ⟨NW,Xi,?_⟩;walk_at "";rw[aw,aq,d7]at O;refine⟨Io O,JI O ?_⟩;have G:d≠r:=y.symm;have v:δ H (upd U r (.lst (j.map V.int))):=λb o e=>by rw[aR (cq e R)];exact sm b o e
  refine⟨t,ps,u,p,rfl,δ.tup v ht,ν.same v hp,by lia,λl H3 hn s3 hl=>?_⟩;have Y:r≠l:=cq (o:=.lst (j.map V.int)) ay hn;have ae:d≠l:=cq (o:=.dK (nW B)) (by rw[aR G];exact Z) hn;have a8:H l=none:=v.free hn;refine⟨l,rfl,⟨_,ξ.of hl⟩,xp (K:=K) (xs:=(gi u p).map V.int) (λi I C=>∃(L:Option V),I=[some (.int m),some (.ref t),some (.ref d),some (.ref r),some (.int p),L]/\δ H C/\C l=some (.lst ((gi u p).map V.int))/\∃a f:List Int,C d=some (.dK (nW a))/\C r=some (.lst (f.map V.int))/\Xh m u p ((gi u p).take i) a f B j.length) ?_ (λi I C _ z=>by obtain⟨_,_,_,z,_⟩:=z;exact ξ.of z) ?_ ?_⟩
  .refine⟨_,rfl,v.trans s3,hl,B,j,?_,?_,?_⟩
   .exact s3 _ _ (by rw[aR G];exact Z)
   .exact s3 _ _ ay
   .rw[eY];exact Xh.start J
  .rintro i x I C NI hI hi ⟨L,rfl,s4,hl4,a,f,hd4,hw4,M⟩;rw[aA]at hi;obtain⟨e,he,rfl⟩:∃e,(gi u p)[i]?=some e/\V.int e=x:=by
    cases q:(gi u p)[i]? with
    | none=>rw[q]at hi;cases hi
    | some e=>rw[q]at hi;exact⟨e,rfl,bi hi⟩
   have er:=QQ g.ok (aQ he);have et:(gi u p).take (i+1)=(gi u p).take i++[e]:=(by rw[bK,he];rfl);have st:=M.step er.1 er.2;have k4:=fC (by lia) M.nd M.Χ;have ab:=M.mu;walk_at "";refine⟨_,ϵ.k (k:=Sum.inl e) hd4,?_⟩;rw[FC];by_cases c:e∈a
   .rw[aj c];rw[ag (by simp)];refine hI _ _ ⟨_,rfl,s4,hl4,a,f,hd4,hw4,?_⟩;rw[et];unfold Ay at st;rw[aj c]at st;exact st
   .rw[ag c];rw[aj (by simp)];refine⟨_,WK.k (k:=Sum.inl e) hd4 (d4 (by rw[Dx];lia)),?_⟩;rw[QJ c];have W:upd C d (.dK (nW (a++[e]))) r=some (.lst (f.map V.int)):=(by rw[aR y];exact hw4);refine⟨Io W,oZ W (d4 (by rw[aa];have:=M.wl;lia)) ?_⟩;have bp:=M.mu;refine hI _ _ ⟨_,rfl,λb o z=>?_,?_,a++[e],f++[e],?_,?_,?_⟩
    .rw[aR (cq z R),aR (cq z hd)];exact s4 b o z
    .rw[aR Y.symm,aR ae.symm];exact hl4
    .rw[aR G,ay]
    .rw[ay,aw];rfl
    .rw[et];unfold Ay at st;rw[ag c]at st;exact st
  .rintro I C ⟨L,rfl,s4,hl4,a,f,hd4,hw4,M⟩;rw[aa,bx]at M;have k4:=fC (by lia) M.nd M.Χ;have ab:=M.mu;have a3:=M.up;refine hN _ _ _ ?_ ⟨a,f,some (.int p),L,rfl,rfl,s4,hd4,hw4,M.done⟩;rw[aE];simp only[aF,dU]
   lia
def uG(T:Txt K X):Sp:=λb H Q _=>∃(p:Addr)(r:Road),b=[.ref p]/\H p=some (.tup (lu r))/\2<=r.t/\r.t<=1000000/\2<=r.u/\r.u<=1000000/\∀a,δ H a->Q .ω a
abbrev kX:Stmt:=top 20
theorem De:η ["road","number"] ["road"] (aK kX):=.of
theorem nC:Ϝ (aK kX) "LEAST_TOLL":=.of (by kernel_rfl)
theorem nF:Ϝ (aK kX) "MOST_TOLL":=.of (by kernel_rfl)
theorem CD(T:Txt K X)(G:cg (Ε P w)):Ok P w K X base "check_tolls" kX ["road"] 1 (uG T):=λ_ _ D=>by
 refine D.F.Ϙ De (by walk_at "v") λM A c s H L Q E I h=>?_;obtain⟨p,r,rfl,f,m,j,l,o,k⟩:=h;refine⟨_,(aO (fm PassesOwn.never rfl (uT (jT (ah (Ι jv (ε 0) aU) (ah (Ι jv (ε 0) aU) aB)))) (ϒ 1) (aO (eK (kK (zS vS vS (vB nC.g T.Xl (hd:=nC.d)) (ε 1) (vB nF.g T.XN (hd:=nF.d)))) (aO qM) dy)))),?_⟩;walk_at "s";walk_at "";refine WZ f rfl (WZ f rfl ⟨cm (by simp),λq B=>?_⟩);have e:upd H q (.tup [.int r.t,.int r.u]) q=some (.tup [.int r.t,.int r.u]):=ay;refine⟨⟨_,Ξ.of e⟩,B5 (K:=K) (xs:=[.int r.t,.int r.u]) (λi b a=>a=upd H q (.tup [.int r.t,.int r.u])/\∃v,b=[some (.ref p),v]) ⟨rfl,_,rfl⟩ (λi b a _ z=>by rw[z.1];exact Ξ.of e) ?_ ?_⟩
 .rintro i x b a hi ⟨rfl,v,rfl⟩;have y:∃n:Int,x=.int n/\2<=n/\n<=1000000:=by
   match i,hi with
   | 0,hi=>exact⟨r.t,by simpa using hi.symm,m,j⟩
   | 1,hi=>exact⟨r.u,by simpa using hi.symm,l,o⟩
  obtain⟨n,rfl,C,J⟩:=y;walk_at "";rw[aj C,ag (by lia)];exact⟨_,rfl⟩
 .rintro b a ⟨rfl,v,rfl⟩;exact k _ (δ.new _ B)
def AZ(m:Int)(t:Addr):List (Str×V):=bF "roads" (.ref t) (bF "many" (.int m) [])
theorem VF:¬(("many":Str)="roads"):=by decide +kernel
theorem jY(m:Int)(t:Addr):(AZ m t).lookup ("many":Str)=some (.int m):=by
 unfold AZ;rw[cI,ag VF,cI,aj rfl]
theorem yC(m:Int)(t:Addr):(AZ m t).lookup ("roads":Str)=some (.ref t):=by
 unfold AZ;rw[cI,aj rfl]
structure χ(C:Addr)(H:Hp)(p:Addr)(m:Int)(t:Addr)(ps:gg)(rs:hH):Prop where
 ob:∃dx,H p=some (.ins C dx (AZ m t))
 tu:H t=some (.tup (ps.map V.ref))
 ro:ν H ps rs
 go:Good m rs
theorem χ.same{C:Addr}{H c:Hp}{p:Addr}{m:Int}{t:Addr}{a:gg}{b:hH}(e:δ H c)(h:χ C H p m t a b):χ C c p m t a b:=⟨let ⟨dx,q⟩:=h.ob;⟨dx,e _ _ q⟩,e _ _ h.tu,ν.same e h.ro,h.go⟩
def qf(T:Txt K X):Sp:=λg H Q _=>E7 λ(p h:Addr)(m:Int)(c:Bool)(a:Addr)(d:gg)(e:hH)=>g=[.ref p,.int m,.ref a]/\H p=some (.ins T.Web h [])/\Ϫ K c H a (d.map V.ref)/\ν H d e/\Good m e/\∀t f,H t=none->χ T.Web f p m t d e->(∀b o,H b=some o->b≠p->f b=some o)->Q .ω f
abbrev jd:Stmt:=Jw (top 13) 0
theorem Bf:η ["self","many","roads","kept","road"] ["self","many","roads"] (aK jd):=.of
theorem BR(T:Txt K X)(u:cg (Ε P w)){f:Addr}{fd:FuncData}(F:Ye K "__init__" "Web.__init__" jd f fd)(qv:Cb P w K X base "check_counts" lY ["many","roads"] 1 (tW T))(sM:Cb P w K X base "check_ends" p7 ["many","road"] 2 (vU T))(qo:Cb P w K X base "check_joined" oj ["many","roads"] 2 (tL T))(rF:Cb P w K X base "check_tolls" kX ["road"] 1 (uG T)):ϓ P w K X base (Ε P w) 3 f fd ["self","many","roads"] (qf T):=by
 refine F.Ϙ Bf (by walk_at "v") λΑ A R s H vs Q E G h=>?_;obtain⟨p,Z,m,c,a,d,rs,rfl,Y,ha,j,g,k⟩:=h;refine⟨_,(aD (Δ 3 (Y8 oU T.tuple (ah (gW rfl (tj (Nc:=["road"]) 1 (by decide +kernel) (by decide +kernel) rfl (by decide +kernel) rfl) (LV c (ε 2)) (λ_ _ _ _=>(fj (i:=0) (show(["road"]:gy).Nodup from by decide +kernel) rfl (Or.inl rfl))) (λ_ _ _ _=>jh) (λ_ _ _ _=>(DA (B9 K rfl) (by rfl) T.tuple Fo (ah (pv 0) aB)))) aB))) (aD (dz (Ν qv G u (ah (ε 1) (ah (ε 3) aB)))) (aD (fm PassesOwn.never rfl (uT (ε 3)) (ϒ 4) (aD (dz (Ν sM G u (ah (ε 1) (ah (ε 4) aB)))) (aO (dz (Ν rF G u (ah (ε 4) aB)))))) (aD (dz (Ν qo G u (ah (ε 1) (ah (ε 3) aB)))) (aD (rj (ε 0) (ε 1) rfl) (aO (rj (ε 0) (ε 3) rfl))))))),?_⟩;walk_at "s";walk_at "";refine⟨⟨_,ha⟩,λl M=>?_⟩;have ad:d.length=rs.length:=Paired.length j;have a2:=g.len;have Ο:=g.Ο;have a3:δ H (upd H l (.lst [])):=δ.new _ M;refine lO (K:=K) (xs:=d.map V.ref) (λi I n O=>O=upd H l (.lst ((d.take i).map V.ref))/\I=(d.take i).map V.ref/\∃v,n=[v]) ⟨rfl,rfl,_,rfl⟩ (λi I n O _ ⟨z,_⟩=>by rw[z];exact δ.WX (δ.new _ M) ha) ?_ ?_
 .rintro i x I n O N hN hi ⟨rfl,rfl,v,rfl⟩;obtain⟨q,r,rfl,h1,h2,D⟩:=j.get hi;have nq:q≠l:=cq D M;have Yt:i<d.length:=(az.mp h1).1;have et:d.take (i+1)=d.take i++[q]:=by rw[bK,h1];rfl
  walk_at "";refine⟨lu r,.inr ⟨Ξ.of (by rw[aR nq];exact D),ay,d4 (by rw[aa,bq];lia),hN _ _ _ ⟨?_,?_,_,rfl⟩⟩⟩
  .rw[sB,et,aw];rfl
  .rw[et,aw];rfl
 .rintro I n O ⟨rfl,rfl,v,rfl⟩;rw[aa,bx];refine⟨l,rfl,d.map V.ref,.inl ⟨ξ.of ay,λt ht=>?_⟩⟩;have W:δ H (upd H l (.lst (d.map V.ref))):=δ.new _ M;have s2:δ (upd H l (.lst (d.map V.ref))) (upd (upd H l (.lst (d.map V.ref))) t (.tup (d.map V.ref))):=δ.new _ ht;have y:H t=none:=W.free ht;have B:∀{H':Hp},δ (upd (upd H l (.lst (d.map V.ref))) t (.tup (d.map V.ref))) H'->H' t=some (.tup (d.map V.ref)):=λe=>e _ _ ay;refine⟨m,t,d.map V.ref,rfl,Ξ.of ay,g.m1,g.Ο,by rw[aa];lia,⟨_,Ξ.of ay⟩,?_⟩;refine FG (K:=K) (xs:=d.map V.ref) (λi n J=>δ (upd (upd H l (.lst (d.map V.ref))) t (.tup (d.map V.ref))) J/\∃v,n=[some (.ref p),some (.int m),some (.ref a),some (.ref t),v]) ⟨δ.refl _,_,rfl⟩ (λi n J _ ⟨z,_⟩=>Ξ.of (B z)) ?_ ?_
  .rintro i x n J N hN hi ⟨s3,v,rfl⟩;have C:=W.trans (s2.trans s3);obtain⟨q,r,rfl,h1,h2,D⟩:=j.get hi;have ok:=g.ok r (aQ h2);walk_at "";refine⟨m,q,r,rfl,C _ _ D,ok.a0,ok.a1,ok.b0,ok.b1,ok.ne,?_⟩;exact⟨q,r,rfl,C _ _ D,ok.t0,ok.t1,ok.u0,ok.u1,λH4 L=>hN _ _ ⟨s3.trans L,_,rfl⟩⟩
  .rintro n J ⟨s3,v,rfl⟩;have C:=W.trans (s2.trans s3);walk_at "";refine⟨m,t,d,rs,rfl,Ξ.of (B s3),ν.same C j,g,λH4 L=>?_⟩;have U:=C.trans L;have S:t≠p:=λz=>by rw[z,Y]at y;cases y
   refine⟨T.Web,Z,[],U _ _ Y,T.lI,T.ϕ,by decide,?_⟩;refine⟨T.Web,Z,_,ay,T.lI,T.Xm,by show 1<1000;decide,?_⟩;rw[sB];refine k t _ y ⟨⟨Z,ay⟩,?_,?_,g⟩ λb o hb nb=>?_
   .rw[aR S];exact B (s3.trans L)
   .refine Paired.imp' (λq r u=>?_) j;rw[aR (gU u Y (by intro z;cases z))];exact U _ _ u
   .rw[aR nb];exact U _ _ hb
theorem Ug(T:Txt K X){H:Hp}{m:Int}{c:Bool}{a:Addr}{i:gg}{j:hH}{Q:Addr->Hp->Prop}(u:Ϫ K c H a (i.map V.ref))(q:ν H i j)(g:Good m j)(k:∀x t f,H x=none->H t=none->δ H f->χ T.Web f x m t i j->Q x f):∀x d,H x=none->H d=none->d≠x->qf T [.ref x,.int m,.ref a] (upd (upd H d (.own x)) x (.ins T.Web d [])) (λv s=>v=.ω/\Q x s) E0:=by
 intro x d p l ne;have n:upd H d (.own x) x=none:=by rw[aR ne.symm];exact p
 have h:δ H (upd (upd H d (.own x)) x (.ins T.Web d [])):=(δ.new _ l).trans (δ.new _ n);exact⟨x,d,m,c,a,i,j,rfl,ay,δ.WX h u,ν.same h q,g,λt f r W y=>⟨rfl,k x t f p (h.free r) (λb o e=>y b o (h b o e) (cq e p)) W⟩⟩
def RF(H:Hp)(d:Addr)(e:hH)(n:Nat):Prop:=∃c,H d=some (.dT c)/\(c.length<=2*n/\∀p∈c,∃a b:Int,p.1=[.inl a,.inl b])/\∀a b:Int,(∀i x,i<n->e[i]?=some x->rX x a b->gj c [.inl a,.inl b]=(iW a b x).map V.int)/\((∀i x,i<n->e[i]?=some x->¬rX x a b)->gj c [.inl a,.inl b]=none)
structure ϧ(H:Hp)(d:Addr)(rs:hH):Prop where
 ex:∃θ,H d=some (.dT θ)/\∀a b:Int,gj θ [.inl a,.inl b]=(cP rs a b).map V.int
 ks:∃θ,H d=some (.dT θ)/\θ.length<=2*rs.length/\∀p∈θ,∃a b:Int,p.1=[.inl a,.inl b]
theorem ϧ.same{H c:Hp}{d:Addr}{b:hH}(e:δ H c)(h:ϧ H d b):ϧ c d b:=by
 obtain⟨j,g,i⟩:=h.ex;obtain⟨a,f,k⟩:=h.ks;exact⟨⟨j,e _ _ g,i⟩,⟨a,e _ _ f,k⟩⟩
def xn(T:Txt K X):Sp:=λe H Q _=>E4 λ(l:Addr)(c:gg)(m:Int)(a:hH)=>e=[.ref l]/\H l=some (.lst (c.map V.ref))/\ν H c a/\Good m a/\∀d b,H d=none->δ H b->ϧ b d a->Q (.ref d) b
abbrev qO:Stmt:=top 76
theorem Gz:η ["roads","tolls","one","other","there","back"] ["roads"] (aK qO):=.of
theorem GF(T:Txt K X)(hq:cg (Ε P w)):Ok P w K X base "_law_tolls" qO ["roads"] 1 (xn T):=λ_ _ D=>by
 refine D.F.Ϙ Gz (by walk_at "v") λΑ A L s H vs Q E hr h=>?_;obtain⟨l,ps,m,I,rfl,hl,ro,g,k⟩:=h;have hu:=rR hr;refine⟨_,(aD (Δ 1 OW) (aD (fm PassesOwn.never rfl (g6 (ε 0)) (kN (n:=4) rfl (cA (ϒ 2) (cA (ϒ 3) (cA (ϒ 4) (cA (ϒ 5) iL))))) (aD (xO hu (ε 1) (jT (ah (ε 2) (ah (ε 3) aB))) (ε 4) rfl) (aO (xO hu (ε 1) (jT (ah (ε 3) (ah (ε 2) aB))) (ε 5) rfl)))) (aO (bR (ε 1))))),?_⟩;walk_at "s";walk_at "";intro d M;have s0:=δ.new (.dT []) M;have v:ps.length=I.length:=Paired.length ro;have a0:=g.len;have Ο:=g.Ο;refine⟨⟨_,ξ.of (s0 _ _ hl)⟩,?_⟩;refine xp (K:=K) (xs:=ps.map V.ref) (λi J y=>δ H y/\RF y d I i/\∃v1 G Y O,J=[some (V.ref l),some (V.ref d),v1,G,Y,O]) ⟨s0,⟨[],ay,⟨by simp,λp S=>nomatch S⟩,λa b=>⟨λi x c=>absurd c (ji _),λ_=>rfl⟩⟩,_,_,_,_,rfl⟩ (λi J y _ z=>ξ.of (z.1 _ _ hl)) ?_ ?_
 .rintro i x J y N hN C ⟨s2,⟨θ,hk,⟨hkl,Zv⟩,YC⟩,v1,G,Y,O,rfl⟩;obtain⟨q,r,rfl,h1,B,h3⟩:=ro.get C;have Yt:i<I.length:=(az.mp B).1;have ok:=g.ok r (aQ B);walk_at "";refine⟨_,Ξ.of (s2 _ _ h3),rfl,_,_,rfl,_,_,rfl,_,_,rfl,_,_,rfl,rfl,?_⟩;refine⟨cm (by simp),λp1 n1=>⟨_,WK.t (k:=[.inl r.a,.inl r.b]) (δ.new (.tup [V.int r.a,V.int r.b]) n1 _ _ hk) ay (d4 (by lia)),cm (by simp),λp2 Z=>?_⟩⟩;have l1:=oS θ [Sum.inl r.a,Sum.inl r.b] (V.int r.t);have U:d≠p2:=λz=>by rw[<-z,ay]at Z;cases Z
  refine⟨_,WK.t (k:=[.inl r.b,.inl r.a]) (by rw[aR U];exact ay) ay (d4 (by lia)),hN _ _ ⟨?_,⟨_,ay,?_,?_⟩,_,_,_,_,rfl⟩⟩
  .intro b o hb;have nd:b≠d:=cq hb M;have b2:=s2 _ _ hb;have R:b≠p1:=cq b2 n1;have b3:upd (upd y p1 (.tup [V.int r.a,V.int r.b])) d (.dT (iJ θ [Sum.inl r.a,Sum.inl r.b] (V.int r.t))) b=some o:=(by rw[aR nd,aR R];exact b2);rw[aR nd,aR (cq b3 Z)];exact b3
  .have l2:=oS (iJ θ [Sum.inl r.a,Sum.inl r.b] (V.int r.t)) [Sum.inl r.b,Sum.inl r.a] (V.int r.u);refine⟨by lia,λp S=>?_⟩;rcases ET S with e|⟨q,hq,e⟩
   .exact⟨_,_,e⟩
   rcases ET hq with W|⟨q',Wn,W⟩
   .exact⟨_,_,e.trans W⟩
   .obtain⟨a',b',e2⟩:=Zv q' Wn;exact⟨a',b',e.trans (W.trans e2)⟩
  .intro a' b';have G:gj (iJ (iJ θ [Sum.inl r.a,Sum.inl r.b] (V.int r.t)) [Sum.inl r.b,Sum.inl r.a] (V.int r.u)) [Sum.inl a',Sum.inl b']=if a'=r.b/\b'=r.a then some (V.int r.u)else if a'=r.a/\b'=r.b then some (V.int r.t)else gj θ [Sum.inl a',Sum.inl b']:=by
    rw[zI,zI];simp
   rw[G];have f:¬rX r a' b'->(if a'=r.b/\b'=r.a then some (V.int r.u)else if a'=r.a/\b'=r.b then some (V.int r.t)else gj θ [Sum.inl a',Sum.inl b'])=gj θ [Sum.inl a',Sum.inl b']:=λz=>by
    rw[ag (λw=>z (.inr ⟨w.1.symm,w.2.symm⟩)),ag (λw=>z (.inl ⟨w.1.symm,w.2.symm⟩))]
   constructor
   .intro j x hj hy jx;by_cases e:j=i
    .subst e;rw[B]at hy;cases hy;rcases jx with⟨w1,w2⟩|⟨w1,w2⟩
     .subst w1 w2;rw[ag (λz=>ok.ne z.1),aj ⟨rfl,rfl⟩,Pg ok.ne]
      rfl
     .subst w1 w2;rw[aj ⟨rfl,rfl⟩,Qq ok.ne]
      rfl
    .rw[f λw=>e (DJ g hy B jx w)];exact(YC a' b').1 j x (by lia) hy jx
   .intro z;rw[f (z i r (by lia) B)];exact(YC a' b').2 λj x hj C=>z j x (by lia) C
 .rintro J y ⟨s2,⟨θ,hk,⟨hkl,Zv⟩,YC⟩,v1,G,Y,O,rfl⟩;rw[aa,v]at YC;walk_at "";refine k d y M s2 ⟨⟨θ,hk,λa b=>?_⟩,⟨θ,hk,by rw[aa,v]at hkl;exact hkl,Zv⟩⟩;by_cases z:∃(i:Nat)(x:Road),I[i]?=some x/\rX x a b
  .obtain⟨i,x,c,j⟩:=z;rw[(YC a b).1 i x (az.mp c).1 c j,wR g c j]
  .rw[(YC a b).2 λi x _ c j=>z ⟨i,x,c,j⟩,Mg]
   .rfl
   .rintro⟨x,C,j⟩;obtain⟨i,c⟩:=cJ C;exact z ⟨i,x,c,j⟩
def ms(T:Txt K X):Sp:=λb H Q E=>E6 λ(p t:Addr)(m:Int)(a:gg)(c:hH)(n:Int)=>b=[.ref p,.int n]/\χ T.Web H p m t a c/\(0<=n->n<m->Q .ω H)/\(¬(0<=n/\n<m)->E (.ref T.NoPlace) none H)
abbrev iQ:Stmt:=top 16
theorem C1:η ["web","number"] ["web","number"] (aK iQ):=.of
theorem oJ:Ϝ (aK iQ) "NoPlace":=.of (by kernel_rfl)
theorem CS(T:Txt K X)(j:cg (Ε P w))(f:Cb P w K X base "is_place" p8 ["many","number"] 1 (ui T)):Ok P w K X base "check_place" iQ ["web","number"] 2 (ms T):=λ_ _ D=>by
 refine D.F.W0 C1 (by walk_at "v") λr A a s H l Q E b h=>?_;obtain⟨p,t,m,o,q,n,rfl,W,k,e⟩:=h;obtain⟨i,ob⟩:=W.ob;refine⟨_,(aO (eK (kK (mq (ϡ f b dW (ah (dB (ε 0) rfl) (ah (ε 1) aB))))) (aO (py T.wG rfl qL oJ.g T.Lu (ah tD aB) (hdb:=oJ.d))) dy)),?_⟩;walk_at "s";walk_at "";refine⟨T.Web,i,_,ob,T.lI,T.ϕ,_,jY m t,m,n,rfl,_,rfl,?_⟩;by_cases c:0<=n/\n<m
 .rw[ag (by simp[c.1,c.2])];exact k c.1 c.2
 .rw[aj (by simpa[ce]using c)];exact⟨by decide,e c⟩
def vX(T:Txt K X):Sp:=λe H Q E=>E6 λ(p t:Addr)(m:Int)(d:gg)(c:hH)(a:Int)=>e=[.ref p,.int a]/\χ T.Web H p m t d c/\(∀l b,0<=a->a<m->H l=none->δ H b->b l=some (.lst ((mj m c a).map V.int))->Q (.ref l) b)/\(¬(0<=a/\a<m)->E (.ref T.NoPlace) none H)
abbrev pS:Stmt:=top 15
theorem Et:η ["web","a"] ["web","a"] (aK pS):=.of
abbrev iv(P w base)(T:Txt K X):=Cb P w K X base "check_place" iQ ["web","number"] 2 (ms T)
theorem Ej(T:Txt K X)(B:cg (Ε P w))(q:iv P w base T)(z:Cb P w K X base "other_ends" nQ ["roads","place"] 1 (rE T)):Ok P w K X base "neighbours" pS ["web","a"] 3 (vX T):=λ_ _ D=>by
 refine D.F.W0 Et (by walk_at "v") λL A c s H J Q E d h=>?_;obtain⟨p,t,m,l,b,a,rfl,W,k,e⟩:=h;obtain⟨v,ob⟩:=W.ob;refine⟨_,(aD (dz (ϡ q d dW (ah (ε 0) (ah (ε 1) aB)))) (aO (bR (W4 yW T.sorted (ah (ϡ z d dW (ah (dB (ε 0) rfl) (ah (ε 1) aB))) aB))))),?_⟩;walk_at "s";walk_at "";refine⟨p,t,m,l,b,a,rfl,W,λf i=>?_,e⟩;have g:(b.length:Int)=m-1:=W.go.len;have Ο:=W.go.Ο;refine⟨T.Web,v,_,ob,T.lI,T.Xm,_,yC m t,t,l,b,a,rfl,Ξ.of W.tu,W.ro,by lia,λx C I j r=>?_⟩;refine⟨x,rfl,gi b a,ξ.of r,by have:=EW b a;lia,λy G n o u=>?_⟩;rw[Rp W.go f i o u];exact k y _ f i (j.free n) (j.trans (δ.new _ n)) ay
def xU(T:Txt K X):Sp:=λf H Q _=>E7 λ(p t:Addr)(m:Int)(e:gg)(d:hH)(a:Int)(b:V)=>f=[.ref p,.int a,b]/\χ T.Web H p m t e d/\0<=a/\a<m/\(b=.ω\/∃i,b=.int i)/\∀l c,H l=none->δ H c->c l=some (.lst ((bQ m d b a).map V.int))->Q (.ref l) c
abbrev uZ:Stmt:=top 30
theorem Rr:η ["web","place","front"] ["web","place","front"] (aK uZ):=.of
theorem Sc(T:Txt K X)(G:cg (Ε P w))(Z:Cb P w K X base "neighbours" pS ["web","a"] 3 (vX T)):Ok P w K X base "kids" uZ ["web","place","front"] 4 (xU T):=λ_ _ D=>by
 refine D.F.Ϙ Rr (by walk_at "v") λΑ A n s H vs Q E I h=>?_;obtain⟨p,t,m,Y,d,a,f,rfl,W,J,M,O,k⟩:=h;have Ο:=W.go.Ο;refine⟨_,(aO (bR (gW rfl (Yz ["near","front"] 1 [2]) (g6 (Ν Z I G (ah (ε 0) (ah (ε 1) aB)))) (λ_ _ _ _=>(fj (i:=0) (show(["near","front"]:gy).Nodup from by decide +kernel) rfl (Or.inl rfl))) (λ_ _ _ _=>(xX (Ϻ sj (pv 0) (pv 1)))) (λ_ _ _ _=>(pv 0))))),?_⟩;walk_at "s";walk_at "";have nl:(mj m d a).length<=24:=by
  have:=cC (λq=>decide (q∈gi d a)) (b6 m.toNat);rw[b7]at this;unfold mj
  lia
 refine⟨p,t,m,Y,d,a,rfl,W,λC L _ _ n1 y x=>⟨C,rfl,⟨_,ξ.of x⟩,λr u=>?_⟩,λz=>absurd ⟨J,M⟩ z⟩;have o:H r=none:=y.free u;refine lO (c:=true) (K:=K) (a:=C) (xs:=(mj m d a).map V.int) (λj g l e=>δ L e/\e r=some (.lst g)/\g=(((mj m d a).take j).filter λv=>decide (V.int v≠f)).map V.int/\∃v,l=[v,some f]) ⟨δ.new _ u,ay,rfl,_,rfl⟩ (λj g l e _ z=>ξ.of (z.1 _ _ x)) ?_ ?_
 .rintro j xj g l e N hN hj ⟨s2,h2,rfl,v,rfl⟩;rw[aA]at hj;obtain⟨b,S,rfl⟩:=eI.mp hj;have B:(mj m d a).take (j+1)=(mj m d a).take j++[b]:=by rw[bK,S];rfl
  have ll:(((mj m d a).take j).filter λv=>decide (V.int v≠f)).length<=24:=by
   have U:=cC (λv=>decide (V.int v≠f)) ((mj m d a).take j);rw[bq]at U
   lia
  walk_at "";have R:rM (V.int b) f=true:=by
   rcases O with rfl|⟨i,rfl⟩<;>rfl
  refine⟨R,?_⟩;by_cases c:V.int b=f
  .rw[ag (λz=>z c)];refine hN _ _ _ ⟨s2,h2,?_,_,rfl⟩;rw[B,b4];simp[c]
  .rw[aj c];refine⟨h2,d4 (by rw[aa];lia),hN _ _ _ ⟨s2.put u _,ay,?_,_,rfl⟩⟩;rw[B,b4];simp[c]
 .rintro g l e ⟨s2,h2,rfl,v,rfl⟩;rw[aa,bx]at h2;exact k r e o (y.trans s2) h2
def vx(T:Txt K X):Sp:=λf H Q E=>E6 λ(p t:Addr)(m:Int)(e:gg)(d:hH)(r:Int)=>f=[.ref p,.int r]/\χ T.Web H p m t e d/\(0<=r->r<m->∃a b,ζ m d r a b/\∀l c,H l=none->δ H c->c l=some (.lst (pQ m r a))->Q (.ref l) c)/\(¬(0<=r/\r<m)->E (.ref T.NoPlace) none H)
abbrev sC:Stmt:=top 28
theorem PU:η ["web","r","nearer","waiting","place","front","kid"] ["web","r"] (aK sC):=.of
abbrev i5(P w base)(T:Txt K X):=Cb P w K X base "kids" uZ ["web","place","front"] 4 (xU T)
theorem NJ(T:Txt K X)(hq:cg (Ε P w))(fB:iv P w base T)(m5:i5 P w base T):Ok P w K X base "ahead" sC ["web","r"] 5 (vx T):=λ_ _ D=>by
 refine D.F.W0 PU (by walk_at "v") λΑ A a2 s H vs Q E hr h=>?_;obtain⟨p,t,m,ps,S,r,rfl,W,k,e⟩:=h;obtain⟨dx,ob⟩:=W.ob;have g:=W.go;have Ο:=g.Ο;refine⟨_,(aD (dz (ϡ fB hr dW (ah (ε 0) (ah (ε 1) aB)))) (aD (Δ 2 (bn sG (eD (ah Bx aB)) (dB (ε 0) rfl))) (aD (Δ 3 (eD (ah (ε 1) aB))) (aD (o9 PassesOwn.leaving (sI (ε 3) (λ_=>rfl)) (aD (Δ 4 (Af PySem.F.plainAttrs_list PySem.F.slot_list_pop PySem.F.type_list_pop Be (ε 3))) (aD (Δ 5 (Ι bL (ε 2) (ε 4))) (aO (fm PassesOwn.leaving rfl (g6 (ϡ m5 hr dW (ah (ε 0) (ah (ε 4) (ah (ε 5) aB))))) (ϒ 6) (aD (nI (ε 4) (rf (ε 2) (ε 6) mO)) (aO (dz (iR PySem.F.plainAttrs_list PySem.F.slot_list_append PySem.F.type_list_append fM (ε 3) (ah (ε 6) aB)))))))))) (aO (bR (ε 2))))))),?_⟩;walk_at "s";walk_at "";refine⟨p,t,m,ps,S,r,rfl,W,λr0 r1=>?_,e⟩;obtain⟨par,cc,R,k⟩:=k r0 r1;refine⟨by decide,λl1 n1=>?_⟩;have s1:=δ.new (.lst [V.ω]) n1;refine⟨T.Web,dx,_,s1 _ _ ob,T.lI,T.ϕ,_,rfl,?_⟩;refine⟨l1,m,[V.ω],rfl,rfl,ay,by lia,by lia,cm (by simp;lia),λb n2=>?_⟩;have O:H b=none:=s1.free n2;rw[zy,<-UB (par:=par)];have s2:=s1.trans (δ.new (.lst (nl m par [])) n2);refine⟨cm (by simp),λa n3=>?_⟩;have N:H a=none:=s2.free n3;have f:a≠b:=λz=>by rw[z,ay]at n3;cases n3
 have s3:=s2.trans (δ.new (.lst [V.int r]) n3);have M:upd (upd (upd H l1 (.lst [V.ω])) b (.lst (nl m par []))) a (.lst [V.int r]) b=some (.lst (nl m par [])):=by rw[aR f.symm,ay]
 have e3:upd (upd (upd H l1 (.lst [V.ω])) b (.lst (nl m par []))) a (.lst [V.int r]) a=some (.lst [V.int r]):=ay;generalize upd (upd (upd H l1 (.lst [V.ω])) b (.lst (nl m par []))) a (.lst [V.int r])=H3 at s3 M e3 ⊢;refine Cz (λn B l=>E5 λ(u Z:d2)(v4 v5 I:Option V)=>n=2*(m.toNat-u.length)+Z.length/\B=[some (.ref p),some (.int r),some (.ref b),some (.ref a),v4,v5,I]/\δ H l/\l b=some (.lst (nl m par u))/\l a=some (.lst (Z.map V.int))/\ύ m S r par u Z) (2*m.toNat+1) ⟨[],[r],_,_,_,rfl,rfl,s3,M,e3,ύ.start⟩ ?_;rintro n B l NW BB ϗ hN Xi ⟨u,Z,v4,v5,I,rfl,rfl,s4,h2,h3,J⟩;refine ϗ _ _ _ ?_;have kl:=fC (by lia) J.nd J.Χ;walk_at "";refine⟨_,.inl ⟨_,ξ.of h3,rfl⟩,?_⟩;rcases fh Z with rfl|⟨ws',q,rfl⟩
 .rw[ag (by simp)];rw[J.done R]at h2;exact k b l O s4 h2
 .rw[ff]at J h3 hN Xi ⊢;rw[aj (by simp)];have hq:q∈ws'++[q]:=aW _ (aI.mpr rfl);have C:=J.at_ r0 r1 hq;have G:=J.step g R r0 r1 (p:=q) (ws':=ws') (hZ q ws');refine⟨NW,λcd H' z=>?_,?_⟩
  .obtain⟨m',lt,XZ,XO,a4,a5,a6,e1,M,e3⟩:=Xi _ _ z
   first|exact⟨m',lt,XZ,XO,a4,a5,a6,e1,M,e3⟩|exact⟨m',lt,XZ,XO,e1,a4,a5,a6,M,e3⟩
  rw[aw,aq,d7]at h3;refine⟨Io h3,JI h3 ?_⟩;have s5:δ H (upd l a (.lst (ws'.map V.int))):=s4.put N _;have j:upd l a (.lst (ws'.map V.int)) b=some (.lst (nl m par u)):=by rw[aR f.symm];exact h2
  have y:upd l a (.lst (ws'.map V.int)) a=some (.lst (ws'.map V.int)):=ay;generalize upd l a (.lst (ws'.map V.int))=H5 at s5 j y ⊢;refine Υ j (cT C.1 (My C.1 C.2)) ?_;rw[J.front hq];have a7:Pb.front r par q=.ω\/∃i,Pb.front r par q=.int i:=by
   unfold Pb.front;by_cases c:q=r
   .rw[aj c];exact .inl rfl
   .rw[ag c];exact .inr ⟨_,rfl⟩
  have mk:∀v,v∈bQ m S (Pb.front r par q) q->(0<=v/\v<m)/\v≠r/\par v=q:=λv=>(bw g R C.1 C.2).mp;refine⟨p,t,m,ps,S,q,_,rfl,W.same s5,C.1,C.2,a7,λU H6 Y s6 e6=>⟨U,rfl,⟨_,ξ.of e6⟩,?_⟩⟩;generalize bQ m S (Pb.front r par q) q=d at mk e6 G ⊢;have cp:H U=none:=s5.free Y;have au:U≠b:=λz=>by rw[z,j]at Y;cases Y
  have a8:U≠a:=λz=>by rw[z,y]at Y;cases Y
  have a1:=fC (by lia) G.nd G.Χ;rw[aE]at a1;have aT:=fC (by lia) G.wnd λw hw=>G.at_ r0 r1 hw;rw[aE]at aT;refine mG (K:=K) (xs:=d.map V.int) (λi B o=>∃I,B=[some (.ref p),some (.int r),some (.ref b),some (.ref a),some (.int q),some (Pb.front r par q),I]/\δ H o/\o U=some (.lst (d.map V.int))/\o b=some (.lst (nl m par (u++d.take i)))/\o a=some (.lst ((ws'++d.take i).map V.int))) ⟨_,rfl,s5.trans s6,e6,by rw[eY,bH];exact s6 _ _ j,by rw[eY,bH];exact s6 _ _ y⟩ (λi B o _ z=>by obtain⟨_,_,_,z,_⟩:=z;exact ξ.of z) ?_ ?_
  .rintro i x B o NI BB ϗ hI hi ⟨I,rfl,s7,e7,h27,ZG⟩;refine ϗ _ _ ?_;rw[aA]at hi;obtain⟨v,hv,rfl⟩:=eI.mp hi;obtain⟨vr,_,vp⟩:=mk v (aQ hv);have et:d.take (i+1)=d.take i++[v]:=(by rw[bK,hv];rfl);walk_at "";refine⟨b,_,v,v.toNat,rfl,rfl,h27,by unfold Zi;rw[aj vr.1,aj (by rw[tZ];lia)],?_⟩;rw[<-vp,Vk vr.1 vr.2,vp,bX,<-et];have L:upd o b (.lst (nl m par (u++d.take (i+1)))) a=some (.lst ((ws'++d.take i).map V.int)):=(by rw[aR f];exact ZG);have WO:(ws'++d.take i).length<=100:=by
    rw[aE,bq]
    lia
   refine⟨Io L,oZ L (d4 (by rw[aa];lia)) (hI _ _ ⟨_,rfl,(s7.put O _).put N _,?_,?_,?_⟩)⟩
   .rw[aR a8,aR au];exact e7
   .rw[aR f.symm,ay]
   .rw[ay,et,<-bX,aw (l₁:=ws'++d.take i)];rfl
  .rintro BB B o ϗ ⟨I,rfl,s7,e7,h27,ZG⟩;refine ϗ _ _ ?_;rw[aa,bx]at h27 ZG;refine hN _ _ _ ?_ ⟨_,_,_,_,_,rfl,rfl,s7,h27,ZG,G⟩;rw[aE,aE,aE];simp only[aF,dU]
   lia
def Cu(T:Txt K X):Sp:=λf H Q E=>E6 λ(p t:Addr)(m:Int)(e:gg)(c:hH)(r:Int)=>f=[.ref p,.int r]/\χ T.Web H p m t e c/\(0<=r->r<m->∃a b,ζ m c r a b/\∀l d,H l=none->δ H d->d l=some (.lst ((bO m c r a b r).map V.int))->(bO m c r a b r).Nodup->(∀v,v∈bO m c r a b r↔0<=v/\v<m)->Q (.ref l) d)/\(¬(0<=r/\r<m)->E (.ref T.NoPlace) none H)
abbrev uQ:Stmt:=top 29
theorem RX:η ["web","r","nearer","places","waiting","place","kid"] ["web","r"] (aK uQ):=.of
theorem zK:Ϝ (aK uQ) "reversed":=.of (by kernel_rfl)
abbrev i6(P w base)(T:Txt K X):=Cb P w K X base "ahead" sC ["web","r"] 5 (vx T)
theorem R4(T:Txt K X)(hq:cg (Ε P w))(oA:i6 P w base T)(m5:i5 P w base T):Ok P w K X base "down" uQ ["web","r"] 6 (Cu T):=λ_ _ D=>by
 refine D.F.W0 RX (by walk_at "v") λΑ A bp s H vs Q E hr h=>?_;obtain⟨p,t,m,ps,Z,r,rfl,W,k,e⟩:=h;have g:=W.go;have Ο:=g.Ο;refine⟨_,(aD (Δ 2 (ϡ oA hr dW (ah (ε 0) (ah (ε 1) aB)))) (aD (Δ 3 (eD aB)) (aD (Δ 4 (eD (ah (ε 1) aB))) (aD (o9 PassesOwn.leaving (sI (ε 4) (λ_=>rfl)) (aD (Δ 5 (Af PySem.F.plainAttrs_list PySem.F.slot_list_pop PySem.F.type_list_pop Be (ε 4))) (aD (dz (iR PySem.F.plainAttrs_list PySem.F.slot_list_append PySem.F.type_list_append fM (ε 3) (ah (ε 5) aB))) (aO (fm PassesOwn.leaving rfl (sR zK.g T.reversed (ϡ m5 hr dW (ah (ε 0) (ah (ε 5) (ah (Ι bL (ε 2) (ε 5)) aB))))) (ϒ 6) (aO (dz (iR PySem.F.plainAttrs_list PySem.F.slot_list_append PySem.F.type_list_append fM (ε 4) (ah (ε 6) aB))))))))) (aO (bR (ε 3))))))),?_⟩;walk_at "s";walk_at "";refine⟨p,t,m,ps,Z,r,rfl,W,λr0 r1=>?_,e⟩;obtain⟨a,M,R,k⟩:=k r0 r1;refine⟨a,M,R,λy H1 n1 s1 e1=>⟨by decide,λb n3=>⟨cm (by simp),λd C=>?_⟩⟩⟩;have ai:H b=none:=s1.free n3;have s3:=s1.trans (δ.new (.lst []) n3);have am:H d=none:=s3.free C;have a9:y≠b:=λz=>by rw[<-z,e1]at n3;cases n3
 have o:b≠d:=λz=>by rw[<-z,ay]at C;cases C
 have an:=δ.new (.lst []) n3 _ _ e1;have a1:y≠d:=λz=>by rw[<-z,an]at C;cases C
 have s4:=s3.trans (δ.new (.lst [V.int r]) C);have aT:=δ.new (.lst [V.int r]) C _ _ an;have a0:upd (upd H1 b (.lst [])) d (.lst [V.int r]) b=some (.lst []):=by rw[aR o,ay]
 have a3:upd (upd H1 b (.lst [])) d (.lst [V.int r]) d=some (.lst [V.int r]):=ay;generalize upd (upd H1 b (.lst [])) d (.lst [V.int r])=H4 at s4 aT a0 a3 ⊢;refine Cz (λn S l=>E5 λ(G O j:d2)(v5 v6:Option V)=>n=2*(m.toNat-G.length)+O.length/\S=[some (.ref p),some (.int r),some (.ref y),some (.ref b),some (.ref d),v5,v6]/\δ H l/\l y=some (.lst (pQ m r a))/\l b=some (.lst (j.map V.int))/\l d=some (.lst (O.map V.int))/\ύ m Z r a G O/\(j++O).Perm (r::G)/\j++O.reverse.flatMap (bO m Z r a M)=bO m Z r a M r) (2*m.toNat+1) ⟨[],[r],[],_,_,rfl,rfl,s4,aT,a0,a3,ύ.start,iE _,by simp⟩ ?_;rintro n S l NW BB ϗ hN Xi ⟨G,O,j,v5,v6,rfl,rfl,s5,h1,h3,h4,J,Y,ep⟩;refine ϗ _ _ _ ?_;have rk:∀w∈r::G,0<=w/\w<m:=λw hw=>by
  rcases ax.mp hw with rfl|z
  .exact⟨r0,r1⟩
  .exact J.Χ w z
 have nk:(r::G).Nodup:=bg.mpr ⟨J.nr,J.nd⟩;have kl:=fC (m:=m) (by lia) nk rk;have c4:=fC (m:=m) (by lia) J.nd J.Χ;have I:=Y.length_eq;rw[aE]at I;rw[aF]at kl I;walk_at "";refine⟨_,.inl ⟨_,ξ.of h4,rfl⟩,?_⟩;rcases fh O with rfl|⟨ws',q,rfl⟩
 .rw[ag (by simp)];rw[List.reverse_nil,List.flatMap_nil,bH]at ep;rw[bH]at Y;subst ep;refine k b l ai s5 h3 (Y.nodup_iff.mpr nk) λv=>⟨λz=>rk v (Y.mem_iff.mp z),λz=>Y.mem_iff.mpr ?_⟩;by_cases c:v=r
  .rw[c];exact aJ
  .exact aH _ (J.all R v z.1 z.2 c)
 .rw[ff]at J h4 hN Xi Y ep I ⊢;rw[aj (by simp)];have hq:q∈ws'++[q]:=aW _ (aI.mpr rfl);have U:=J.at_ r0 r1 hq;have J2:=J.step g R r0 r1 (p:=q) (ws':=ws') (hZ q ws');refine⟨NW,λcv H' z=>?_,?_⟩
  .obtain⟨m',lt,XZ,XO,pl',a5,a6,z1,z2⟩:=Xi _ _ z
   first|exact⟨m',lt,XZ,XO,pl',a5,a6,z1,z2⟩|exact⟨m',lt,XZ,XO,z1,pl',a5,a6,z2⟩
  rw[aw,aq,d7]at h4;refine⟨Io h4,JI h4 ?_⟩;have s6:δ H (upd l d (.lst (ws'.map V.int))):=s5.put am _;have N:upd l d (.lst (ws'.map V.int)) b=some (.lst (j.map V.int)):=by rw[aR o];exact h3
  have af:upd l d (.lst (ws'.map V.int)) y=some (.lst (pQ m r a)):=by rw[aR a1];exact h1
  have aS:upd l d (.lst (ws'.map V.int)) d=some (.lst (ws'.map V.int)):=ay;generalize upd l d (.lst (ws'.map V.int))=H6 at s6 N af aS ⊢;refine⟨Io N,oZ N (d4 (by rw[aa];lia)) ?_⟩;have s7:δ H (upd H6 b (.lst (j.map V.int++[V.int q]))):=s6.put ai _;have ZG:upd H6 b (.lst (j.map V.int++[V.int q])) b=some (.lst ((j++[q]).map V.int)):=by rw[ay,aw];rfl
  have u:upd H6 b (.lst (j.map V.int++[V.int q])) y=some (.lst (pQ m r a)):=by rw[aR a9];exact af
  have L:upd H6 b (.lst (j.map V.int++[V.int q])) d=some (.lst (ws'.map V.int)):=by rw[aR o.symm];exact aS
  generalize upd H6 b (.lst (j.map V.int++[V.int q]))=H7 at s7 ZG u L ⊢;refine Υ u (cT U.1 (zf U.1 U.2)) ?_;have bt:Pb.front r a q=.ω\/∃i,Pb.front r a q=.int i:=by
   unfold Pb.front;by_cases c:q=r
   .rw[aj c];exact .inl rfl
   .rw[ag c];exact .inr ⟨_,rfl⟩
  have pq:=fL g R U.1 U.2;refine⟨p,t,m,ps,Z,q,_,rfl,W.same s7,U.1,U.2,bt,λl8 H8 n8 s8 e8=>⟨l8,rfl,_,ξ.of e8,?_⟩⟩;generalize bQ m Z (Pb.front r a q) q=f at e8 J2 pq ⊢;have c1:y≠l8:=λz=>by rw[<-z,u]at n8;cases n8
  have cu:b≠l8:=λz=>by rw[<-z,ZG]at n8;cases n8
  have bl:d≠l8:=λz=>by rw[<-z,L]at n8;cases n8
  have bm:=fC (m:=m) (by lia) J2.nd J2.Χ;rw[aE]at bm;have be:=fC (m:=m) (by lia) J2.wnd λw hw=>J2.at_ r0 r1 hw;rw[aE]at be;refine qz (K:=K) (xs:=f.map V.int) (λi S B=>∃v6,S=[some (.ref p),some (.int r),some (.ref y),some (.ref b),some (.ref d),some (.int q),v6]/\δ H B/\B l8=some (.lst (f.map V.int))/\B y=some (.lst (pQ m r a))/\B b=some (.lst ((j++[q]).map V.int))/\B d=some (.lst ((ws'++f.reverse.take i).map V.int))) ⟨_,rfl,s7.trans s8,e8,s8 _ _ u,s8 _ _ ZG,by rw[eY,bH];exact s8 _ _ L⟩ (λi S B _ z=>by obtain⟨_,_,_,z,_⟩:=z;exact ξ.of z) ?_ ?_
  .rintro i x S B NI hI hi ⟨v6,rfl,s9,e9,h19,h39,h49⟩;rw[<-d9,aA]at hi;obtain⟨v,hv,rfl⟩:=eI.mp hi;have et:f.reverse.take (i+1)=f.reverse.take i++[v]:=(by rw[bK,hv];rfl);have WO:(ws'++f.reverse.take i).length<=100:=by
    rw[aE,bq,bc]
    lia
   walk_at "";refine⟨Io h49,oZ h49 (d4 (by rw[aa];lia)) (hI _ _ ⟨_,rfl,s9.put am _,?_,?_,?_,?_⟩)⟩
   .rw[aR bl.symm];exact e9
   .rw[aR a1];exact h19
   .rw[aR o];exact h39
   .rw[ay,et,<-bX,aw (l₁:=ws'++f.reverse.take i)];rfl
  .rintro S B ⟨v6,rfl,s9,e9,h19,h39,h49⟩;rw[aa,show f.length=f.reverse.length by rw[bc],bx]at h49;refine hN _ _ _ ?_ ⟨G++f,ws'++f.reverse,j++[q],_,_,rfl,rfl,s9,h19,h39,h49,J2.perm (gV _ f.reverse_perm.symm),?_,?_⟩
   .rw[aE,aE,aE,bc];simp only[aF,dU]
    lia
   .have p1:(j++[q]++(ws'++f.reverse)).Perm (j++(ws'++[q])++f):=by
     rw[bX,bX];refine gV _ ?_;rw[<-bX];exact List.Perm.append (mz) f.reverse_perm
    exact p1.trans (mB _ Y)
   .rw[<-ep,ia,ia,jw,lU,lZ,bC,pq,fJ];simp
def K0(a:d3)(v:Int):List V:=[.int v,.int (a v)]
abbrev Ζ(H:Hp)(a:d3):List Addr->List Int->Prop:=Paired λq v=>H q=some (.tup (K0 a v))
theorem Ζ.same{H d:Hp}{a:d3}{c:gg}{b:d2}(e:δ H d)(h:Ζ H a c b):Ζ d a c b:=Paired.imp' (λq v x=>e q _ x) h
theorem Ζ.get{H:Hp}{c:d3}:∀{d:gg}{f:d2}{i:Nat}{x:V},Ζ H c d f->(d.map V.ref)[i]?=some x->∃p r,x=.ref p/\d[i]?=some p/\f[i]?=some r/\H p=some (.tup (K0 c r))
 | _,_,i,x,.nil,e=>by simp at e
 | _,_,0,x,.cons (a:=p) (b:=r) h hs,e=>⟨p,r,by simpa using e.symm,by simp,by simp,h⟩
 | a::l1,_,i+1,x,.cons h hs,e=>by
   have l:(List.map V.ref l1)[i]?=some x:=by simpa using e
   obtain⟨p,r,j,k,g,m⟩:=Ζ.get hs l;exact⟨p,r,j,by simpa using k,by simpa using g,m⟩
theorem Ζ.snoc{H:Hp}{a:d3}{q:Addr}{v:Int}(e:H q=some (.tup (K0 a v))):∀{c:gg}{b:d2},Ζ H a c b->Ζ H a (c++[q]) (b++[v])
 | _,_,.nil=>.cons e .nil
 | _,_,.cons x xs=>.cons x (Ζ.snoc e xs)
def q9(T:Txt K X):Sp:=λh H Q E=>E6 λ(p t:Addr)(m:Int)(g:gg)(e:hH)(r:Int)=>h=[.ref p,.int r]/\χ T.Web H p m t g e/\(0<=r->r<m->∃a b,ζ m e r a b/\∀l f d c,bO m e r a b r=r::d->H l=none->δ H c->c l=some (.lst (f.map V.ref))->Ζ c a f d.reverse->Order m r a d->Q (.ref l) c)/\(¬(0<=r/\r<m)->E (.ref T.NoPlace) none H)
abbrev mR:Stmt:=top 31
theorem DD:η ["web","r","nearer"] ["web","r"] (aK mR):=.of
theorem zi:YQ (aK mR) "nearer":=.of (by kernel_rfl)
theorem wN:Ϝ (aK mR) "reversed":=.of (by kernel_rfl)
theorem Lp(T:Txt K X)(hq:cg (Ε P w))(oA:i6 P w base T)(uW:Cb P w K X base "down" uQ ["web","r"] 6 (Cu T)):Ok P w K X base "inward" mR ["web","r"] 7 (q9 T):=λ_ _ D=>by
 refine D.F.W0 DD (by walk_at "v") λΑ A L s H vs Q E hr h=>?_;obtain⟨p,t,m,ps,rs,r,rfl,W,k,e⟩:=h;have g:=W.go;have Ο:=g.Ο;refine⟨_,(aD (u7 (i:=2) DD.nd rfl (Or.inr zi.l) (ϡ oA hr dW (ah (ε 0) (ah (bY 1) aB)))) (aO (bR (gW rfl (Yz ["place","nearer","r"] 1 [2,1]) (sR wN.g T.reversed (ϡ uW hr dW (ah (ε 0) (ah (bY 1) aB)))) (λ_ _ _ _=>(fj (i:=0) (show(["place","nearer","r"]:gy).Nodup from by decide +kernel) rfl (Or.inl rfl))) (λ_ _ _ _=>(xX (Ϻ sj (pv 0) (pv 2)))) (λ_ _ _ _=>(jT (ah (pv 0) (ah (Ι (pi K rfl) (pv 1) (pv 0)) aB)))))))),?_⟩;walk_at "s";walk_at "";refine⟨p,t,m,ps,rs,r,?_⟩;refine an4 rfl W (λC I=>?_) e;obtain⟨d,B,R,k⟩:=k C I;refine⟨d,B,R,λl1 H1 n1 s1 e1=>?_⟩;refine⟨p,t,m,ps,rs,r,?_⟩;refine an4 rfl (W.same s1) (λ_ _=>⟨d,B,R,λl2 H2 n2 s2 M nd al=>?_⟩) (λz=>absurd ⟨C,I⟩ z);obtain⟨n,et,O⟩:=BJ g R C I nd al;have ll:=zW g R C I;rw[et]at M ll;rw[aF]at ll;refine⟨l2,rfl,_,ξ.of M,λpc Z=>?_⟩;have ab:=s2 _ _ e1;have WQ:=s1.trans s2;have ac:=WQ.free Z;refine QY (K:=K) (xs:=(r::n).map V.int) (λi u J j=>δ H2 j/\j pc=some (.lst u)/\(∃f:List Addr,u=f.map V.ref/\Ζ j d f (n.reverse.take i))/\∃v,J=[v,some (V.ref l1),some (V.int r)]) ⟨δ.new _ Z,ay,⟨[],rfl,.nil⟩,_,rfl⟩ (λi u J j _ z=>ξ.of (z.1 _ _ M)) ?_ ?_
 .rintro i x u J j N hN hx ⟨s3,e3,⟨f,rfl,pa⟩,v,rfl⟩;rw[<-d9,dY,aA]at hx;obtain⟨y,o,rfl⟩:=eI.mp hx;have il:=(az.mp o).1;rw[aE,bc]at il;have ql:f.length=(n.reverse.take i).length:=Paired.length pa;rw[bq,bc]at ql;walk_at "";by_cases c:i<n.length
  .rw[dh (by rw[bc];exact c)]at o;have S:y∈n:=dJ.mp (aQ o);have Y:=O.Χ y S;rw[aj (O.ne S)];have gp:ϲ (pQ m r d) y=some (V.int (d y)):=by
    have ef:Pb.front r d y=V.int (d y):=(by unfold Pb.front;rw[ag (O.ne S)]);rw[<-ef];exact cT Y.1 (zf Y.1 Y.2)
   refine Υ (s3 _ _ ab) gp ⟨cm (by simp),λq G=>?_⟩;have s4:=δ.new (.tup [V.int y,V.int (d y)]) G;have U:q≠pc:=λz=>by rw[z,e3]at G;cases G
   refine⟨s4 _ _ e3,d4 (by rw[aa];lia),hN _ _ _ ⟨(s3.trans s4).put Z _,ay,⟨f++[q],by rw[aw];rfl,?_⟩,_,rfl⟩⟩;rw[bK,o];refine Ζ.snoc (by rw[aR U,ay];rfl) ?_;exact Paired.imp' (λa b h=>by
    rw[aR (gU h e3 (by intro z;cases z)),aR (cq h G)];exact h) pa
  .have ei:i=n.reverse.length:=(by rw[bc];simp at il;lia);rw[ei,da (ap _),d8]at o;cases o;rw[ag (λz=>z rfl)];refine hN _ _ _ ⟨s3,e3,⟨f,rfl,?_⟩,_,rfl⟩;rw[dc (by lia)]at pa ⊢;exact pa
 .rintro u J j ⟨s3,e3,⟨f,rfl,pa⟩,v,rfl⟩;rw[dc (by rw[aa,bc,aF];lia)]at pa;exact k pc f n j et ac (WQ.trans s3) e3 pa O
def sy(T:Txt K X):Sp:=λe H Q E=>E7 λ(p t:Addr)(m:Int)(d:gg)(c:hH)(a b:Int)=>e=[.ref p,.int a,.int b]/\χ T.Web H p m t d c/\(∀k,0<=a->a<m->0<=b->b<m->cP c a b=some k->Q (.int k) H)/\(¬((0<=a/\a<m)/\(0<=b/\b<m))->E (.ref T.NoPlace) none H)/\(0<=a->a<m->0<=b->b<m->cP c a b=none->E (.ref T.NoRoad) none H)
abbrev p9:Stmt:=top 14
theorem RS:η ["web","a","b","one","other","there","back"] ["web","a","b"] (aK p9):=.of
theorem u6:Ϝ (aK p9) "NoRoad":=.of (by kernel_rfl)
theorem RO(T:Txt K X)(hq:cg (Ε P w))(Z:iv P w base T):Ok P w K X base "toll" p9 ["web","a","b"] 3 (sy T):=λ_ _ D=>by
 refine D.F.W0 RS (by walk_at "v") λΑ A M s H vs Q E Y h=>?_;obtain⟨p,t,m,I,f,a,b,rfl,W,k,e1,e2⟩:=h;obtain⟨dx,ob⟩:=W.ob;refine⟨_,(aD (dz (ϡ Z Y dW (ah (ε 0) (ah (ε 1) aB)))) (aD (dz (ϡ Z Y dW (ah (ε 0) (ah (ε 2) aB)))) (aD (fm PassesOwn.leaving rfl (uT (dB (ε 0) rfl)) (kN (n:=4) rfl (cA (ϒ 3) (cA (ϒ 4) (cA (ϒ 5) (cA (ϒ 6) iL))))) (aD (eK (PW.pt (Fq (Ϻ jX (ε 3) (ε 1)) (CN (Ϻ jX (ε 4) (ε 2))))) (aO (bR (ε 5))) dy) (aO (eK (PW.pt (Fq (Ϻ jX (ε 3) (ε 2)) (CN (Ϻ jX (ε 4) (ε 1))))) (aO (bR (ε 6))) dy)))) (aO (py T.zR rfl qL u6.g T.Ob (ah tD aB) (hdb:=u6.d)))))),?_⟩;walk_at "s";walk_at "";refine⟨p,t,m,I,f,a,rfl,W,λy C=>?_,λz=>e1 λw=>z w.1⟩;refine⟨p,t,m,I,f,b,rfl,W,λG L=>?_,λz=>e1 λw=>z w.2⟩;refine⟨T.Web,dx,_,ob,T.lI,T.Xm,_,yC m t,t,rfl,⟨_,Ξ.of W.tu⟩,?_⟩;have l:I.length=f.length:=Paired.length W.ro;refine FG (K:=K) (xs:=I.map V.ref) (λi J o=>o=H/\cP (f.take i) a b=none/\∃U R S O,J=[some (V.ref p),some (V.int a),some (V.int b),U,R,S,O]) ⟨rfl,rfl,_,_,_,_,rfl⟩ (λi J o _ z=>by rw[z.1];exact Ξ.of W.tu) ?_ ?_
 .rintro i x J o N hN hx ⟨rfl,hno,U,R,S,O,rfl⟩;obtain⟨q,r,rfl,h1,B,h3⟩:=W.ro.get hx;have et:f.take (i+1)=f.take i++[r]:=by rw[bK,B];rfl
  have split:cP f a b=(cP (f.take i) a b).or ((iW a b r).or (cP (f.drop (i+1)) a b)):=by
   have:f=f.take i++r::f.drop (i+1):=by
    have Yt:i<f.length:=(az.mp B).1;have e:f[i]=r:=(by rw[ao Yt]at B;exact bi B);rw[<-e,lS,b8]
   conv=>lhs;rw[this]
   unfold cP;rw[ju,j0];cases iW a b r<;>rfl
  rw[hno,Option.none_or]at split;walk_at "";refine⟨_,Ξ.of h3,rfl,_,_,rfl,_,_,rfl,_,_,rfl,_,_,rfl,rfl,?_⟩;walk_at "";have c:iW a b r=none->N [some (V.ref p),some (V.int a),some (V.int b),some (V.int r.a),some (V.int r.b),some (V.int r.t),some (V.int r.u)] o:=λz=>hN _ _ ⟨rfl,by
   rw[et];unfold cP at hno ⊢;rw[ju,hno,j0,z]
   rfl,_,_,_,_,rfl⟩
  have j:∀v,iW a b r=some v->cP f a b=some v:=λv z=>by rw[split,z];rfl
  unfold iW at c j;split
  .rename_i c1
   split
   .rename_i c2
    exact k _ y C G L (j _ (by rw[aj ⟨c1,c2⟩]))
   .rename_i c2
    split
    .rename_i c3
     split
     .rename_i c4
      exact k _ y C G L (j _ (by rw[ag (λz=>c2 z.2),aj ⟨c3,c4⟩]))
     .rename_i c4
      exact c (by rw[ag (λz=>c2 z.2),ag (λz=>c4 z.2)])
    .rename_i c3
     exact c (by rw[ag (λz=>c2 z.2),ag (λz=>c3 z.1)])
  .rename_i c1
   split
   .rename_i c3
    split
    .rename_i c4
     exact k _ y C G L (j _ (by rw[ag (λz=>c1 z.1),aj ⟨c3,c4⟩]))
    .rename_i c4
     exact c (by rw[ag (λz=>c1 z.1),ag (λz=>c4 z.2)])
   .rename_i c3
    exact c (by rw[ag (λz=>c1 z.1),ag (λz=>c3 z.1)])
 .rintro J o ⟨rfl,hno,U,R,S,O,rfl⟩;rw[aa,l,bx]at hno;walk_at "";exact⟨by decide,e2 y C G L hno⟩
def zY(T:Txt K X):Sp:=λf H Q _=>E11 λ(p b t:Addr)(c:Bool)(m:Int)(e:gg)(d:hH)(a:d2)(v u k:Int)=>f=[.ref p,.ref b,.int v,.int u]/\χ T.Web H p m t e d/\Ϫ K c H b (a.map V.int)/\(0<=v/\v<m/\v<a.length)/\(0<=u/\u<m)/\cP d v u=some k/\k<=1000000/\2<=k/\Q (.int (a.getD v.toNat 0*k)) H
abbrev uM:Stmt:=top 36
theorem PR:η ["web","weights","place","front"] ["web","weights","place","front"] (aK uM):=.of
abbrev jm(P w base)(T:Txt K X):=Cb P w K X base "toll" p9 ["web","a","b"] 3 (sy T)
theorem Oh(T:Txt K X)(q:cg (Ε P w))(g:jm P w base T):Ok P w K X base "borne" uM ["web","weights","place","front"] 4 (zY T):=λ_ _ D=>by
 refine D.F.W0 PR (by walk_at "v") λG A d s H y Q E f h=>?_;obtain⟨p,b,t,c,m,l,n,o,v,u,x,rfl,W,j,a,i,e,r,C,k⟩:=h;refine⟨_,(aO (bR (bn mw (Ι (FA c) (ε 1) (ε 2)) (ϡ g f dW (ah (ε 0) (ah (ε 2) (ah (ε 3) aB))))))),?_⟩;walk_at "s";walk_at "";refine ixX j (WC a.1 a.2.2) ?_;refine⟨p,t,m,l,n,v,u,rfl,W,λB _ _ _ _ h=>?_,λz=>absurd ⟨⟨a.1,a.2.1⟩,i⟩ z,λ_ _ _ _ z=>by rw[e]at z;cases z⟩;rw[e]at h;cases h;exact⟨_,rfl,_,rfl,.inr ⟨by lia,by lia⟩,k⟩
def uo(T:Txt K X):Sp:=λe H Q _=>E10 λ(p b t:Addr)(m:Int)(d:gg)(c:hH)(a:d2)(v u k:Int)=>e=[.ref p,.ref b,.int v,.int u]/\χ T.Web H p m t d c/\ξ K H b (a.map V.int)/\(a.length:Int)=m/\(0<=v/\v<m)/\(0<=u/\u<m)/\cP c v u=some k/\k<=1000000/\2<=k/\Q (.bl (decide (a.getD v.toNat 0*k=a.getD u.toNat 0))) H
abbrev pU:Stmt:=top 42
theorem GY:η ["web","weights","place","front"] ["web","weights","place","front"] (aK pU):=.of
abbrev jy(P w base)(T:Txt K X):=Cb P w K X base "borne" uM ["web","weights","place","front"] 4 (zY T)
theorem Hw(T:Txt K X)(y:cg (Ε P w))(n:jy P w base T):Ok P w K X base "is_heavy" pU ["web","weights","place","front"] 5 (uo T):=λ_ _ D=>by
 refine D.F.W0 GY (by walk_at "v") λC A c s H z Q E l h=>?_;obtain⟨p,b,t,m,r,x,a,v,u,d,rfl,W,i,B,f,g,o,j,q,k⟩:=h;refine⟨_,(aO (bR (m8 jX (ϡ n l dW (ah (ε 0) (ah (ε 1) (ah (ε 2) (ah (ε 3) aB))))) (Ι bL (ε 1) (ε 3)) (mV _)))),?_⟩;walk_at "s";walk_at "";refine⟨p,b,t,true,m,r,x,a,v,u,d,rfl,W,i,⟨f.1,f.2,by lia⟩,g,o,j,q,?_⟩;refine ixS i (WC g.1 (by lia)) ?_;have e:decide (V.int (a.getD v.toNat 0*d)=V.int (a.getD u.toNat 0))=decide (a.getD v.toNat 0*d=a.getD u.toNat 0):=by simp
 rw[e];exact⟨rfl,k⟩
def mN(T:Txt K X):Sp:=λf H Q E=>E6 λ(p t:Addr)(m:Int)(e:gg)(d:hH)(r:Int)=>f=[.ref p,.int r]/\χ T.Web H p m t e d/\(0<=r->r<m->∃b c,ζ m d r b c/\∀l a,H l=none->δ H a->a l=some (.lst ((dD m d r b c).map V.int))->Q (.ref l) a)/\(¬(0<=r/\r<m)->∀a,δ H a->E (.ref T.NoPlace) none a)
abbrev jE:Stmt:=top 39
theorem zP:η ["web","r","weights","place","front"] ["web","r"] (aK jE):=.of
abbrev jz(P w base)(T:Txt K X):=Cb P w K X base "inward" mR ["web","r"] 7 (q9 T)
theorem zJ(T:Txt K X)(hq:cg (Ε P w))(sD:jy P w base T)(jK:jz P w base T):Ok P w K X base "least_weights" jE ["web","r"] 8 (mN T):=λ_ _ D=>by
 refine D.F.W0 zP (by walk_at "v") λΑ A Z s H vs Q E hr h=>?_;obtain⟨p,t,m,ps,j,r,rfl,W,k,e⟩:=h;have g:=W.go;have m1:=g.m1;have Ο:=g.Ο;obtain⟨dx,ob⟩:=W.ob;refine⟨_,(aD (Δ 2 (bn sG (eD (ah aU aB)) (dB (ε 0) rfl))) (aD (fm PassesOwn.leaving rfl (g6 (ϡ jK hr dW (ah (ε 0) (ah (ε 1) aB)))) (kN (n:=2) rfl (cA (ϒ 3) (cA (ϒ 4) iL))) (aO (nI (W4 (Ll rfl) T.max (ah (Ι bL (ε 2) (ε 4)) (ah (ϡ sD hr dW (ah (ε 0) (ah (ε 2) (ah (ε 3) (ah (ε 4) aB))))) aB))) (rf (ε 2) (ε 4) mO)))) (aO (bR (ε 2))))),?_⟩;walk_at "s";walk_at "";refine⟨cm (by simp),λM n0=>?_⟩;have S:=δ.new (.lst [V.int 1]) n0;refine⟨T.Web,dx,_,S _ _ ob,T.lI,T.ϕ,_,jY m t,?_⟩;refine⟨M,m,_,rfl,rfl,ay,by lia,by lia,cm (by simp;lia),λl n1=>?_⟩;rw[Lh];have B:=S.trans (δ.new (.lst (List.replicate m.toNat (V.int 1))) n1);have nl:=S.free n1;have J:upd (upd H M (.lst [V.int 1])) l (.lst (List.replicate m.toNat (V.int 1))) l=some (.lst ((List.replicate m.toNat (1:Int)).map V.int)):=by rw[ay,iw]
 generalize upd (upd H M (.lst [V.int 1])) l (.lst (List.replicate m.toNat (V.int 1)))=H1 at B J ⊢;refine⟨p,t,m,ps,j,r,?_⟩;refine an4 rfl (W.same B) (λr0 r1=>?_) (λz=>e z H1 B);obtain⟨c,f,R,k⟩:=k r0 r1;refine⟨c,f,R,λU G C H2 _ n2 s2 e2 pa O=>?_⟩;have XQ:U≠l:=λz=>by rw[z,J]at n2;cases n2
 refine⟨U,rfl,⟨_,ξ.of e2⟩,?_⟩;have ql:G.length=C.reverse.length:=Paired.length pa;have st:Le mx m j r c f (λ_=>1) (bor j c) [] (List.replicate m.toNat (1:Int)):=Le.nil (by rw[cV];lia) λv v0 v1=>by
  rw[List.getD,List.getElem?_replicate_of_lt (by lia)];rfl
 refine mG (K:=K) (xs:=G.map V.ref) (λi I d=>δ H d/\d U=some (.lst (G.map V.ref))/\Ζ d c G C.reverse/\E3 λ(o:d2)(Y v5:Option V)=>d l=some (.lst (o.map V.int))/\Le mx m j r c f (λ_=>1) (bor j c) (C.drop (C.length-i)) o/\I=[some (V.ref p),some (V.int r),some (V.ref l),Y,v5]) ⟨B.trans s2,e2,pa,_,_,_,s2 _ _ J,by rw[gZ,f9];exact st,rfl⟩ (λi I d _ z=>ξ.of z.2.1) ?_ ?_
 .rintro i x I d N BB ϗ hN hx ⟨s3,e3,Za,o,Y,v5,c3,so,rfl⟩;refine ϗ _ _ ?_;obtain⟨q,v,rfl,hq,hv,eq⟩:=Za.get hx;obtain⟨⟨y,vn⟩,ev,L⟩:=O.adH IC g R so hv;have u:=R.up v y.1 y.2 vn;obtain⟨kk,hk,k0,k1⟩:=nU g R y.1 y.2 vn;have cl:=so.len;walk_at "";refine⟨_,Ξ.of eq,rfl,_,_,rfl,_,_,rfl,rfl,?_⟩;refine Υ c3 (WC u.1.1 (by lia)) ?_;refine⟨p,l,t,true,m,ps,j,o,v,c v,kk,rfl,W.same s3,ξ.of c3,⟨y.1,y.2,by lia⟩,u.1,hk,k1,k0,?_⟩;refine⟨_,_,⟨rfl,rfl⟩,wC c3 u.1.1 (by rw[aa];lia) (hN _ _ ⟨s3.put nl _,?_,?_,xT mx c (bor j c) o v,_,_,?_,L,rfl⟩)⟩
  .rw[aR XQ];exact e3
  .exact Paired.imp' (λa b h=>by rw[aR (gU h c3 (by intro z;cases z))];exact h) Za
  .rw[ay,<-gX];unfold xT bor mx;rw[hk]
   rfl
 .rintro BB I d ϗ ⟨s3,e3,Za,o,Y,v5,c3,so,rfl⟩;refine ϗ _ _ ?_;rw[aa,ql,bc,d8,jW]at so;rw[O.doneF IC g R so]at c3;walk_at "";exact k l d nl s3 c3
def Bg(T:Txt K X):Sp:=λg H Q E=>E6 λ(p t:Addr)(m:Int)(f:gg)(d:hH)(r:Int)=>g=[.ref p,.int r]/\χ T.Web H p m t f d/\(0<=r->r<m->∃a b,ζ m d r a b/\∀e l c,bO m d r a b r=r::e->Order m r a e->H l=none->δ H c->c l=some (.lst (Y7 m (bV m d r a b e)))->Q (.ref l) c)/\(¬(0<=r/\r<m)->∀c,δ H c->E (.ref T.NoPlace) none c)
abbrev qZ:Stmt:=top 41
theorem Km:η ["web","r","weights","chosen","place","front"] ["web","r"] (aK qZ):=.of
theorem wn:Ϝ (aK qZ) "reversed":=.of (by kernel_rfl)
abbrev ka(P w base)(T:Txt K X):=Cb P w K X base "is_heavy" pU ["web","weights","place","front"] 5 (uo T)
abbrev kx(P w base)(T:Txt K X):=Cb P w K X base "least_weights" jE ["web","r"] 8 (mN T)
theorem JN(T:Txt K X)(hq:cg (Ε P w))(jK:jz P w base T)(nY:ka P w base T)(gx:kx P w base T):Ok P w K X base "bearers" qZ ["web","r"] 9 (Bg T):=λ_ _ D=>by
 refine D.F.W0 Km (by walk_at "v") λΑ A av s H vs Q E hr h=>?_;obtain⟨p,t,m,ps,f,r,rfl,W,k,e⟩:=h;have g:=W.go;have m1:=g.m1;have Ο:=g.Ο;obtain⟨dx,ob⟩:=W.ob;refine⟨_,(aD (Δ 2 (ϡ gx hr dW (ah (ε 0) (ah (ε 1) aB)))) (aD (Δ 3 (bn sG (eD (ah Bx aB)) (dB (ε 0) rfl))) (aD (fm PassesOwn.leaving rfl (sR wn.g T.reversed (ϡ jK hr dW (ah (ε 0) (ah (ε 1) aB)))) (kN (n:=2) rfl (cA (ϒ 4) (cA (ϒ 5) iL))) (aO (eK (mq (ϡ nY hr dW (ah (ε 0) (ah (ε 2) (ah (ε 4) (ah (ε 5) aB)))))) (aO (nI (ε 4) (rf (ε 3) (ε 5) mO))) dy))) (aO (bR (ε 3)))))),?_⟩;walk_at "s";walk_at "";refine⟨p,t,m,ps,f,r,?_⟩;refine an4 rfl W (λr0 r1=>?_) e;obtain⟨c,d,R,k⟩:=k r0 r1;refine⟨c,d,R,λI H0 nw s0 ew=>⟨cm (by simp),λl0 n0=>?_⟩⟩;have G:=δ.new (.lst [V.ω]) n0;refine⟨T.Web,dx,_,G _ _ (s0 _ _ ob),T.lI,T.ϕ,_,jY m t,?_⟩;refine⟨l0,m,_,rfl,rfl,ay,by lia,by lia,cm (by simp;lia),λl J=>?_⟩;rw[Lh];have s2:=G.trans (δ.new (.lst (List.replicate m.toNat V.ω)) J);have nl:=(s0.trans G).free J;have Z:I≠l:=λz=>by rw[<-z,G _ _ ew]at J;cases J
 have el:Y7 m (λ_=>none)=List.replicate m.toNat V.ω:=by
  unfold Y7;rw[List.map_const',b7]
  rfl
 have S:upd (upd H0 l0 (.lst [V.ω])) l (.lst (List.replicate m.toNat V.ω)) l=some (.lst (Y7 m (bV m f r c d []))):=by rw[ay,<-el];rfl
 generalize upd (upd H0 l0 (.lst [V.ω])) l (.lst (List.replicate m.toNat V.ω))=H1 at s2 S ⊢;have YD:=s0.trans s2;have Y:=s2 _ _ ew;refine⟨p,t,m,ps,f,r,?_⟩;refine an4 rfl (W.same YD) (λ_ _=>⟨c,d,R,λl2 B o H2 U n2 s3 e2 pa O=>?_⟩) (λz=>absurd ⟨r0,r1⟩ z);have XQ:l2≠l:=λz=>by rw[z,S]at n2;cases n2
 refine⟨l2,rfl,_,ξ.of e2,?_⟩;have ql:B.length=o.reverse.length:=Paired.length pa;have ll:((dD m f r c d).length:Int)=m:=by rw[qE];lia
 refine qz (K:=K) (xs:=B.map V.ref) (λi M j=>δ H j/\j I=some (.lst ((dD m f r c d).map V.int))/\j l2=some (.lst (B.map V.ref))/\Ζ j c B o.reverse/\∃(v4 v5:Option V),j l=some (.lst (Y7 m (bV m f r c d (o.take i))))/\M=[some (V.ref p),some (V.int r),some (V.ref I),some (V.ref l),v4,v5]) ⟨YD.trans s3,s3 _ _ Y,e2,pa,_,_,s3 _ _ S,rfl⟩ (λi M j _ z=>ξ.of z.2.2.1) ?_ ?_
 .rintro i x M j N hN hx ⟨s4,w3,e3,Za,v4,v5,c3,rfl⟩;have il:=(az.mp hx).1;rw[bc,aa]at il;rw[bc]at ql;rw[cB (by rw[aa];exact il),aa]at hx;obtain⟨q,v,rfl,Wn,hv,eq⟩:=Za.get hx;rw[cB (by lia),show o.length-1-(B.length-1-i)=i by lia]at hv;have vm:=aQ hv;have y:=O.Χ v vm;have vn:=O.ne vm;have u:=R.up v y.1 y.2 vn;obtain⟨kk,hk,k0,k1⟩:=nU g R y.1 y.2 vn;have ek:tup f c v=kk:=by unfold tup;rw[hk];rfl
  walk_at "";refine⟨_,Ξ.of eq,rfl,_,_,rfl,_,_,rfl,rfl,?_⟩;refine⟨p,I,t,m,ps,f,dD m f r c d,v,c v,kk,rfl,W.same s4,ξ.of w3,ll,y,u.1,hk,k1,k0,_,rfl,?_⟩;rw[gN y.1 y.2,gN u.1.1 u.1.2];have C:o.take (i+1)=o.take i++[v]:=by rw[bK,hv];rfl
  by_cases L:ο m f r c d v*kk=ο m f r c d (c v)
  .rw[aj (bh L)];refine wC c3 u.1.1 (by unfold Y7;rw[aa,b7];lia) ?_;rw[RA u.1.1 u.1.2];exact hN _ _ ⟨s4.put nl _,by rw[aR Z];exact w3,by rw[aR XQ];exact e3,Paired.imp' (λa b h=>by rw[aR (gU h c3 (by intro z;cases z))];exact h) Za,_,_,by rw[ay,C,L4 (by rw[ek];exact L)],rfl⟩
  .rw[ag (by rw[bA L];decide)];exact hN _ _ ⟨s4,w3,e3,Za,_,_,by rw[C,MW (by rw[ek];exact L)];exact c3,rfl⟩
 .rintro M j ⟨s4,w3,e3,Za,v4,v5,c3,rfl⟩;rw[bc]at ql;rw[aa,ql,bx]at c3;walk_at "";exact k o l j U O nl s4 c3
def qB(T:Txt K X):Sp:=λd H Q _=>∃(a:Addr)(b:d2),d=[.ref a]/\ξ K H a (b.map V.int)/\b.length<=1000/\∀l c,H l=none->δ H c->c l=some (.lst ((ϩ b).map V.int))->Q (.ref l) c
abbrev jQ:Stmt:=top 44
theorem u8:η ["values","found","row"] ["values"] (aK jQ):=.of
theorem xx:Zq (aK jQ) "row":=.of (by kernel_rfl)
theorem wJ:Ϝ (aK jQ) "zip":=.of (by kernel_rfl)
theorem Ch(T:Txt K X)(hq:cg (Ε P w)):Ok P w K X base "differences" jQ ["values"] 1 (qB T):=λ_ _ D=>by
 refine D.F.Ϙ u8 (by walk_at "v") λΑ A am s H vs Q E hr h=>?_;obtain⟨a,xs,rfl,ha,xl,k⟩:=h;refine⟨_,(aD (Δ 1 (eD aB)) (aD (Δ 2 (Y8 me T.list (ah (ε 0) aB))) (aD (o9 PassesOwn.never (sI (ε 2) (λ_=>rfl)) (aD (dz (iR PySem.F.plainAttrs_list PySem.F.slot_list_append PySem.F.type_list_append fM (ε 1) (ah (Ι bL (ε 2) aU) aB))) (aO (KD (i:=2) u8.nd rfl xx.l rfl (tj (Nc:=["earlier","later"]) 2 (by decide +kernel) (by decide +kernel) rfl (by decide +kernel) rfl) (U7 true true wJ.g T.zip (ah (ε 2) (ah (E1 Il (ε 2) (Ij aU) IP) aB))) (λ_ _ _ _=>(IJ K rfl (n:=2) rfl (cA (fj (i:=0) (show(["earlier","later"]:gy).Nodup from by decide +kernel) rfl (Or.inl rfl)) (cA (fj (i:=1) (show(["earlier","later"]:gy).Nodup from by decide +kernel) rfl (Or.inl rfl)) iL)))) (λ_ _ _ _=>jh) (λ_ _ _ _=>(bn iB (pv 1) (pv 0))))))) (aO (bR (ε 1)))))),?_⟩;walk_at "s";unfold tSl Jx Xb;refine cL λN0 h0=>?_;walk_at "";refine⟨cm (by simp),λl nl=>h0 _ _ (cL λN1 h1=>?_)⟩;have Z:=δ.new (HO.lst []) nl;have S:upd H l (HO.lst []) l=some (.lst (([]:d2).map V.int)):=ay;generalize upd H l (HO.lst [])=H1 at Z S ⊢;walk_at "";refine⟨_,.inl (Z.seq ha),λq nq=>h1 _ _ (cL λN2 U=>?_)⟩;have s2:=δ.new (HO.lst (xs.map V.int)) nq;have e2:upd H1 q (HO.lst (xs.map V.int)) q=some (.lst (xs.map V.int)):=ay;have C:=s2 _ _ S;have WQ:=Z.trans s2;have u:q≠l:=λz=>by rw[z,S]at nq;cases nq
 generalize upd H1 q (HO.lst (xs.map V.int))=H2 at WQ e2 C ⊢;refine u9 (λn y j=>E3 λ(f ϛ:d2)(q:Addr)=>n=f.length/\ϛ++ϩ f=ϩ xs/\ϛ.length+f.length=xs.length/\q≠l/\j q=some (.lst (f.map V.int))/\j l=some (.lst (ϛ.map V.int))/\δ H j/\y=[some (V.ref a),some (V.ref l),some (V.ref q)]) _ ⟨xs,[],q,rfl,rfl,by simp,u,e2,C,WQ,rfl⟩ ?_;rintro n y j NW hN Xi ⟨f,m,q,rfl,O,hl,u,e3,B,s3,rfl⟩;refine⟨_,rfl,!(f.map V.int).isEmpty,.inl ⟨_,ξ.of e3,rfl⟩,?_⟩;cases f with
 | nil=>
   refine TC (U _ _ ?_);walk_at "";have O:m=ϩ xs:=by
    have:m++[]=ϩ xs:=O;rw[bH]at this;exact this
   exact k l j nl s3 (by rw[B,O])
 | cons x r=>
   refine Us ⟨NW,Xi,?_⟩;rw[aF]at hl;refine cL λM1 k1=>?_;walk_at "";refine⟨Io B,Υ e3 (v:=V.int x) (cT (b9 0) rfl) (oZ B (d4 (by rw[aa];lia)) (k1 _ _ ?_))⟩;have e4:upd j l (HO.lst (m.map V.int++[V.int x])) l=some (.lst ((m++[x]).map V.int)):=by rw[ay,aw];rfl
   have t:upd j l (HO.lst (m.map V.int++[V.int x])) q=some (.lst ((x::r).map V.int)):=by rw[aR u];exact e3
   have s4:δ H (upd j l (HO.lst (m.map V.int++[V.int x]))):=λb o e=>by rw[aR (cq e nl)];exact s3 _ _ e
   generalize upd j l (HO.lst (m.map V.int++[V.int x]))=H4 at e4 t s4 ⊢;walk_at "";refine slI (ξ.of t) λp np=>?_;have R:=δ.new (HO.lst ((CZ (x::r) (some 1) none).map V.int)) np;have e5:upd H4 p (HO.lst ((CZ (x::r) (some 1) none).map V.int)) p=some (.lst (((x::r).drop 1).map V.int)):=by
    rw[ay,<-Fz,LB _ (by decide),jU]
    rfl
   generalize upd H4 p (HO.lst ((CZ (x::r) (some 1) none).map V.int))=H5 at R e5 ⊢;have L:=R _ _ t;have J:=R _ _ e4;have al:=s4.trans R;refine⟨q,p,⟨rfl,rfl⟩,⟨_,ξ.of L⟩,⟨_,ξ.of e5⟩,λpc Wf=>?_⟩;refine QN (K:=K) (c:=true) (d:=true) (a:=q) (b:=p) (xs:=(x::r).map V.int) (zs:=((x::r).drop 1).map V.int) (λi I y G=>δ H5 G/\G pc=some (.lst I)/\I=((((x::r).zip ((x::r).drop 1)).take i).map λq=>q.2-q.1).map V.int/\∃v w,y=[v,w]) ⟨δ.new _ Wf,ay,rfl,_,_,rfl⟩ (λi I y G z=>⟨ξ.of (z.1 _ _ L),ξ.of (z.1 _ _ e5)⟩) ?_ ?_
   .rintro i y1 y2 I y G qt N hN6 h1 U ⟨s6,e6,rfl,v,w,rfl⟩ nqt;obtain⟨W,M,rfl⟩:=List.μ h1;obtain⟨Y,ac,rfl⟩:=List.μ U;have ez:((x::r).zip ((x::r).drop 1))[i]?=some (W,Y):=by
     rw[List.getElem?_zip_eq_some];exact⟨M,ac⟩
    have il:=(az.mp M).1;have et:((x::r).zip ((x::r).drop 1)).take (i+1)=((x::r).zip ((x::r).drop 1)).take i++[(W,Y)]:=(by rw[bK,ez];rfl);rw[aF]at il;walk_at "";have s7:=δ.new (HO.tup [V.int W,V.int Y]) nqt;refine⟨_,Ξ.of ay,rfl,_,_,rfl,_,_,rfl,rfl,?_⟩;walk_at "";refine⟨s7 _ _ e6,d4 (by rw[aa,aa,bq];lia),hN6 _ _ _ ⟨?_,ay,?_,_,_,rfl⟩⟩
    .exact λb o e=>by rw[aR (cq e Wf)];exact s7 _ _ (s6 _ _ e)
    .rw[et,aw,aw]
     rfl
   .rintro I y G ⟨s6,e6,rfl,v,w,rfl⟩;have en:((((x::r).zip ((x::r).drop 1)).take (min ((x::r).map V.int).length (((x::r).drop 1).map V.int).length)).map λq=>q.2-q.1)=Zu (x::r):=by
     unfold Zu;rw[dc];rw[lK,aa,aa];exact ap _
    rw[en]at e6;have ai:H5 l≠none:=(by rw[J];intro z;cases z);exact hN _ _ _ (by rw[xV];simp) ⟨Zu (x::r),m++[x],pc,rfl,by rw[bX,<-O,Gk];rfl,by rw[aE,xV];simp;lia,λz=>ai (by rw[<-z];exact Wf),e6,s6 _ _ J,al.trans s6,rfl⟩
def kh(T:Txt K X):Sp:=λe H Q _=>E3 λ(a:Addr)(b:d2)(n:Int)=>e=[.ref a,.int n]/\ξ K H a (b.map V.int)/\b.length<=100/\-100<=n/\n.natAbs<ϫ/\(∀c∈b,c.natAbs<ϫ)/\(∀k,k<b.length->(Yh n k).natAbs<ϫ)/\∀d,δ H d->Q (.int (gT b n 0)) d
abbrev ic:Stmt:=top 45
theorem yX:η ["found","at","value","choices","k","difference"] ["found","at"] (aK ic):=.of
theorem yd:Zq (aK ic) "value":=.of (by kernel_rfl)
theorem u5:Ϝ (aK ic) "enumerate":=.of (by kernel_rfl)
theorem Hm(T:Txt K X)(I:cg (Ε P w)):Ok P w K X base "value_at" ic ["found","at"] 1 (kh T):=λ_ _ D=>by
 refine D.F.Ϙ yX (by walk_at "v") λR A j s H L Q E J h=>?_;obtain⟨a,e,n,rfl,r,M,v,O,cb,G,k⟩:=h;refine⟨_,(aD (Δ 2 aU) (aD (Δ 3 aU) (aD (fm PassesOwn.never rfl (xW true u5.g T.enumerate (ε 0)) (kN (n:=2) rfl (cA (ϒ 4) (cA (ϒ 5) iL))) (aD (sW (i:=2) yX.nd rfl (Or.inl yd.l) (bn pD (ε 5) (ε 3)) xz) (aO (Δ 3 (bn gO (bn pD (ε 3) (bn iB (ε 1) (ε 4))) (bn eT (ε 4) aU)))))) (aO (bR (ε 2)))))),?_⟩;walk_at "s";walk_at "";refine⟨⟨_,r⟩,?_⟩;refine zp (K:=K) (c:=true) (xs:=e.map V.int) (λi f b=>δ H b/\∃m o,f=[some (V.ref a),some (V.int n),some (V.int (gT (e.take i) n 0)),some (V.int (Yh n i)),m,o]) ⟨δ.refl _,_,_,by rw[sN,eY,nZ]⟩ (λi f b z=>z.1.seq r) ?_ ?_
 .rintro i x f b q N hN hx ⟨s2,m,o,rfl⟩ nq;obtain⟨c,p,rfl⟩:=List.μ hx;have y:=(az.mp p).1;have C:e.take (i+1)=e.take i++[c]:=by rw[bK,p];rfl
  have u:=δ.new (HO.tup [V.int (i:Int),V.int c]) nq;have t:=cb c (aQ p);have d:=G i y;have B:(n-(i:Int)).natAbs<ϫ:=by
   have:(200:Nat)<ϫ:=hJ (k:=8) (by decide) (by decide)
   lia
  walk_at "";refine⟨_,Ξ.of ay,rfl,_,_,rfl,_,_,rfl,rfl,c,rfl,qN t d,(i:Int),rfl,qN d B,(i:Int),rfl,⟨by lia,by lia⟩,hN _ _ ⟨s2.trans u,some (V.int (i:Int)),some (V.int c),?_⟩⟩;rw[<-Oo,Int.mul_ediv_cancel _ (show(i:Int)+1≠0 by lia),C,QM,bq,Nat.min_eq_left (by lia),iX]
 .rintro f b ⟨s2,m,o,rfl⟩;rw[aa,bx];walk_at "";exact k b s2
def tY(T:Txt K X):Sp:=λe H Q _=>E3 λ(a:Addr)(b:d2)(n:Nat)=>e=[.ref a,.int n]/\ξ K H a (b.map V.int)/\b.length<=100/\n<=100/\(∀c∈b,c.natAbs<ϫ)/\∀l d,H l=none->δ H d->d l=some (.lst (((List.range n).map λi=>Τ b i 0).map V.int))->Q (.ref l) d
abbrev mD:Stmt:=top 46
theorem AM:η ["found","many"] ["found","many"] (aK mD):=.of
theorem uS:Ϝ (aK mD) "range":=.of (by kernel_rfl)
abbrev ky(P w base)(T:Txt K X):=Cb P w K X base "value_at" ic ["found","at"] 1 (kh T)
theorem Bm(T:Txt K X)(u:cg (Ε P w))(f:ky P w base T):Ok P w K X base "first_values" mD ["found","many"] 2 (tY T):=λ_ _ D=>by
 refine D.F.Ϙ AM (by walk_at "v") λJ A j s H C Q E x h=>?_;obtain⟨a,r,n,rfl,z,y,I,cb,k⟩:=h;refine⟨_,(aO (bR (gW rfl (Yz ["at","found"] 1 [0]) (iP uS.g T.range (ah (ε 1) aB)) (λ_ _ _ _=>(fj (i:=0) (show(["at","found"]:gy).Nodup from by decide +kernel) rfl (Or.inl rfl))) (λ_ _ _ _=>jh) (λ_ _ _ _=>(qD f.G (x.mono (by decide)) (by rfl) f.D.m f.D.F.kp f.D.b .nil (tN u) (ah (pv 1) (ah (pv 0) aB))))))),?_⟩;walk_at "s";walk_at "";refine⟨by lia,by lia,λp l=>?_⟩;rw[bJ];refine oC (lo:=0) (n:=n) (λi d q c=>δ H c/\c p=some (.lst d)/\d=((List.range i).map λi=>Τ r i 0).map V.int/\∃v,q=[v,some (V.ref a)]) ⟨δ.new _ l,ay,rfl,_,rfl⟩ ?_ ?_
 .rintro i d q c N hN hi ⟨s2,e2,rfl,v,rfl⟩;walk_at "";refine⟨a,r,(i:Nat),by rw[cR],s2.seq z,y,by lia,?_,cb,λk _=>(show ch i k<ϫ from Uz (by lia)),λB t=>⟨t _ _ e2,d4 (by rw[aa,aa,bD];lia),hN _ _ _ ⟨?_,ay,?_,_,rfl⟩⟩⟩
  .exact(show i<ϫ from hJ (k:=7) (by lia) (by decide))
  .exact λb o e=>by rw[aR (cq e l)];exact t _ _ (s2 _ _ e)
  .rw[c8,aw,aw]
   rfl
 .rintro d q c ⟨s2,e2,rfl,v,rfl⟩;exact k p c l s2 e2
def r9(T:Txt K X):Sp:=λi H Q _=>E16 λ(t l w j g d:Addr)(b:List (Str×V))(m:Int)(n:gg)(h:hH)(a:d2)(f:List V)(p k c:Int)(e:Option Int)=>i=[.ref t,.int p,.int k]/\H t=some (.ins T.Tally l b)/\b.lookup ("web":Str)=some (.ref w)/\b.lookup ("weights":Str)=some (.ref g)/\b.lookup ("bearers":Str)=some (.ref d)/\χ T.Web H w m j n h/\H g=some (.lst (a.map V.int))/\(a.length:Int)=m/\H d=some (.lst f)/\(0<=p/\p<m)/\(0<=k/\k<m)/\f[p.toNat]?=some (YT e)/\cP h k p=some c/\2<=c/\c<=1000000/\Q (.bl (decide (a.getD k.toNat 0*c=a.getD p.toNat 0)&&decide (e≠some k))) H
abbrev pG:Stmt:=top 58
theorem K3:η ["tally","place","kid"] ["tally","place","kid"] (aK pG):=.of
theorem KS(T:Txt K X)(o:cg (Ε P w))(G:ka P w base T):Ok P w K X base "is_free" pG ["tally","place","kid"] 6 (r9 T):=λ_ _ D=>by
 refine D.F.Ϙ K3 (by walk_at "v") λΑ A f s H Y Q E r h=>?_;obtain⟨t,l,w,B,N,Z,g,m,M,U,a,cv,p,k,c,b,rfl,i,J,y,v,W,R,I,C,n,x,S,u,L,O,q⟩:=h;refine⟨_,(aO (bR (Ah (Ν G r o (ah (dB (ε 0) rfl) (ah (dB (ε 0) rfl) (ah (ε 2) (ah (ε 1) aB))))) (Ar (m8 sj (ε 2) (Ι bL (dB (ε 0) rfl) (ε 1)) (mV _)))))),?_⟩;walk_at "s";walk_at "";refine⟨T.Tally,l,g,i,T.cW,T.RW,_,J,T.Tally,l,g,i,T.cW,T.W8,_,y,w,N,B,m,M,U,a,k,p,c,rfl,W,ξ.of R,I,x,n,u,O,L,⟨_,rfl,?_⟩⟩;by_cases d:a.getD k.toNat 0*c=a.getD p.toNat 0
 .rw[aj (bh d)];refine⟨T.Tally,l,g,i,T.cW,T.tV,_,v,Υ C (cT n.1 S) ⟨?_,?_⟩⟩
  .cases b<;>rfl
  .have e:(!decide (V.int k=YT b))=(decide (a.getD k.toNat 0*c=a.getD p.toNat 0)&&decide (b≠some k)):=by
    rw[bh d,iZ];cases b with
    | none=>simp[YT]
    | some j=>
      by_cases z:j=k
      .subst z;simp[YT]
      .simp[YT,z,Ne.symm z]
   rw[e];exact q
 .rw[ag (by rw[bM];exact d)];rw[bA d,iY]at q;exact q
def xq(T:Txt K X):Sp:=λg H Q _=>E5 λ(a b:Addr)(d e:d2)(n:Nat)=>g=[.ref a,.ref b,.int n]/\ξ K H a (d.map V.int)/\ξ K H b (e.map V.int)/\n<d.length/\n<e.length/\n<=100/\(∀c∈d,c.natAbs<ϫ)/\(∀c∈e,c.natAbs<ϫ)/\∀f,δ H f->Q (.int (W2 (λi=>d.getD i 0) (λi=>e.getD i 0) n)) f
abbrev oO:Stmt:=top 48
theorem GG:η ["one","other","at"] ["one","other","at"] (aK oO):=.of
theorem wP:Ϝ (aK oO) "range":=.of (by kernel_rfl)
theorem Gi(T:Txt K X)(G:cg (Ε P w)):Ok P w K X base "parted_at" oO ["one","other","at"] 1 (xq T):=λ_ _ D=>by
 refine D.F.Ϙ GG (by walk_at "v") λR A l s H M Q E I h=>?_;obtain⟨a,b,c,d,n,rfl,B,z,O,J,L,C,y,k⟩:=h;refine⟨_,(aO (bR (W4 (vK rfl) T.sum (ah (gW rfl (Yz ["k","one","other","at"] 1 [0,1,2]) (iP wP.g T.range (ah (bn eT (bY 2) aU) aB)) (λ_ _ _ _=>(fj (i:=0) (show(["k","one","other","at"]:gy).Nodup from by decide +kernel) rfl (Or.inl rfl))) (λ_ _ _ _=>jh) (λ_ _ _ _=>(bn pD (Ι (pi K rfl) (pv 1) (pv 0)) (Ι (pi K rfl) (pv 2) (bn iB (pv 3) (pv 0)))))) aB)))),?_⟩;walk_at "s";walk_at "";refine⟨by lia,by lia,λp u=>?_⟩;rw[show((n:Int)+1).toNat=n+1 by lia];refine oC (lo:=0) (n:=n+1) (λi j r f=>δ H f/\f p=some (.lst j)/\j=((List.range i).map λk=>c.getD k 0*d.getD (n-k) 0).map V.int/\∃v,r=[v,some (V.ref a),some (V.ref b),some (V.int n)]) ⟨δ.new _ u,ay,rfl,_,rfl⟩ ?_ ?_
 .rintro i j r f N hN hi ⟨s2,e2,rfl,v,rfl⟩;walk_at "";have q:i<c.length:=by lia
  have m:n-i<d.length:=by lia
  have t:c.getD i 0=c[i]:=by rw[aX,ao q];rfl
  have x:d.getD (n-i) 0=d[n-i]:=by rw[aX,ao m];rfl
  refine⟨a,_,_,_,rfl,rfl,s2.seq B,cT (v:=V.int (c.getD i 0)) (by lia) (by rw[show((0:Int)+(i:Int)).toNat=i by lia,aA,ao q,t];rfl),b,_,_,_,rfl,rfl,s2.seq z,cT (v:=V.int (d.getD (n-i) 0)) (by lia) (by rw[show((n:Int)-(0+(i:Int))).toNat=n-i by lia,aA,ao m,x];rfl),c.getD i 0,rfl,d.getD (n-i) 0,rfl,qN (by rw[t];exact C _ (dj q)) (by rw[x];exact y _ (dj m)),e2,d4 (by rw[aa,aa,bD];lia),hN _ _ _ ⟨?_,ay,?_,_,rfl⟩⟩
  .exact λb o e=>by rw[aR (cq e u)];exact s2 _ _ e
  .rw[c8,aw,aw]
   rfl
 .rintro j r f ⟨s2,e2,rfl,v,rfl⟩;refine⟨p,rfl,_,.inl (ξ.of e2),?_⟩;rw[Ik];exact k f s2
def DC(T:Txt K X):Sp:=λg H Q _=>E4 λ(a b:Addr)(d e:d2)=>g=[.ref a,.ref b]/\ξ K H a (d.map V.int)/\ξ K H b (e.map V.int)/\d.length<=e.length/\d.length<=100/\(∀c∈d,c.natAbs<ϫ)/\(∀c∈e,c.natAbs<ϫ)/\∀l f,H l=none->δ H f->f l=some (.lst (((List.range d.length).map λn=>W2 (λi=>d.getD i 0) (λi=>e.getD i 0) n).map V.int))->Q (.ref l) f
abbrev sV:Stmt:=top 47
theorem Ms:η ["one","other"] ["one","other"] (aK sV):=.of
theorem AJ:Ϝ (aK sV) "range":=.of (by kernel_rfl)
theorem Lv(T:Txt K X)(y:cg (Ε P w))(d:Cb P w K X base "parted_at" oO ["one","other","at"] 1 (xq T)):Ok P w K X base "parted" sV ["one","other"] 2 (DC T):=λ_ _ D=>by
 refine D.F.Ϙ Ms (by walk_at "v") λO A l s H M Q E z h=>?_;obtain⟨a,b,j,t,rfl,x,C,R,J,I,B,k⟩:=h;refine⟨_,(aO (bR (gW rfl (Yz ["at","one","other"] 1 [0,1]) (iP AJ.g T.range (ah (W4 kG T.len (ah (bY 0) aB)) aB)) (λ_ _ _ _=>(fj (i:=0) (show(["at","one","other"]:gy).Nodup from by decide +kernel) rfl (Or.inl rfl))) (λ_ _ _ _=>jh) (λ_ _ _ _=>(qD d.G (z.mono (by decide)) (by rfl) d.D.m d.D.F.kp d.D.b .nil (tN y) (ah (pv 1) (ah (pv 2) (ah (pv 0) aB)))))))),?_⟩;walk_at "s";walk_at "";refine⟨_,.inl x,?_⟩;rw[aa];refine⟨by lia,by lia,λp q=>?_⟩;rw[bJ];refine oC (lo:=0) (n:=j.length) (λi f r c=>δ H c/\c p=some (.lst f)/\f=((List.range i).map λn=>W2 (λi=>j.getD i 0) (λi=>t.getD i 0) n).map V.int/\∃v,r=[v,some (V.ref a),some (V.ref b)]) ⟨δ.new _ q,ay,rfl,_,rfl⟩ ?_ ?_
 .rintro i f r c N hN hi ⟨s2,e2,rfl,v,rfl⟩;walk_at "";refine⟨a,b,j,t,i,by rw[cR],s2.seq x,s2.seq C,hi,by lia,by lia,I,B,λL u=>⟨u _ _ e2,d4 (by rw[aa,aa,bD];lia),hN _ _ _ ⟨?_,ay,?_,_,rfl⟩⟩⟩
  .exact λb o e=>by rw[aR (cq e q)];exact u _ _ (s2 _ _ e)
  .rw[c8,aw,aw]
   rfl
 .rintro f r c ⟨s2,e2,rfl,v,rfl⟩;exact k p c q s2 e2
def qP(T:Txt K X):Sp:=λf H Q _=>E12 λ(t g w d:Addr)(a:List (Str×V))(m:Int)(e:gg)(b:hH)(p k c:Int)(n:Nat)=>f=[.ref t,.int p,.int k,.int n]/\H t=some (.ins T.Tally g a)/\a.lookup ("web":Str)=some (.ref w)/\χ T.Web H w m d e b/\(0<=p/\p<m)/\(0<=k/\k<m)/\cP b k p=some c/\2<=c/\c<=1000000/\Q (.int (((n:Int)+1)*c-1)) H
abbrev pO:Stmt:=top 61
theorem Ha:η ["tally","place","kid","given"] ["tally","place","kid","given"] (aK pO):=.of
theorem G0(T:Txt K X)(f:cg (Ε P w))(l:jm P w base T):Ok P w K X base "held_for" pO ["tally","place","kid","given"] 4 (qP T):=λ_ _ D=>by
 refine D.F.Ϙ Ha (by walk_at "v") λL A a s H G Q E g h=>?_;obtain⟨t,x,w,o,i,m,B,C,p,k,c,n,rfl,r,y,W,v,j,e,I,J,q⟩:=h;refine⟨_,(aO (bR (bn iB (bn mw (bn eT (ε 3) aU) (Ν l g f (ah (dB (ε 0) rfl) (ah (ε 2) (ah (ε 1) aB))))) aU))),?_⟩;walk_at "s";walk_at "";refine⟨T.Tally,x,i,r,T.cW,T.RW,_,y,w,o,m,B,C,k,p,rfl,W,λd _ _ _ _ b=>?_,λu=>absurd ⟨j,v⟩ u,λ_ _ _ _ b=>absurd (e.symm.trans b) (by intro z;cases z)⟩;have:d=c:=bi (b.symm.trans e);subst this;exact⟨d,rfl,.inr ⟨by lia,by lia⟩,q⟩
def sk(T:Txt K X):Sp:=λh H Q _=>E11 λ(t i f e ld:Addr)(d:List (Str×V))(b pv:List V)(p:Int)(a:d2)(n:Nat)=>h=[.ref t,.int p,.int n]/\H t=some (.ins T.Tally i d)/\d.lookup ("rests":Str)=some (.ref f)/\H f=some (.lst b)/\0<=p/\b[p.toNat]?=some (.ref e)/\H e=some (.lst (.ref ld::pv))/\H ld=some (.lst (a.map V.int))/\a.length<=100/\n<ϫ/\(∀c∈a,c.natAbs<ϫ)/\(∀k,k<a.length->ch n k<ϫ)/\∀g,δ H g->Q (.int (Τ a n 0)) g
abbrev pC:Stmt:=top 59
theorem K9:η ["tally","place","held"] ["tally","place","held"] (aK pC):=.of
theorem KO(T:Txt K X)(b:cg (Ε P w))(f:ky P w base T):Ok P w K X base "ways_of" pC ["tally","place","held"] 2 (sk T):=λ_ _ D=>by
 refine D.F.Ϙ K9 (by walk_at "v") λG A a s H z Q E c h=>?_;obtain⟨t,u,y,C,ld,e,B,pv,p,i,n,rfl,m,g,d,j,q,l,r,o,v,cb,x,k⟩:=h;refine⟨_,(aO (bR (Ν f c b (ah (Ι bL (mM bL (dB (ε 0) rfl) (ε 1) (λ_ _=>rfl)) aU) (ah (ε 2) aB))))),?_⟩;walk_at "s";walk_at "";refine⟨T.Tally,u,e,m,T.cW,T.ϴ,_,g,Υ d (cT j q) (Υ l (cT (b9 0) rfl) ?_)⟩;exact⟨ld,i,n,rfl,ξ.of r,o,by lia,v,cb,x,k⟩
def rH(T:Txt K X):Sp:=λi H Q _=>E18 λ(t l w j d f ld:Addr)(b:List (Str×V))(m:Int)(o:gg)(h:hH)(e pv:List V)(p k:Int)(c n:Nat)(a:d2)=>i=[.ref t,.int p,.int k,.int n]/\H t=some (.ins T.Tally l b)/\b.lookup ("web":Str)=some (.ref w)/\b.lookup ("rests":Str)=some (.ref d)/\χ T.Web H w m j o h/\(0<=p/\p<m)/\(0<=k/\k<m)/\cP h k p=some (c:Int)/\2<=c/\c<=1000000/\H d=some (.lst e)/\e[k.toNat]?=some (.ref f)/\H f=some (.lst (.ref ld::pv))/\H ld=some (.lst (a.map V.int))/\a.length<=24/\n<=24/\(∀c∈a,c.natAbs<ϫ)/\∀g,δ H g->Q (.int (Τ a (τ c n) 0)) g
abbrev nG:Stmt:=top 60
theorem D8:η ["tally","place","kid","given"] ["tally","place","kid","given"] (aK nG):=.of
abbrev ly(P w base)(T:Txt K X):=Cb P w K X base "held_for" pO ["tally","place","kid","given"] 4 (qP T)
abbrev lN(P w base)(T:Txt K X):=Cb P w K X base "ways_of" pC ["tally","place","held"] 2 (sk T)
theorem Er(T:Txt K X)(d:cg (Ε P w))(x:ly P w base T)(r:lN P w base T):Ok P w K X base "ways_given" nG ["tally","place","kid","given"] 5 (rH T):=λ_ _ D=>by
 refine D.F.Ϙ D8 (by walk_at "v") λΑ A a s H Z Q E f h=>?_;obtain⟨t,o,w,G,u,I,ld,g,m,O,V,C,pv,p,k,c,n,z,rfl,l,M,y,W,J,i,U,c2,R,v,b,B,L,cl,S,cb,q⟩:=h;refine⟨_,(aO (bR (Ν r f d (ah (ε 0) (ah (ε 2) (ah (Ν x f d (ah (ε 0) (ah (ε 1) (ah (ε 2) (ah (ε 3) aB))))) aB)))))),?_⟩;walk_at "s";walk_at "";have e:((n:Int)+1)*(c:Int)-1=((τ c n:Nat):Int):=by
  unfold τ;have:1<=(n+1)*c:=bP (show 1<=n+1 by lia) (show 1<=c by lia);rw[jG this,eX]
  rfl
 have N:τ c n+1<=2^25:=by
  unfold τ;have h1:(n+1)*c<=25*1000000:=bP (by lia) R;have Y:(2:Nat)^25=33554432:=rfl
  lia
 refine⟨t,o,w,G,g,m,O,V,p,k,c,n,rfl,l,M,W,J,i,U,by lia,by lia,?_⟩;rw[e];exact⟨t,o,u,I,ld,g,C,pv,k,z,τ c n,rfl,l,y,v,i.1,b,B,L,by lia,hJ (k:=25) (by lia) (by decide),cb,λj hj=>Cm N (by lia),q⟩
def tM(H:Hp)(b:List Int->Nat)(f:List Int->Nat->Int)(e:gg)(a:List (List Int)):Prop:=Paired (λld c=>∃d:List Int,H ld=some (.lst (d.map V.int))/\Ϗ (b c) d (f c)) e a
structure aca(H:Hp)(rs:hH)(m p:Int)(rv:List V)(W:Int->Nat->Int)(c d:fz)(k:Int):Prop where
 k0:0<=k
 k1:k<m
 tl:cP rs k p=some (c k:Int)
 c2:2<=c k
 c1:c k<=1000000
 wk:ul (d k) (W k)
 at_:E4 λ(lp ld:Addr)(pv:List V)(cs:d2)=>rv[k.toNat]?=some (.ref lp)/\H lp=some (.lst (.ref ld::pv))/\H ld=some (.lst (cs.map V.int))/\Ϗ 15000 cs (W k)
def frK(a:d2)(b:Option Int)(c:fz)(p k:Int):Bool:=decide (a.getD k.toNat 0*(c k:Int)=a.getD p.toNat 0)&&decide (b≠some k)
def ZU(a:Option Int)(k:Int):Bool:=decide (a=some k)
def yL(T:Txt K X):Sp:=λy H Q _=>E23 λ(t A w z v q n j i:Addr)(a:List (Str×V))(m:Int)(B:gg)(x:hH)(f:d2)(u s r:List V)(p:Int)(b:d2)(h:Option Int)(W:Int->Nat->Int)(c d:fz)=>y=[.ref t,.int p]/\H t=some (.ins T.Tally A a)/\a.lookup ("web":Str)=some (.ref w)/\a.lookup ("weights":Str)=some (.ref v)/\a.lookup ("bearers":Str)=some (.ref q)/\a.lookup ("kids":Str)=some (.ref n)/\a.lookup ("rests":Str)=some (.ref j)/\χ T.Web H w m z B x/\H v=some (.lst (f.map V.int))/\(f.length:Int)=m/\H q=some (.lst u)/\H n=some (.lst s)/\H j=some (.lst r)/\(0<=p/\p<m)/\u[p.toNat]?=some (YT h)/\s[p.toNat]?=some (.ref i)/\H i=some (.lst (b.map V.int))/\(∀k∈b,aca H x m p r W c d k)/\((b.map λk=>d k+1).sum:Int)<m/\∀l o e,H l=none->δ H e->e l=some (.lst (o.map V.ref))->tM e (Xk d) (ς (frK f h c p) (ZU h) (λk g=>W k (τ (c k) g))) o (YW b)->Q (.ref l) e
abbrev jq:Stmt:=top 57
theorem qW:η ["tally","place","many","rests","kid","ways"] ["tally","place"] (aK jq):=.of
theorem yt:YQ (aK jq) "rests":=.of (by kernel_rfl)
theorem Br:YQ (aK jq) "kid":=.of (by kernel_rfl)
theorem zA:YQ (aK jq) "ways":=.of (by kernel_rfl)
theorem qa:Ϝ (aK jq) "reversed":=.of (by kernel_rfl)
theorem yq:Ϝ (aK jq) "range":=.of (by kernel_rfl)
theorem zM:Ϝ (aK jq) "list":=.of (by kernel_rfl)
abbrev ni(P w base)(T:Txt K X):=Cb P w K X base "is_free" pG ["tally","place","kid"] 6 (r9 T)
abbrev nT(P w base)(T:Txt K X):=Cb P w K X base "ways_given" nG ["tally","place","kid","given"] 5 (rH T)
theorem HJ(T:Txt K X)(hq:cg (Ε P w))(jL:Cb P w K X base "differences" jQ ["values"] 1 (qB T))(qm:Cb P w K X base "first_values" mD ["found","many"] 2 (tY T))(lq:ni P w base T)(zc:Cb P w K X base "parted" sV ["one","other"] 2 (DC T))(iH:nT P w base T):Ok P w K X base "rests_of" jq ["tally","place"] 7 (yL T):=λ_ _ D=>by
 refine D.F.Ϙ qW (by walk_at "v") λΑ A dK s H vs Q E hr h=>?_;obtain⟨t,dx,w,tw,lw,lb,lk,lr,ϻ,fs,m,ps,rs,xs,cv,kv,rv,p,ks,ob,W,c,d,rfl,ht,fw,fg,fb,fk,fr,WA,eg,xl,eb,ek,dg,hp,bk,YC,bm,Zv,dm,q⟩:=h;refine⟨_,(aD (Δ 2 (dB (dB (bY 0) rfl) rfl)) (aD (u7 (i:=3) qW.nd rfl (Or.inr yt.l) (eD (ah (eD (ah aU aB)) aB))) (aD (fm PassesOwn.never rfl (sR qa.g T.reversed (Ι bL (dB (bY 0) rfl) (bY 1))) (fj (i:=4) qW.nd rfl (Or.inr Br.l)) (aD (u7 (i:=5) qW.nd rfl (Or.inr zA.l) (gW rfl (Yz ["given","tally","place","kid"] 1 [0,1,4]) (iP yq.g T.range (ah (ε 2) aB)) (λ_ _ _ _=>(fj (i:=0) (show(["given","tally","place","kid"]:gy).Nodup from by decide +kernel) rfl (Or.inl rfl))) (λ_ _ _ _=>jh) (λ_ _ _ _=>(qD iH.G (hr.mono (by decide)) (by rfl) iH.D.m iH.D.F.kp iH.D.b .nil (tN hq) (ah (pv 1) (ah (pv 2) (ah (pv 3) (ah (pv 0) aB)))))))) (aO (eK (mq (Ν lq hr hq (ah (bY 0) (ah (bY 1) (ah (bY 4) aB))))) (aO (dz (iR PySem.F.plainAttrs_list PySem.F.slot_list_append PySem.F.type_list_append fM (bY 3) (ah (Ν jL hr hq (ah (Ν zc hr hq (ah (bY 5) (ah (Ν qm hr hq (ah (Ι bL (bY 3) (Bl xc aU)) (ah (ε 2) aB))) aB))) aB)) aB)))) (aO (eK (Ϻ jX (bY 4) (Ι bL (dB (bY 0) rfl) (bY 1))) (aO (dz (iR PySem.F.plainAttrs_list PySem.F.slot_list_append PySem.F.type_list_append fM (bY 3) (ah (Ν jL hr hq (ah (gW rfl (Yz ["count","rests"] 1 [3]) (g6 (bY 5)) (λ_ _ _ _=>(fj (i:=0) (show(["count","rests"]:gy).Nodup from by decide +kernel) rfl (Or.inl rfl))) (λ_ _ _ _=>jh) (λ_ _ _ _=>(bn pD (pv 0) (Ι (pi K rfl) (mM (pi K rfl) (pv 1) (Bl xc aU) (λ_ _=>rfl)) aU)))) aB)) aB)))) (aO (dz (iR PySem.F.plainAttrs_list PySem.F.slot_list_append PySem.F.type_list_append fM (bY 3) (ah (gW rfl (Yz ["difference","ways"] 1 [5]) (g6 (Ι bL (bY 3) (Bl xc aU))) (λ_ _ _ _=>(fj (i:=0) (show(["difference","ways"]:gy).Nodup from by decide +kernel) rfl (Or.inl rfl))) (λ_ _ _ _=>jh) (λ_ _ _ _=>(bn pD (Ι (pi K rfl) (pv 1) aU) (pv 0)))) aB)))))))))) (aO (bR (Ro rfl qa.g T.reversed zM.g T.list (bY 3))))))),?_⟩;walk_at "s";obtain⟨dw,wb⟩:=WA.ob;refine cL λN0 h0=>?_;walk_at "";refine⟨T.Tally,dx,fs,ht,T.cW,T.RW,_,fw,w,rfl,T.Web,dw,_,wb,T.lI,T.ϕ,_,jY _ _,h0 _ _ (cL λN1 h1=>?_)⟩;walk_at "";refine⟨cm (by simp),λq1 a8=>⟨cm (by simp),λl nl=>h1 _ _ (cL λN2 h2=>?_)⟩⟩;have s1:=δ.new (HO.lst [V.int 1]) a8;have s2:=δ.new (HO.lst [V.ref q1]) nl;have dv:H l=none:=s1.free nl;have e1:=s2 _ _ (ay (H:=H) (a:=q1) (o:=HO.lst [V.int 1]));have el:upd (upd H q1 (HO.lst [V.int 1])) l (HO.lst [V.ref q1]) l=some (.lst ([q1].map V.ref)):=ay;have WQ:=s1.trans s2;generalize upd (upd H q1 (HO.lst [V.int 1])) l (HO.lst [V.ref q1])=H2 at e1 el WQ ⊢;clear s1 s2 nl a8 h0 h1;walk_at "";have g:=WA.go;have m1:=g.m1;have Ο:=g.Ο;refine⟨T.Tally,dx,fs,WQ _ _ ht,T.cW,T.rz,_,fk,Υ (WQ _ _ ek) (cT hp.1 YC) ⟨ϻ,rfl,_,ξ.of (WQ _ _ bm),?_⟩⟩;generalize hF:ς (frK xs ob c p) (ZU ob) (λk g=>W k (τ (c k) g))=F at q;have dd:∀k∈ks,ul (d k) (W k):=λk hk=>(Zv k hk).wk;have c4:∀k∈ks,1<=c k/\c k<=1000000:=λk hk=>⟨aL (by decide) (Zv k hk).c2,(Zv k hk).c1⟩;refine qz (K:=K) (xs:=ks.map V.int) (λi B Z=>δ H Z/\(∃(O:gg)(ld:Addr),Z l=some (.lst ((O++[ld]).map V.ref))/\tM Z (Xk d) F (O++[ld]) ((List.range (i+1)).map λj=>ks.drop (ks.length-j)))/\∃v4 v5,B=[some (V.ref t),some (V.int p),some (V.int m),some (V.ref l),v4,v5]) ?_ (λi B Z _ z=>ξ.of (z.1 _ _ bm)) ?_ ?_
 .refine⟨WQ,⟨[],q1,el,.cons ⟨[1],e1,?_⟩ .nil⟩,_,_,rfl⟩;have e:ks.drop (ks.length-0)=[]:=by rw[gZ,f9]
  show Ϗ (Xk d (ks.drop (ks.length-0))) [1] (F (ks.drop (ks.length-0)));rw[e,<-hF];exact Ϗ.one
 .rintro i x B Z N hN r ⟨s3,⟨O,ld,e3,ra⟩,v4,v5,rfl⟩;rw[<-d9]at r;obtain⟨k,hk,rfl⟩:=List.μ r;have il:i<ks.length:=by
   have:=(az.mp hk).1;rw[bc]at this;exact this
  have b0:ks[ks.length-1-i]?=some k:=by
   rw[cB il]at hk;exact hk
  have eS:ks.drop (ks.length-(i+1))=k::ks.drop (ks.length-i):=by
   rw[show ks.length-(i+1)=ks.length-1-i by lia,ck (by lia),(az.mp b0).2,show ks.length-1-i+1=ks.length-i by lia]
  have km:=aQ b0;have C:=Zv k km;obtain⟨kp,kd,pv,cs,dA,k2,k3,kc⟩:=C.at_;have aT:∀x∈k::ks.drop (ks.length-i),x∈ks:=λx r=>by
   rw[<-eS]at r;exact b5 r
  have dS:((k::ks.drop (ks.length-i)).map λk=>d k+1).sum<m.toNat:=by
   rw[<-eS];have:=sK (λk=>d k+1) ks (ks.length-(i+1))
   lia
  have er:(List.range (i+1+1)).map (λj=>ks.drop (ks.length-j))=((List.range (i+1)).map λj=>ks.drop (ks.length-j))++[k::ks.drop (ks.length-i)]:=by rw[c8,aw,<-eS];rfl
  obtain⟨cS,db,ZV⟩:∃cS:List Int,Z ld=some (.lst (cS.map V.int))/\Ϗ (Xk d (ks.drop (ks.length-i))) cS (F (ks.drop (ks.length-i))):=by
   have:=ra;unfold tM at this;rw[c8,aw]at this;obtain⟨l0,a0,h2,_,h4⟩:=Bq this;have h5:=(d6 (List.append_inj' h2 rfl).2).1;rw[h5];exact h4
  generalize ks.drop (ks.length-i)=S at aT dS er ZV eS;have c6:∀{y:Addr}{zs:d2},zs≠[]->Z y=some (.lst (zs.map V.int))->y≠l:=λ{y zs} zn hy z=>by
   rw[z,e3]at hy;injection hy with hy
   injection hy with hy
   cases zs with
   | nil=>exact zn rfl
   | cons z0 zs=>
     cases O with
     | nil=>cases(d6 hy).1
     | cons _ _=>cases(d6 hy).1
  have Y:∀(y:Addr)(Wu:d2)(f:Hp),δ Z f->f y=some (.lst (Wu.map V.int))->Ϗ (Xk d (k::S)) Wu (F (k::S))->(O++[ld]).length<sizeLine->∀v5,tyV K "list" (V.ref l) f/\Xd (V.ref l) [V.ref y] f λ_ H6=>N [some (V.ref t),some (V.int p),some (V.int m),some (V.ref l),some (V.int k),v5] H6:=by
   intro y Wu f u ey be sz v5;have J:=u _ _ e3;refine⟨Io J,oZ J (by rw[aa];exact sz) (hN _ _ ⟨λb o e=>?_,⟨O++[ld],y,by rw[ay,aw (l₂:=[y])];rfl,?_⟩,_,_,rfl⟩)⟩
   .rw[aR (cq e dv)];exact u _ _ (s3 _ _ e)
   .rw[er];have yl:y≠l:=λz=>by
     rw[z,J]at ey;injection ey with ey
     injection ey with ey
     cases Wu with
     | nil=>exact be.ne rfl
     | cons z0 zs=>
       cases O with
       | nil=>cases(d6 ey).1
       | cons _ _=>cases(d6 ey).1
    refine sQ ⟨Wu,by rw[aR yl];exact ey,be⟩ (Paired.imp' (λb kk ⟨cb,h1,h2⟩=>⟨cb,?_,h2⟩) ra);rw[aR (c6 h2.ne h1)];exact u _ _ h1
  have a1:(O++[ld]).length<sizeLine:=by
   have:=Paired.length ra;rw[aa,bD]at this;exact d4 (by have:=sK (λk=>d k+1) ks 0;have:ks.length<=(ks.map λk=>d k+1).sum:=Mt ks;lia)
  refine cL λM1 k1=>?_;walk_at "";refine⟨by lia,by lia,λpw ZW=>?_⟩;have L:∀{b:Nat}{z:Int},b<=15000->z.natAbs<=2^b->z.natAbs<ϫ:=λ{b z} hb hz=>hJ hz (by lia);refine oC (lo:=0) (n:=m.toNat) (λj I B H4=>δ Z H4/\H4 pw=some (.lst I)/\I=((List.range j).map λg=>W k (τ (c k) g)).map V.int/\∃v,B=[v,some (V.ref t),some (V.int p),some (V.int k)]) ⟨δ.new _ ZW,ay,rfl,_,rfl⟩ ?_ ?_
  .rintro j I B H4 N4 hN4 hj ⟨U,e4,rfl,v,rfl⟩;walk_at "";have R:=s3.trans U;refine⟨t,dx,w,tw,lr,kp,kd,fs,m,ps,rs,rv,pv,p,k,c k,j,cs,by rw[cR],R _ _ ht,fw,fr,WA.same R,hp,⟨C.k0,C.k1⟩,C.tl,C.c2,C.c1,R _ _ dg,dA,R _ _ k2,R _ _ k3,kc.len,by lia,λx r=>L (ap _) (kc.bt x r),λf u=>⟨u _ _ e4,d4 (by rw[aa,aa,bD];lia),hN4 _ _ _ ⟨?_,ay,?_,_,rfl⟩⟩⟩
   .exact λb o e=>by rw[aR (cq e ZW)];exact u _ _ (U _ _ e)
   .rw[c8,aw,aw,kc.val]
    rfl
  .rintro I B H4 ⟨U,e4,rfl,v,rfl⟩;refine k1 _ _ ?_;have R:=s3.trans U;have a9:∀j,j<m.toNat->(W k (τ (c k) j)).natAbs<=2^(d k*(25+20*d k)):=λj hj=>rg (GN C.wk (aL (by decide) C.c2) C.c1 (by lia));have bd:d k*(25+20*d k)<=15000:=by
    have:=tE (d:=d) (ks:=k::S) (by lia);rw[vH]at this
    lia
   have b2:∀x∈(List.range m.toNat).map λg=>W k (τ (c k) g),x.natAbs<ϫ:=λx r=>by
    obtain⟨j,hj,rfl⟩:=aP.mp r;exact L bd (a9 j (bU.mp hj))
   have bS:Xk d S<=15000:=tE (by rw[aq,aN]at dS;lia);have ZH:∀{f:Hp},δ H4 f->ϲ ((O++[ld]).map V.ref) (-1)=some (V.ref ld):=λ_=>by rw[aw];exact Jq _ _
   have a3:∀x∈k::S,ul (d x) (W x):=λx r=>dd x (aT x r);have aC:∀x∈k::S,1<=c x/\c x<=1000000:=λx r=>c4 x (aT x r);walk_at "";refine⟨t,dx,w,tw,lw,lb,fs,m,ps,rs,xs,cv,p,k,c k,ob,rfl,R _ _ ht,fw,fg,fb,WA.same R,R _ _ eg,xl,R _ _ eb,hp,⟨C.k0,C.k1⟩,bk,C.tl,by have:=C.c2;lia,by have:=C.c1;lia,⟨_,rfl,?_⟩⟩;subst hF;change if frK xs ob c p k=true then _ else _;have eN:((m.toNat:Nat):Int)=m:=br (by lia);have a2:m.toNat<=24:=(by lia);have M:=U _ _ e3;have ac:=U _ _ db;have WO:((List.range m.toNat).map λg=>W k (τ (c k) g)).length=m.toNat:=(by rw[aa,bD]);by_cases hf:frK xs ob c p k=true
   .rw[aj hf];refine⟨Io M,Υ M (ZH (δ.refl _)) ⟨ld,cS,m.toNat,by rw[eN],ξ.of ac,by have:=ZV.len;lia,by lia,λx r=>L bS (ZV.bt x r),λl5 f n5 u J=>?_⟩⟩;refine⟨pw,l5,_,_,rfl,ξ.of (u _ _ e4),ξ.of J,by rw[WO,aa,bD];exact ap _,by rw[WO];lia,b2,λx r=>?_,λl6 H6 n6 s6 e6=>?_⟩
    .obtain⟨j,hj,rfl⟩:=aP.mp r;rw[ZV.val];exact L (aL (Dp d S) bS) (rg (Dv a2 (λx r=>a3 x (.tail _ r)) (λx r=>aC x (.tail _ r)) j (bU.mp hj)))
    .refine⟨l6,_,rfl,ξ.of e6,by rw[aa,bD,WO];lia,λl7 H7 n7 s7 e7=>(Y l7 _ H7 (U.trans (u.trans (s6.trans s7))) e7 ?_ a1 _).2⟩;refine LZ a2 a3 aC dS ?_;rw[WO];refine bZ λn hn=>?_;have hn:=bU.mp hn;rw[qu hf];exact LR (λi hi=>zB (by lia)) λi hi=>by rw[zB (by lia),ZV.val]
   .rw[ag hf];refine⟨T.Tally,dx,fs,R _ _ ht,T.cW,T.tV,_,fb,Υ (R _ _ eb) (cT hp.1 bk) ⟨by cases ob<;>rfl,?_⟩⟩;obtain⟨rS,eh⟩:=ZV.head;by_cases hb:ob=some k
    .rw[aj (by rw[hb];rfl)];have Y9:ZU ob k=true:=bh hb;refine⟨Io M,⟨_,ξ.of e4⟩,λpc Wf=>?_⟩;refine lO (K:=K) (c:=true) (a:=pw) (xs:=((List.range m.toNat).map λg=>W k (τ (c k) g)).map V.int) (λj I B f=>δ H4 f/\f pc=some (.lst I)/\I=((((List.range m.toNat).map λg=>W k (τ (c k) g)).take j).map λx=>x*ς (frK xs ob c p) (ZU ob) (λk g=>W k (τ (c k) g)) S 0).map V.int/\∃v,B=[v,some (V.ref l)]) ⟨δ.new _ Wf,ay,rfl,_,rfl⟩ (λj I B f _ ⟨z,_⟩=>ξ.of (z _ _ e4)) ?_ ?_
     .rintro j x I B f N5 hN5 hj ⟨u,J,rfl,v,rfl⟩;obtain⟨z,hz,rfl⟩:=List.μ hj;have et:((List.range m.toNat).map λg=>W k (τ (c k) g)).take (j+1)=((List.range m.toNat).map λg=>W k (τ (c k) g)).take j++[z]:=(by rw[bK,hz];rfl);walk_at "";refine Υ (u _ _ M) (ZH (δ.refl _)) (Υ (v:=V.int (ς (frK xs ob c p) (ZU ob) (λk g=>W k (τ (c k) g)) S 0)) (u _ _ ac) (cT (b9 0) (by rw[eh];rfl)) ⟨_,rfl,qN (b2 z (aQ hz)) (L bS (ZV.bt _ (by rw[eh];exact .head _))),J,d4 (by rw[aa,aa,bq,WO];lia),hN5 _ _ _ ⟨?_,ay,?_,_,rfl⟩⟩)
      .exact λb o e=>by rw[aR (cq e Wf)];exact u _ _ e
      .rw[et,aw,aw]
       rfl
     .rintro I B f ⟨u,J,rfl,v,rfl⟩;rw[aa,WO,dc (by rw[WO];exact ap _)]at J;refine⟨pc,_,rfl,ξ.of J,by rw[aa,WO];lia,λl7 H7 n7 s7 e7=>(Y l7 _ H7 (U.trans (u.trans s7)) e7 ?_ a1 _).2⟩;refine LZ a2 a3 aC dS ?_;rw[cZ];refine bZ λn hn=>?_;rw[pA hf Y9]
      rfl
    .rw[ag (λz=>hb (by cases ob with
      | none=>cases z
      | some j=>injection z with z;rw[z]))]
     have Y9:¬ZU ob k=true:=(by unfold ZU;rw[bM];exact hb);have eF:m.toNat=(m.toNat-1)+1:=(by lia);have w0:∀{f:Hp},δ H4 f->f pw=some (.lst (((List.range m.toNat).map λg=>W k (τ (c k) g)).map V.int)):=λs=>s _ _ e4;have a0:ϲ (((List.range m.toNat).map λg=>W k (τ (c k) g)).map V.int) 0=some (V.int (W k (τ (c k) 0))):=cT (b9 0) (by
      show(((List.range m.toNat).map λg=>W k (τ (c k) g)).map V.int)[0]?=_;rw[aA,aA,fA (by lia)]
      rfl)
     refine⟨Io M,Υ M (ZH (δ.refl _)) ⟨ld,rfl,⟨_,ξ.of ac⟩,λpc Wf=>?_⟩⟩;refine lO (K:=K) (c:=true) (a:=ld) (xs:=cS.map V.int) (λj I B f=>δ H4 f/\f pc=some (.lst I)/\I=((cS.take j).map λx=>W k (τ (c k) 0)*x).map V.int/\∃v,B=[v,some (V.ref pw)]) ⟨δ.new _ Wf,ay,rfl,_,rfl⟩ (λj I B f _ ⟨z,_⟩=>ξ.of (z _ _ ac)) ?_ ?_
     .rintro j x I B f N5 hN5 hj ⟨u,J,rfl,v,rfl⟩;obtain⟨z,hz,rfl⟩:=List.μ hj;have et:cS.take (j+1)=cS.take j++[z]:=(by rw[bK,hz];rfl);have cl:=ZV.len;walk_at "";refine Υ (w0 u) a0 ⟨_,rfl,qN (L bd (a9 0 (by lia))) (L bS (ZV.bt z (aQ hz))),J,d4 (by rw[aa,aa,bq];lia),hN5 _ _ _ ⟨?_,ay,?_,_,rfl⟩⟩
      .exact λb o e=>by rw[aR (cq e Wf)];exact u _ _ e
      .rw[et,aw,aw]
       rfl
     .rintro I B f ⟨u,J,rfl,v,rfl⟩;rw[aa,bx]at J;exact(Y pc _ f (U.trans u) J (RJ C.wk (aL (by decide) C.c2) C.c1 hf Y9 ZV) a1 _).2
 .rintro B Z ⟨s3,⟨O,ld,e3,ra⟩,v4,v5,rfl⟩;refine h2 _ _ ?_;unfold Q5;walk_at "";rw[aa]at ra;refine⟨_,ξ.of e3,λl2 bv=>?_⟩;have U:=δ.new (HO.lst ((O++[ld]).map V.ref).reverse) bv;refine q l2 (O++[ld]).reverse _ (s3.free bv) (s3.trans U) (by rw[ay,d9]) ?_;have e:YW ks=((List.range (ks.length+1)).map λj=>ks.drop (ks.length-j)).reverse:=by rw[<-Im,jw]
  rw[e];exact IR (Paired.imp' (λb kk ⟨cb,h1,h2⟩=>⟨cb,U _ _ h1,h2⟩) ra)
def kQ(p ld b c d a:Addr):List (Str×V):=bF "rests" (.ref a) (bF "kids" (.ref d) (bF "bearers" (.ref c) (bF "weights" (.ref b) (bF "down" (.ref ld) (bF "web" (.ref p) [])))))
theorem oM(p ld b c d a:Addr):(kQ p ld b c d a).lookup ("rests":Str)=some (.ref a):=by
 unfold kQ;rw[cI,aj rfl]
theorem pT(p ld c d a b:Addr):(kQ p ld c d a b).lookup ("kids":Str)=some (.ref a):=by
 unfold kQ;rw[cI,ag (by decide +kernel),cI,aj rfl]
theorem wd(p ld c a d b:Addr):(kQ p ld c a d b).lookup ("bearers":Str)=some (.ref a):=by
 unfold kQ;rw[cI,ag (by decide +kernel),cI,ag (by decide +kernel),cI,aj rfl]
theorem wa(p ld a c d b:Addr):(kQ p ld a c d b).lookup ("weights":Str)=some (.ref a):=by
 unfold kQ;rw[cI,ag (by decide +kernel),cI,ag (by decide +kernel),cI,ag (by decide +kernel),cI,aj rfl]
theorem qg(p ld b c d a:Addr):(kQ p ld b c d a).lookup ("down":Str)=some (.ref ld):=by
 unfold kQ;rw[cI,ag (by decide +kernel),cI,ag (by decide +kernel),cI,ag (by decide +kernel),cI,ag (by decide +kernel),cI,aj rfl]
theorem pJ(p ld b c d a:Addr):(kQ p ld b c d a).lookup ("web":Str)=some (.ref p):=by
 unfold kQ;rw[cI,ag (by decide +kernel),cI,ag (by decide +kernel),cI,ag (by decide +kernel),cI,ag (by decide +kernel),cI,ag (by decide +kernel),cI,aj rfl]
def ϝ(m:Int)(c:hH)(r:Int)(a:d3)(b:fz)(d:d2)(k:Int):Bool:=decide (ο m c r a b k*tup c a k=ο m c r a b (a k))&&decide (bV m c r a b d (a k)≠some k)
def Ϩ(m:Int)(d:hH)(r:Int)(a:d3)(b:fz)(c:d2)(k:Int):Bool:=decide (bV m d r a b c (a k)=some k)
def cK(b:hH)(a:d3)(k:Int):Nat:=(tup b a k).toNat
def iD(m:Int)(c:hH)(r:Int)(a:d3)(b:fz)(d:d2)(v:Int):Nat->Int:=wy m c r a b (ϝ m c r a b d) (Ϩ m c r a b d) (cK c a) v
structure ϖ(C O:Addr)(H:Hp)(o p t:Addr)(m:Int)(ps:gg)(rs:hH)(r:Int)(par:d3)(dep:fz)(tl:d2)(ld lw lb lk lr:Addr)(kl:gg)(rv:List V)(S:Int->Prop):Prop where
 ob:∃dx,H o=some (.ins O dx (kQ p ld lw lb lk lr))
 web:χ C H p m t ps rs
 rt:ζ m rs r par dep
 et:bO m rs r par dep r=r::tl
 or:Order m r par tl
 hd:H ld=some (.lst ((bO m rs r par dep r).map V.int))
 hw:H lw=some (.lst ((dD m rs r par dep).map V.int))
 hb:H lb=some (.lst (Y7 m (bV m rs r par dep tl)))
 hk:H lk=some (.lst (kl.map V.ref))
 kp:Paired (λa v=>H a=some (.lst ((kd m rs r par v).map V.int))) kl (b6 m.toNat)
 hr:H lr=some (.lst rv)
 rl:rv.length=m.toNat
 rn:∀x∈rv,x=.ω\/∃a,x=.ref a
 ϛ:∀v,S v->0<=v/\∃(lp:Addr)(ϱ:gg),rv[v.toNat]?=some (.ref lp)/\lp≠lr/\H lp=some (.lst (ϱ.map V.ref))/\tM H (Xk (ϐ m rs r par dep)) (ς (ϝ m rs r par dep tl) (Ϩ m rs r par dep tl) (λk g=>iD m rs r par dep tl k (τ (cK rs par k) g))) ϱ (YW (kd m rs r par v))
theorem ϖ.same{C O:Addr}{H k:Hp}{o p t:Addr}{m:Int}{l:gg}{s:hH}{r:Int}{par:d3}{c:fz}{tl:d2}{ld n i f d:Addr}{g:gg}{j:List V}{S:Int->Prop}(e:δ H k)(h:ϖ C O H o p t m l s r par c tl ld n i f d g j S):ϖ C O k o p t m l s r par c tl ld n i f d g j S where
 ob:=let ⟨dx,q⟩:=h.ob;⟨dx,e _ _ q⟩
 web:=h.web.same e
 rt:=h.rt
 et:=h.et
 or:=h.or
 hd:=e _ _ h.hd
 hw:=e _ _ h.hw
 hb:=e _ _ h.hb
 hk:=e _ _ h.hk
 kp:=Paired.imp' (λ_ _ z=>e _ _ z) h.kp
 hr:=e _ _ h.hr
 rl:=h.rl
 rn:=h.rn
 ϛ:=λv hv=>let ⟨v0,lp,ϱ,h1,h2,h3,h4⟩:=h.ϛ v hv;⟨v0,lp,ϱ,h1,h2,e _ _ h3,Paired.imp' (λ_ _ ⟨u,a,b⟩=>⟨u,e _ _ a,b⟩) h4⟩
theorem χ.Y3{C O:Addr}{H f:Hp}{o p:Addr}{m:Int}{t b:Addr}{c:gg}{d:hH}(e:Yw o H f)(a:H o=some (.ins O b []))(h:χ C H p m t c d):χ C f p m t c d:=⟨let ⟨b,q⟩:=h.ob;⟨b,e _ _ q (gU q a (by intro z;cases z))⟩,e _ _ h.tu (gU h.tu a (by intro z;cases z)),Paired.imp' (λq x z=>e _ _ z (gU z a (by intro z;cases z))) h.ro,h.go⟩
theorem ϖ.put{C O:Addr}{H:Hp}{o p t:Addr}{m:Int}{ps:gg}{j:hH}{r:Int}{a:d3}{i:fz}{G:d2}{ld Y Q J d:Addr}{N:gg}{B:List V}{S:Int->Prop}(h:ϖ C O H o p t m ps j r a i G ld Y Q J d N B S)(τ:ld≠d)(U:Y≠d)(R:Q≠d)(L:J≠d)(Z:∀q∈N,q≠d){v:Int}(v0:0<=v)(v1:v<m)(hS:∀c,S c->c≠v){l:Addr}{A:gg}(nl:l≠d)(hl:H l=some (.lst (A.map V.ref)))(ra:tM H (Xk (ϐ m j r a i)) (ς (ϝ m j r a i G) (Ϩ m j r a i G) (λk g=>iD m j r a i G k (Pb.τ (cK j a k) g))) A (YW (kd m j r a v))):ϖ C O (upd H d (.lst (B.set v.toNat (.ref l)))) o p t m ps j r a i G ld Y Q J d N (B.set v.toNat (.ref l)) (λc=>c=v\/S c):=by
 have vm:v.toNat<B.length:=by rw[h.rl];lia
 have ne:∀{y:Addr}{s:d2},s≠[]->H y=some (.lst (s.map V.int))->y≠d:=λ{y s} cn hy z=>by
  rw[z,h.hr]at hy;injection hy with hy
  injection hy with hy
  cases s with
  | nil=>exact cn rfl
  | cons c0 s=>
    rcases h.rn (.int c0) (by rw[hy];exact .head _)with e|⟨_,e⟩<;>cases e
 have up:∀{b:Addr}{x:HO},H b=some x->b≠d->upd H d (.lst (B.set v.toNat (.ref l))) b=some x:=λe n=>by rw[aR n];exact e
 have F:∀{A:gg}{E:List (List Int)}{b:List Int->Nat}{f:List Int->Nat->Int},tM H b f A E->tM (upd H d (.lst (B.set v.toNat (.ref l)))) b f A E:=λM=>Paired.imp' (λy kk ⟨s,I,D⟩=>⟨s,up I (ne D.ne I),D⟩) M;obtain⟨dx,ob⟩:=h.ob;have W:=h.web;obtain⟨dw,wb⟩:=W.ob;refine⟨⟨dx,up ob (gU ob h.hr (by intro z;cases z))⟩,⟨⟨dw,up wb (gU wb h.hr (by intro z;cases z))⟩,up W.tu (gU W.tu h.hr (by intro z;cases z)),Paired.imp' (λq x e=>up e (gU e h.hr (by intro z;cases z))) W.ro,W.go⟩,h.rt,h.et,h.or,up h.hd τ,up h.hw U,up h.hb R,up h.hk L,C9 (λq x hq e=>up e (Z q hq)) h.kp,ay,by rw[eR];exact h.rl,λx T=>?_,λu hu=>?_⟩
 .rcases kJ T with T|rfl
  .exact h.rn x T
  .exact .inr ⟨l,rfl⟩
 .rcases hu with rfl|hu
  .exact⟨v0,l,A,gC vm,nl,up hl nl,F ra⟩
  .obtain⟨u0,lp,ajn,I,D,h3,h4⟩:=h.ϛ u hu;refine⟨u0,lp,ajn,?_,D,up h3 D,F h4⟩;rw[dZ (by have:=hS u hu;lia)];exact I
def lV(T:Txt K X):Sp:=λi H Q _=>E8 λ(o n p t:Addr)(m:Int)(f:gg)(e:hH)(r:Int)=>i=[.ref o,.ref p,.int r]/\H o=some (.ins T.Tally n [])/\χ T.Web H p m t f e/\(0<=r/\r<m)/\∃a c,ζ m e r a c/\∀q ld s k g h j l d,ϖ T.Web T.Tally d o p t m f e r a c q ld s k g h j l (λv=>0<=v/\v<m)->(∀b x,H b=some x->b≠o->d b=some x)->Q .ω d
abbrev eU:Stmt:=Jw (top 56) 0
theorem ye:η ["self","web","r","place"] ["self","web","r"] (aK eU):=.of
theorem rh:Ϝ (aK eU) "enumerate":=.of (by kernel_rfl)
theorem rG:Ϝ (aK eU) "reversed":=.of (by kernel_rfl)
theorem yf(T:Txt K X)(hq:cg (Ε P w)){f:Addr}{fd:FuncData}(F:Ye K "__init__" "Tally.__init__" eU f fd)(oA:i6 P w base T)(xL:Cb P w K X base "bearers" qZ ["web","r"] 9 (Bg T))(uW:Cb P w K X base "down" uQ ["web","r"] 6 (Cu T))(m5:i5 P w base T)(gx:kx P w base T)(vf:Cb P w K X base "rests_of" jq ["tally","place"] 7 (yL T)):ϓ P w K X base (Ε P w) 10 f fd ["self","web","r"] (lV T):=by
 refine F.Ϙ ye (by walk_at "v") λΑ A ed s H vs Q E hr h=>?_;obtain⟨o,C,p,t,m,ps,B,r,rfl,ho,W,rr,par,d,R,k⟩:=h;have g:=W.go;have Ο:=g.Ο;refine⟨_,(aD (rj (ε 0) (bY 1) rfl) (aD (rj (ε 0) (Ν uW hr hq (ah (bY 1) (ah (ε 2) aB))) rfl) (aD (rj (ε 0) (Ν gx hr hq (ah (bY 1) (ah (ε 2) aB))) rfl) (aD (rj (ε 0) (Ν xL hr hq (ah (bY 1) (ah (ε 2) aB))) rfl) (aD (rj (ε 0) (gW rfl (Yz ["place","front","web"] 2 [1]) (xW true rh.g T.enumerate (Ν oA hr hq (ah (bY 1) (ah (ε 2) aB)))) (λ_ _ _ _=>(IJ K rfl (n:=2) rfl (cA (fj (i:=0) (show(["place","front","web"]:gy).Nodup from by decide +kernel) rfl (Or.inl rfl)) (cA (fj (i:=1) (show(["place","front","web"]:gy).Nodup from by decide +kernel) rfl (Or.inl rfl)) iL)))) (λ_ _ _ _=>jh) (λ_ _ _ _=>(qD m5.G (hr.mono (by decide)) (by rfl) m5.D.m m5.D.F.kp m5.D.b .nil (tN hq) (ah (pv 2) (ah (pv 0) (ah (pv 1) aB)))))) rfl) (aD (rj (ε 0) (bn sG (eD (ah Bx aB)) (dB (bY 1) rfl)) rfl) (aO (fm PassesOwn.never rfl (sR rG.g T.reversed (dB (ε 0) rfl)) (ϒ 3) (aO (nI (Ν vf hr hq (ah (ε 0) (ah (ε 3) aB))) (rf (dB (ε 0) rfl) (ε 3) mO))))))))))),?_⟩;walk_at "s";walk_at "";refine⟨T.Tally,C,[],ho,T.cW,T.RW,by decide,?_⟩;have k1:Yw o H (upd H o (.ins T.Tally C (bF "web" (.ref p) []))):=Yw.refl.put _;have o1:upd H o (.ins T.Tally C (bF "web" (.ref p) [])) o=some (.ins T.Tally C (bF "web" (.ref p) [])):=ay;generalize upd H o (.ins T.Tally C (bF "web" (.ref p) []))=H1 at k1 o1 ⊢;refine⟨p,t,m,ps,B,r,rfl,W.Y3 k1 ho,λ_ _=>⟨par,d,R,λld H2 n2 s2 e2 Zr cu=>?_⟩,λz=>absurd rr z⟩;dsimp only;have a6:∀{a:Addr}{G:Hp}{x:HO},G o=some x->G a=none->a≠o:=λh1 h2 z=>by rw[z,h1]at h2;cases h2
 refine⟨T.Tally,C,_,s2 _ _ o1,T.cW,T.uL,by show 1<1000;decide,?_⟩;have ai:ld≠o:=a6 o1 n2;have k3:=(k1.then s2).put (.ins T.Tally C (bF "down" (.ref ld) (bF "web" (.ref p) [])));have o3:upd H2 o (.ins T.Tally C (bF "down" (.ref ld) (bF "web" (.ref p) []))) o=some (.ins T.Tally C (bF "down" (.ref ld) (bF "web" (.ref p) []))):=ay;have e3:upd H2 o (.ins T.Tally C (bF "down" (.ref ld) (bF "web" (.ref p) []))) ld=_:=(aR ai).trans e2;generalize upd H2 o (.ins T.Tally C (bF "down" (.ref ld) (bF "web" (.ref p) [])))=H3 at k3 o3 e3 ⊢;refine⟨p,t,m,ps,B,r,rfl,W.Y3 k3 ho,λ_ _=>⟨par,d,R,λI H4 n4 s4 e4=>?_⟩,λz=>absurd rr z⟩;refine⟨T.Tally,C,_,s4 _ _ o3,T.cW,T.W8,by show 2<1000;decide,?_⟩;have a4:I≠o:=a6 o3 n4;have k5:=(k3.then s4).put (.ins T.Tally C (bF "weights" (.ref I) (bF "down" (.ref ld) (bF "web" (.ref p) []))));have o5:upd H4 o (.ins T.Tally C (bF "weights" (.ref I) (bF "down" (.ref ld) (bF "web" (.ref p) [])))) o=some (.ins T.Tally C (bF "weights" (.ref I) (bF "down" (.ref ld) (bF "web" (.ref p) [])))):=ay;have bp:upd H4 o (.ins T.Tally C (bF "weights" (.ref I) (bF "down" (.ref ld) (bF "web" (.ref p) [])))) ld=_:=(aR ai).trans (s4 _ _ e3);have bd:upd H4 o (.ins T.Tally C (bF "weights" (.ref I) (bF "down" (.ref ld) (bF "web" (.ref p) [])))) I=_:=(aR a4).trans e4;generalize upd H4 o (.ins T.Tally C (bF "weights" (.ref I) (bF "down" (.ref ld) (bF "web" (.ref p) []))))=Y at k5 o5 bp bd ⊢;refine⟨p,t,m,ps,B,r,rfl,W.Y3 k5 ho,λ_ _=>⟨par,d,R,λM J H6 et Or n6 s6 e6=>?_⟩,λz=>absurd rr z⟩;refine⟨T.Tally,C,_,s6 _ _ o5,T.cW,T.tV,by show 3<1000;decide,?_⟩;have b1:J≠o:=a6 o5 n6;have k7:=(k5.then s6).put (.ins T.Tally C (bF "bearers" (.ref J) (bF "weights" (.ref I) (bF "down" (.ref ld) (bF "web" (.ref p) [])))));have o7:upd H6 o (.ins T.Tally C (bF "bearers" (.ref J) (bF "weights" (.ref I) (bF "down" (.ref ld) (bF "web" (.ref p) []))))) o=some (.ins T.Tally C (bF "bearers" (.ref J) (bF "weights" (.ref I) (bF "down" (.ref ld) (bF "web" (.ref p) []))))):=ay;have cd:upd H6 o (.ins T.Tally C (bF "bearers" (.ref J) (bF "weights" (.ref I) (bF "down" (.ref ld) (bF "web" (.ref p) []))))) ld=_:=(aR ai).trans (s6 _ _ bp);have cp:upd H6 o (.ins T.Tally C (bF "bearers" (.ref J) (bF "weights" (.ref I) (bF "down" (.ref ld) (bF "web" (.ref p) []))))) I=_:=(aR a4).trans (s6 _ _ bd);have ct:upd H6 o (.ins T.Tally C (bF "bearers" (.ref J) (bF "weights" (.ref I) (bF "down" (.ref ld) (bF "web" (.ref p) []))))) J=_:=(aR b1).trans e6;generalize upd H6 o (.ins T.Tally C (bF "bearers" (.ref J) (bF "weights" (.ref I) (bF "down" (.ref ld) (bF "web" (.ref p) [])))))=H7 at k7 o7 cd cp ct ⊢;have W3:=W.Y3 k7 ho;clear k1 k3 k5 o1 o3 o5 e2 e3 e4 bp bd e6 s2 s4 s6 n2 n4 n6;refine⟨p,t,m,ps,B,r,rfl,W3,λ_ _=>⟨par,d,R,λla H4 n4 s4 e4=>⟨la,rfl,⟨_,ξ.of e4⟩,λL a9=>?_⟩⟩,λz=>absurd rr z⟩;have fs:=s4.free a9;refine L9 (K:=K) (c:=true) (xs:=pQ m r par) (λi ys σ Y=>δ H4 Y/\Y L=some (.lst ys)/\(∃kl:List Addr,ys=kl.map V.ref/\Paired (λa v=>Y a=some (.lst ((kd m B r par v).map V.int))) kl ((b6 m.toNat).take i)/\∀q∈kl,q≠L)/\∃v w,σ=[v,w,some (V.ref p)]) ⟨δ.new _ a9,ay,⟨[],rfl,.nil,by simp⟩,_,_,rfl⟩ (λi ys σ Y z=>ξ.of (z.1 _ _ e4)) ?_ ?_
 .rintro i x ys σ Y q N hN hx ⟨s5,e5,⟨kl,rfl,pk,hkq⟩,v,w,rfl⟩ nq;have il:i<m.toNat:=by
   have:=(az.mp hx).1;unfold pQ at this
   rwa [aa,b7]at this
  have ex:x=Pb.front r par (i:Int):=by
   have:=zf (m:=m) (r:=r) (par:=par) (v:=(i:Int)) (by lia) (by lia);rw[show((i:Int)).toNat=i from rfl,hx]at this;exact bi this
  have qe:=s5 _ _ e4;have s6:=δ.new (.tup [V.int i,x]) nq;have ei:=s5.trans s6;have et:(b6 m.toNat).take (i+1)=(b6 m.toNat).take i++[(i:Int)]:=by rw[bK,fN il];rfl
  have gb:kl.length<=24:=by
   have:=Paired.length pk;rw[bq]at this
   lia
  walk_at "";refine⟨_,Ξ.of ay,rfl,_,_,rfl,_,_,rfl,rfl,?_⟩;refine⟨p,t,m,ps,B,i,x,rfl,W3.same (s4.trans ei),by lia,by lia,?_,λl6 H6 n6 s7 e7=>?_⟩
  .rw[ex];unfold Pb.front;split
   .exact .inl rfl
   .exact .inr ⟨_,rfl⟩
  have bv:=s6.trans s7;refine⟨bv _ _ e5,d4 (by rw[aa];lia),hN _ _ _ ⟨(s5.trans bv).put a9 _,ay,⟨kl++[l6],by rw[aw];rfl,?_,λq hq=>?_⟩,_,_,rfl⟩⟩;have nk:l6≠L:=λz=>by rw[z,s6 _ _ e5]at n6;cases n6
  rotate_left
  .rcases aY.mp hq with h|h
   .exact hkq q h
   .rw[aI.mp h];exact λz=>by rw[z,s6 _ _ e5]at n6;cases n6
  rw[et];refine sQ (by rw[aR nk,e7,ex]) (C9 (λq v hq h=>?_) pk);have e:q≠L:=λz=>hkq q hq z;rw[aR e];exact bv _ _ h
 .rintro ys σ Y ⟨s5,e5,⟨kl,rfl,pk,hkq⟩,v,w,rfl⟩;rw[show(pQ m r par).length=m.toNat by unfold pQ;rw[aa,b7],dc (by rw[b7];exact ap _)]at pk;have o5:=s5 _ _ (s4 _ _ o7);have k5:=(k7.then s4).then s5;have bs:=s4.trans s5;refine⟨T.Tally,C,_,o5,T.cW,T.rz,by show 4<1000;decide,by decide,λl1 n1=>?_⟩;have ci:L≠o:=λz=>by rw[z,o5]at e5;cases e5
  have k6:=k5.put (.ins T.Tally C (bF "kids" (.ref L) (bF "bearers" (.ref J) (bF "weights" (.ref I) (bF "down" (.ref ld) (bF "web" (.ref p) []))))));have o6:upd Y o (.ins T.Tally C (bF "kids" (.ref L) (bF "bearers" (.ref J) (bF "weights" (.ref I) (bF "down" (.ref ld) (bF "web" (.ref p) [])))))) o=some (.ins T.Tally C (bF "kids" (.ref L) (bF "bearers" (.ref J) (bF "weights" (.ref I) (bF "down" (.ref ld) (bF "web" (.ref p) [])))))):=ay;have e6:upd Y o (.ins T.Tally C (bF "kids" (.ref L) (bF "bearers" (.ref J) (bF "weights" (.ref I) (bF "down" (.ref ld) (bF "web" (.ref p) [])))))) L=_:=(aR ci).trans e5;have aT:upd Y o (.ins T.Tally C (bF "kids" (.ref L) (bF "bearers" (.ref J) (bF "weights" (.ref I) (bF "down" (.ref ld) (bF "web" (.ref p) [])))))) ld=_:=(aR ai).trans (bs _ _ cd);have aC:upd Y o (.ins T.Tally C (bF "kids" (.ref L) (bF "bearers" (.ref J) (bF "weights" (.ref I) (bF "down" (.ref ld) (bF "web" (.ref p) [])))))) I=_:=(aR a4).trans (bs _ _ cp);have au:upd Y o (.ins T.Tally C (bF "kids" (.ref L) (bF "bearers" (.ref J) (bF "weights" (.ref I) (bF "down" (.ref ld) (bF "web" (.ref p) [])))))) J=_:=(aR b1).trans (bs _ _ ct);have a2:Paired (λa v=>upd Y o (.ins T.Tally C (bF "kids" (.ref L) (bF "bearers" (.ref J) (bF "weights" (.ref I) (bF "down" (.ref ld) (bF "web" (.ref p) [])))))) a=some (.lst ((kd m B r par v).map V.int))) kl (b6 m.toNat):=Paired.imp' (λq v h=>by rw[aR (gU h o5 (by intro z;cases z))];exact h) pk;generalize upd Y o (.ins T.Tally C (bF "kids" (.ref L) (bF "bearers" (.ref J) (bF "weights" (.ref I) (bF "down" (.ref ld) (bF "web" (.ref p) []))))))=H6 at k6 o6 e6 aT aC au a2 n1 ⊢;have s7:=δ.new (.lst [V.ω]) n1;obtain⟨dV,cc⟩:=(W.Y3 k6 ho).ob;refine⟨T.Web,dV,_,s7 _ _ cc,T.lI,T.ϕ,_,jY _ _,?_⟩;refine⟨l1,m,[V.ω],rfl,rfl,ay,by lia,by lia,cm (by simp;lia),λO cr=>?_⟩;rw[zy];have s8:=s7.trans (δ.new (.lst (List.replicate m.toNat V.ω)) cr);have i8:upd (upd H6 l1 (.lst [V.ω])) O (.lst (List.replicate m.toNat V.ω)) O=some (.lst (List.replicate m.toNat V.ω)):=ay;have Rw:=s7.free cr;generalize upd (upd H6 l1 (.lst [V.ω])) O (.lst (List.replicate m.toNat V.ω))=H8 at s8 i8 ⊢;have o8:=s8 _ _ o6;refine⟨T.Tally,C,_,o8,T.cW,T.ϴ,by show 5<1000;decide,?_⟩;have k8:=(k6.then s8).put (.ins T.Tally C (kQ p ld I J L O));have cf:O≠o:=λz=>by rw[z,o6]at Rw;cases Rw
  have U:ϖ T.Web T.Tally (upd H8 o (.ins T.Tally C (kQ p ld I J L O))) o p t m ps B r par d M ld I J L O kl (List.replicate m.toNat V.ω) (λ_=>False):=⟨⟨C,ay⟩,W.Y3 k8 ho,R,et,Or,(aR ai).trans (s8 _ _ aT),(aR a4).trans (s8 _ _ aC),(aR b1).trans (s8 _ _ au),(aR ci).trans (s8 _ _ e6),Paired.imp' (λq v h=>by rw[aR (gU h o6 (by intro z;cases z))];exact s8 _ _ h) a2,(aR cf).trans i8,by rw[cV],λx hx=>.inl (iC hx),λv z=>z.elim⟩
  have τ:ld≠O:=λz=>by rw[<-z,aT]at Rw;cases Rw
  have eb:I≠O:=λz=>by rw[<-z,aC]at Rw;cases Rw
  have dO:J≠O:=λz=>by rw[<-z,au]at Rw;cases Rw
  have dm:L≠O:=λz=>by rw[<-z,e6]at Rw;cases Rw
  have dw:∀q∈kl,q≠O:=λq hq z=>by
   obtain⟨v,hv⟩:=Jl a2 hq;rw[z,Rw]at hv;cases hv
  have dv:H O=none:=by
   cases e:H O with
   | none=>rfl
   | some x=>rw[k6 _ _ e cf]at Rw;cases Rw
  have k9:=k8;change ∃x d1 dn,upd H8 o (.ins T.Tally C (kQ p ld I J L O)) o=some (HO.ins x d1 dn)/\_;obtain⟨H9,bk⟩:∃H9,H9=upd H8 o (.ins T.Tally C (kQ p ld I J L O)):=⟨_,rfl⟩;refine⟨T.Tally,C,_,ay,T.cW,T.uL,_,qg p ld I J L O,ld,rfl,_,ξ.of U.hd,?_⟩;rw[<-bk]at U k9;change rZ _ _ _ _ _ (upd H8 o (.ins T.Tally C (kQ p ld I J L O)));rw[<-bk];clear bk k8 i8 s8 s7 n1 a2 e6 aT aC au o6 k6 k5 o5 o8 cc;refine qz (K:=K) (xs:=(bO m B r par d r).map V.int) (λi σ ab=>Yw o H ab/\∃(rv:List V)(v3:Option V),ϖ T.Web T.Tally ab o p t m ps B r par d M ld I J L O kl rv (λv=>v∈(bO m B r par d r).reverse.take i)/\σ=[some (V.ref o),some (V.ref p),some (V.int r),v3]) ⟨k9,List.replicate m.toNat V.ω,none,?_,rfl⟩ (λi σ ab _ ⟨_,rv,v3,z,_⟩=>ξ.of z.hd) ?_ ?_
  .exact⟨U.ob,U.web,U.rt,U.et,U.or,U.hd,U.hw,U.hb,U.hk,U.kp,U.hr,U.rl,U.rn,λv hv=>by cases hv⟩
  .rintro i x σ ab N hN hx ⟨k10,rv,v3,Wg,rfl⟩;rw[<-d9]at hx;obtain⟨v,hv,rfl⟩:=List.μ hx;have S:=(cu v).mp (dJ.mp (aQ hv));have dg:∀k∈kd m B r par v,k∈(bO m B r par d r).reverse.take i:=by
    rw[et]at hv ⊢;exact Mc g R Or hv S.1 S.2
   have dt:(b6 m.toNat)[v.toNat]?=some v:=by
    rw[fN (by lia),br S.1]
   obtain⟨ϻ,Xn,Wh⟩:=tf Wg.kp dt;obtain⟨dK,eh⟩:=Wg.ob;have cl:∀k∈kd m B r par v,frK (dD m B r par d) (bV m B r par d M v) (cK B par) v k=ϝ m B r par d M k/\ZU (bV m B r par d M v) k=Ϩ m B r par d M k:=λk hk=>by
    have w:=(bw g R S.1 S.2).mp hk;have ec:((cK B par k:Nat):Int)=tup B par k:=br (by have:=(fV g R w.1.1 w.1.2 w.2.1).1;lia);unfold frK ϝ ZU Ϩ;rw[ec,w.2.2,show(dD m B r par d).getD k.toNat 0=ο m B r par d k from gN w.1.1 w.1.2,show(dD m B r par d).getD v.toNat 0=ο m B r par d v from gN S.1 S.2];exact⟨rfl,rfl⟩
   walk_at "";refine⟨o,dK,p,t,I,J,L,O,ϻ,_,m,ps,B,dD m B r par d,_,_,rv,v,kd m B r par v,bV m B r par d M v,iD m B r par d M,cK B par,ϐ m B r par d,rfl,eh,pJ _ _ _ _ _ _,wa _ _ _ _ _ _,wd _ _ _ _ _ _,pT _ _ _ _ _ _,oM _ _ _ _ _ _,Wg.web,Wg.hw,?_,Wg.hb,Wg.hk,Wg.hr,S,?_,?_,Wh,?_,?_,?_⟩
   .have:(dD m B r par d).length=m.toNat:=qE
    lia
   .exact(LQ S.1).symm.trans (Jk S.1 S.2)
   .rw[aA,Xn]
    rfl
   .intro k hk;have w:=(bw g R S.1 S.2).mp hk;obtain⟨k',tk,t2,t6⟩:=nU g R w.1.1 w.1.2 w.2.1;have dT:tup B par k=k':=by
     unfold tup;rw[tk]
     rfl
    have ek:((cK B par k:Nat):Int)=k':=by
     unfold cK;rw[dT];exact br (by lia)
    obtain⟨_,lp,ϱ,h1,h2,h3,h4⟩:=Wg.ϛ k (dg k hk);have XR:=jF (fr:=ϝ m B r par d M) (be:=Ϩ m B r par d M) (c:=cK B par) g R w.1.1 w.1.2;refine⟨w.1.1,w.1.2,by rw[ek,<-w.2.2];exact tk,by lia,by lia,Bd g R (λu u0 u1 ur=>?_) (m.toNat-d k) w.1.1 w.1.2 (ap _),?_⟩
    .have:=fV g R u0 u1 ur;unfold cK
     lia
    .obtain⟨sr,es⟩:=vI (kd m B r par k);rw[es]at h4;cases h4 with
     | cons e he=>
       obtain⟨cs,c1,c2⟩:=e;refine⟨lp,_,_,cs,h1,h3,c1,?_⟩;have:=c2.le (b':=15000) (tE (by have:=gc g R w.1.1 w.1.2;have:=md g R w.1.1 w.1.2;lia));refine⟨this.ne,this.len,this.bt,λn=>(this.val n).trans ?_⟩;show _=wy m B r par d (ϝ m B r par d M) (Ϩ m B r par d M) (cK B par) k n;rw[XR]
       rfl
   .rw[gc g R S.1 S.2];exact md g R S.1 S.2
   .intro l ϱ H11 nl s11 e11 ra;have a0:=Wg.same s11;obtain⟨ZX,aS⟩:=a0.ob;have XQ:l≠O:=λz=>by rw[z,Wg.hr]at nl;cases nl
    have ds:tM H11 (Xk (ϐ m B r par d)) (ς (ϝ m B r par d M) (Ϩ m B r par d M) (λk g=>iD m B r par d M k (Pb.τ (cK B par k) g))) ϱ (YW (kd m B r par v)):=zb (λa XZ cv ⟨cs,c1,c2⟩=>⟨cs,c1,by
     have e:=xw (fr:=frK (dD m B r par d) (bV m B r par d M v) (cK B par) v) (be:=ZU (bV m B r par d M v)) (ws:=λk g=>iD m B r par d M k (Pb.τ (cK B par k) g)) (fr':=ϝ m B r par d M) (be':=Ϩ m B r par d M) (ws':=λk g=>iD m B r par d M k (Pb.τ (cK B par k) g)) (ks:=XZ) λk hk=>⟨(cl k (CC cv k hk)).1,(cl k (CC cv k hk)).2,rfl⟩;rw[<-e];exact c2⟩) ra
    refine⟨T.Tally,ZX,_,aS,T.cW,T.ϴ,_,oM _ _ _ _ _ _,wC a0.hr S.1 (by rw[a0.rl];lia) (hN _ _ ⟨?_,rv.set v.toNat (.ref l),some (V.int v),?_,rfl⟩)⟩
    .exact λb y hb nb=>by rw[aR (cq hb dv)];exact s11 _ _ (k10 b y hb nb)
    .have nv:∀u,u∈(bO m B r par d r).reverse.take i->u≠v:=λu hu z=>by
      have nd:(bO m B r par d r).reverse.Nodup:=((List.reverse_perm _).nodup_iff).mpr Zr;have il:=(az.mp hv).1;rw[z]at hu;obtain⟨j,hj⟩:=cJ hu;have jl:=(az.mp hj).1;rw[bq]at jl;rw[iA (by lia)]at hj;have:=(fS (by lia) nd).mp (hj.trans hv.symm)
      lia
     have Z:=a0.put τ eb dO dm dw S.1 S.2 nv XQ e11 ds;refine⟨Z.ob,Z.web,Z.rt,Z.et,Z.or,Z.hd,Z.hw,Z.hb,Z.hk,Z.kp,Z.hr,Z.rl,Z.rn,λu hu=>Z.ϛ u ?_⟩;rw[bK,hv]at hu;rcases aY.mp hu with hu|hu
     .exact .inr hu
     .exact .inl (by simpa using hu)
  .rintro σ ab ⟨k10,rv,v3,Wg,rfl⟩;refine k M ld I J L O kl rv ab ⟨Wg.ob,Wg.web,Wg.rt,Wg.et,Wg.or,Wg.hd,Wg.hw,Wg.hb,Wg.hk,Wg.kp,Wg.hr,Wg.rl,Wg.rn,λv hv=>Wg.ϛ v ?_⟩ k10;rw[aa,<-bc,bx,dJ];exact(cu v).mpr hv
def yP(T:Txt K X):Sp:=λg H Q _=>E4 λ(d:Addr)(e:hH)(m r:Int)=>g=[.int m,.ref d,.int r]/\ϧ H d e/\Good m e/\(0<=r/\r<m)/\∃a c,ζ m e r a c/\∀lo f t b,H lo=none->δ H b->b lo=some (.lst (f.map V.ref))->Μ b r a f (r::t)->Order m r a t->Q (.ref lo) b
abbrev mQ:Stmt:=top 77
theorem uv:η ["many","tolls","r","order","at","place","near"] ["many","tolls","r"] (aK mQ):=.of
theorem yk:YQ (aK mQ) "place":=.of (by kernel_rfl)
theorem za:YQ (aK mQ) "near":=.of (by kernel_rfl)
theorem yn:Ϝ (aK mQ) "range":=.of (by kernel_rfl)
theorem HA(T:Txt K X)(hq:cg (Ε P w)):Ok P w K X base "_law_down" mQ ["many","tolls","r"] 1 (yP T):=λ_ _ D=>by
 refine D.F.Ϙ uv (by walk_at "v") λΑ A bm s H vs Q E hr h=>?_;obtain⟨d,u,m,r,rfl,ta,g,rr,f,cl,R,k⟩:=h;have hu:=rR hr;have Ο:=g.Ο;refine⟨_,(aD (Δ 3 (eD (ah (jT (ah (ε 2) (ah Bx aB))) aB))) (aD (Δ 4 aU) (aD (o9 PassesOwn.never (Ϻ pY (ε 4) (W4 kG T.len (ah (ε 3) aB))) (aD (nI (Ι bL (ε 3) (ε 4)) (kN (n:=2) rfl (cA (fj (i:=5) uv.nd rfl (Or.inr yk.l)) (cA (fj (i:=6) uv.nd rfl (Or.inr za.l)) iL)))) (aD (dz (iR PySem.F.plainAttrs_list PySem.F.slot_list_extend PySem.F.type_list_extend xk (ε 3) (ah (gW rfl (Yz ["other","place","near","tolls"] 1 [5,6,1]) (iP yn.g T.range (ah (ε 0) aB)) (λ_ _ _ _=>(fj (i:=0) (show(["other","place","near","tolls"]:gy).Nodup from by decide +kernel) rfl (Or.inl rfl))) (λ_ _ _ _=>(xX (PW.pt (Fq (Ϻ sj (pv 0) (pv 2)) (CN (Fb (UX hu (jT (ah (pv 1) (ah (pv 0) aB))) (pv 3)))))))) (λ_ _ _ _=>(jT (ah (pv 0) (ah (pv 1) aB))))) aB))) (aO (Δ 4 (bn eT (ε 4) aU)))))) (aO (bR (ε 3)))))),?_⟩;walk_at "s";walk_at "";refine⟨cm (by simp),λo n0=>⟨cm (by simp),λlo ZI=>?_⟩⟩;have s1:=δ.new (.tup [V.int r,V.ω]) n0;have af:=s1.free ZI;have s2:=s1.trans (δ.new (.lst [V.ref o]) ZI);have be:o≠lo:=λz=>by rw[<-z,ay]at ZI;cases ZI
 have I:upd (upd H o (.tup [V.int r,V.ω])) lo (.lst [V.ref o]) lo=some (.lst [V.ref o]):=ay;have f2:upd (upd H o (.tup [V.int r,V.ω])) lo (.lst [V.ref o]) o=some (.tup (vPr r f r)):=by
  rw[aR be,ay];unfold vPr Pb.front;rw[aj rfl]
 generalize upd (upd H o (.tup [V.int r,V.ω])) lo (.lst [V.ref o])=H2 at s2 I f2 ⊢;have ab:∀{t:d2}{ws:d2},ύ m u r f t ws->(r::t).length<=m.toNat:=λ{t ws} J=>by
  have:=fC (m:=m) (by lia) (bg.mpr ⟨J.nr,J.nd⟩) λv hv=>by
   rcases ax.mp hv with e|e
   .rw[e];exact rr
   .exact J.Χ v e
  lia
 refine u9 (λn M W=>E5 λ(t:d2)(y:gg)(k:Nat)(v5 v6:Option V)=>n=m.toNat-k/\k<=(r::t).length/\M=[some (.int m),some (.ref d),some (.int r),some (.ref lo),some (.int (k:Nat)),v5,v6]/\δ H W/\W lo=some (.lst (y.map V.ref))/\Μ W r f y (r::t)/\Bfs m u r f t k) m.toNat ⟨[],[o],0,_,_,rfl,bj _,rfl,s2,I,.cons f2 .nil,Bfs.start⟩ ?_;rintro n M W NW hN Xi ⟨t,y,C,v5,v6,rfl,c3,rfl,s4,O,pa,S⟩;have tl:=ab S.J;have ql:y.length=(r::t).length:=Paired.length pa;walk_at "";refine⟨_,.inl (ξ.of O),?_⟩;rw[aa,ql];by_cases c:C=(r::t).length
 .rw[ag (by lia)];exact k lo y t W af s4 O pa (S.done R (by lia))
 .rw[aj (by lia)];have al:C<(r::t).length:=by lia
  obtain⟨p,hp⟩:∃p,(r::t)[C]?=some p:=⟨_,ao al⟩;have S':=S.step g R rr.1 rr.2 hp;have a4:=ab S'.J;have pr:0<=p/\p<m:=by
   rcases ax.mp (aQ hp)with e|e
   .rw[e];exact rr
   .exact S.J.Χ p e
  refine⟨NW,λco H' z=>?_,?_⟩
  .obtain⟨m',lt,t',j,k',a5,a6,L,I,e3⟩:=Xi _ _ z
   first|exact⟨m',lt,t',j,k',a5,a6,L,I,e3⟩|exact⟨m',lt,t',j,k',L,I,a5,a6,e3⟩
  obtain⟨qx,ac⟩:∃qx,y[C]?=some qx:=⟨_,ao (by lia)⟩;obtain⟨qp,pv,L,I,e3,e4⟩:=pa.get (i:=C) (x:=.ref qx) (by rw[aA,ac];rfl);injection L with L
  subst L;rw[hp]at e3;cases e3;refine Υ O (IH (by rw[aA,ac];rfl)) ⟨qx,rfl,_,Ξ.of e4,rfl,_,_,rfl,_,_,rfl,rfl,?_⟩;refine⟨Io O,by lia,by lia,λpc Wf=>?_⟩;have mk:∀v,v∈bQ m u (Pb.front r f p) p->(0<=v/\v<m)/\v≠r/\f v=p:=λv=>(bw g R pr.1 pr.2).mp;have a9:∀i:Nat,i<m.toNat->(cP u p (i:Int)).isSome=true->V.int (i:Int)≠Pb.front r f p->(i:Int)∈bQ m u (Pb.front r f p) p:=λi hi h1 h2=>by
   rw[<-Aq];unfold lH;exact bG.mpr ⟨bG.mpr ⟨dN.mpr ⟨by lia,by lia⟩,h1⟩,bh h2⟩
  have am:∀i:Nat,i<=m.toNat->(lH u (Pb.front r f p) p i).length<=24:=λi hi=>by
   unfold lH;refine aL (cC _ _) (aL (cC _ _) ?_);rw[b7]
   lia
  have a7:∀i:Int,rM (.int i) (Pb.front r f p)=true:=λi=>by
   unfold Pb.front;by_cases z:p=r
   .rw[aj z];rfl
   .rw[ag z];rfl
  rw[<-Aq]at S' a4;have c4:lo≠pc:=λz=>by rw[<-z,O]at Wf;cases Wf
  refine oC (λi zs M B=>δ W B/\B pc=some (.lst zs)/\(∃j:List Addr,zs=j.map V.ref/\Μ B r f j (lH u (Pb.front r f p) p i))/\∃v,M=[v,some (.int p),some (Pb.front r f p),some (.ref d)]) ⟨δ.new _ Wf,ay,⟨[],rfl,.nil⟩,_,rfl⟩ ?_ ?_
  .rintro i zs M B N hN hi ⟨s5,hc,⟨j,rfl,pa'⟩,v7,rfl⟩;rw[cR];have kl:=am i (by lia);have bl:j.length=(lH u (Pb.front r f p) p i).length:=Paired.length pa';walk_at "";refine⟨a7 _,?_⟩;by_cases c1:V.int (i:Int)=Pb.front r f p
   .rw[ag (λz=>z c1)];exact hN _ _ _ ⟨s5,hc,⟨j,rfl,by rw[BE (λ_ z=>z c1)];exact pa'⟩,_,rfl⟩
   .rw[aj c1];refine⟨cm (by simp),λq nq=>?_⟩;have U:=δ.new (.tup [V.int p,V.int (i:Int)]) nq;obtain⟨θ,YC,hv⟩:=(ta.same (s4.trans s5)).ex;have hg:=ϵ.t (k:=[.inl p,.inl (i:Int)]) (U _ _ YC) ay;rw[hv]at hg;refine⟨_,hg,?_⟩;by_cases c2:(cP u p (i:Int)).isSome=true
    .rw[aj (by rw[gD];exact c2)];obtain⟨_,kr,kp⟩:=mk _ (a9 i hi c2 c1);refine⟨cm (by simp),λq' G=>?_⟩;have s7:=U.trans (δ.new (.tup [V.int (i:Int),V.int p]) G);have Y:=s7 _ _ hc;have a8:q'≠pc:=λz=>by rw[z,U _ _ hc]at G;cases G
     refine⟨Y,d4 (by rw[aa];lia),hN _ _ _ ⟨(s5.trans s7).put Wf _,ay,⟨j++[q'],by rw[aw];rfl,?_⟩,_,rfl⟩⟩;rw[JP c2 c1];refine Μ.snoc ?_ (Paired.imp' (λa b h=>by rw[aR (gU (s7 _ _ h) Y (by intro z;cases z))];exact s7 _ _ h) pa');rw[aR a8,ay];unfold vPr Pb.front;rw[ag kr,kp]
    .rw[ag (by rw[gD];exact c2)];exact hN _ _ _ ⟨s5.trans U,U _ _ hc,⟨j,rfl,by rw[BE (λz=>absurd z c2)];exact Μ.same U pa'⟩,_,rfl⟩
  .rintro zs M B ⟨s5,hc,⟨j,rfl,pa'⟩,v7,rfl⟩;have bl:j.length=(lH u (Pb.front r f p) p m.toNat).length:=Paired.length pa';have kl:=am m.toNat (ap _);have Z:=s5 _ _ O;rw[aF]at tl al;refine⟨lo,pc,_,_,rfl,rfl,Z,hc,cm (by rw[aa,aa,ql,aF];lia),?_⟩;refine hN (m.toNat-(C+1)) _ _ (by lia) ⟨_,y++j,C+1,_,_,rfl,by rw[aF,aE];lia,rfl,(s4.trans s5).put af _,by rw[ay,aw],?_,S'⟩;have kp:∀a b,B a=some (.tup (vPr r f b))->upd B lo (.lst (y.map V.ref++j.map V.ref)) a=some (.tup (vPr r f b)):=λa b h=>by rw[aR (gU h Z (by intro z;cases z))];exact h
   exact IA (Paired.imp' kp pa') (Paired.imp' kp (Μ.same s5 pa))
theorem Ml{z:d2}{b:gg}(h:z≠[]):HO.lst (z.map V.int)≠HO.lst (b.map V.ref):=λe=>by
 injection e with e
 match z,b,h,e with
 | a::z,[],_,e=>cases e
 | a::z,q::b,_,e=>cases e
theorem uR{H:Hp}{c:Addr}{a:gg}{o:HO}(e:H c=some (.lst (a.map V.ref))):∀{d:gg}{b:List (List Int)},(∀z∈b,z≠[])->Κ H d b->Κ (upd H c o) d b
 | _,_,_,.nil=>.nil
 | _,_,hz,.cons h t=>.cons (by rw[aR (gU h e (Ml (hz _ (.head _))))];exact h) (uR e (λz m=>hz z (.tail _ m)) t)
def uV(T:Txt K X):Sp:=λc H Q _=>∃(m h:Int),c=[.int m,.int h]/\1<=m/\m<=4/\0<=h/\h<=40/\∀(l:Addr)(b:gg)(a:Hp),H l=none->δ H a->a l=some (.lst (b.map V.ref))->Κ a b (lyA h (m-1).toNat)->Q (.ref l) a
abbrev kZ:Stmt:=top 82
theorem uO:η ["many","held","rows","k","longer","row"] ["many","held"] (aK kZ):=.of
theorem wB:YQ (aK kZ) "row":=.of (by kernel_rfl)
theorem qi:Ϝ (aK kZ) "range":=.of (by kernel_rfl)
theorem C7(T:Txt K X)(hq:cg (Ε P w)):Ok P w K X base "_law_layings" kZ ["many","held"] 1 (uV T):=λ_ _ D=>by
 refine D.F.Ϙ uO (by walk_at "v") λΑ A a0 s H vs Q E hr h=>?_;obtain⟨m,h,rfl,m1,m4,h0,b3,k⟩:=h;refine⟨_,(aD (Δ 2 (eD (ah (eD aB) aB))) (aD (fm PassesOwn.never rfl (iP qi.g T.range (ah (bn iB (ε 0) aU) aB)) (ϒ 3) (aD (Δ 4 (eD aB)) (aD (fm PassesOwn.never rfl (g6 (ε 2)) (fj (i:=5) uO.nd rfl (Or.inr wB.l)) (aO (dz (iR PySem.F.plainAttrs_list PySem.F.slot_list_extend PySem.F.type_list_extend xk (ε 4) (ah (gW rfl (Yz ["part","row"] 1 [5]) (iP qi.g T.range (ah (bn eT (bn iB (bY 1) (W4 (vK rfl) T.sum (ah (bY 5) aB))) aU) aB)) (λ_ _ _ _=>(fj (i:=0) (show(["part","row"]:gy).Nodup from by decide +kernel) rfl (Or.inl rfl))) (λ_ _ _ _=>jh) (λ_ _ _ _=>(bn E2 (pv 1) (eD (ah (pv 0) aB))))) aB))))) (aO (Δ 2 (ε 4)))))) (aO (bR (gW rfl (Yz ["row","held"] 1 [1]) (g6 (ε 2)) (λ_ _ _ _=>(fj (i:=0) (show(["row","held"]:gy).Nodup from by decide +kernel) rfl (Or.inl rfl))) (λ_ _ _ _=>jh) (λ_ _ _ _=>(bn E2 (pv 0) (eD (ah (bn iB (pv 1) (Fs (LN K rfl rfl) (by rfl) T.sum SF (ah (pv 0) aB))) aB))))))))),?_⟩;walk_at "s";refine cL λN1 h1=>?_;walk_at "";refine⟨by decide,λv a3=>⟨cm (by simp),λp1 J=>h1 _ _ (cL λN2 h2=>?_)⟩⟩;have s0:=δ.new (HO.lst []) a3;have s1:=s0.trans (δ.new (HO.lst [V.ref v]) J);have e1:upd (upd H v (HO.lst [])) p1 (HO.lst [V.ref v]) p1=some (.lst ([v].map V.ref)):=ay;have l1:Κ (upd (upd H v (HO.lst [])) p1 (HO.lst [V.ref v])) [v] (Wv h 0):=.cons (δ.new _ J _ _ ay) .nil;have a4:=s0.free J;generalize upd (upd H v (HO.lst [])) p1 (HO.lst [V.ref v])=H1 at s1 e1 l1 ⊢;have ZT:∀k,k<=3->(Wv h k).length<=68921:=λk hk=>aL (IY h0 k) (aL (bB (by lia) hk) (aL (fy (show h.toNat+1<=41 by lia) 3) (by decide)));walk_at "";refine⟨by lia,by lia,?_⟩;refine pW (lo:=0) (λi n t=>δ H t/\E5 λ(O:Addr)(G:gg)(v4 v5 v6:Option V)=>H O=none/\t O=some (.lst (G.map V.ref))/\Κ t G (Wv h i)/\n=[some (V.int m),some (V.int h),some (V.ref O),v4,v5,v6]) ⟨s1,p1,[v],_,_,_,a4,e1,l1,rfl⟩ ?_ ?_
 .rintro i n t N hN hi ⟨s2,O,G,v4,v5,v6,nlr,e2,l2,rfl⟩;have i3:i+1<=3:=by lia
  have pl:G.length=(Wv h i).length:=Paired.length l2;have c1:=ZT i (by lia);refine cL λM1 k1=>?_;walk_at "";refine⟨by decide,λB XQ=>k1 _ _ (cL λM2 k2=>?_)⟩;have au:=s2.free XQ;have s3:=s2.trans (δ.new (HO.lst []) XQ);have e3:upd t B (HO.lst []) B=some (.lst (([]:gg).map V.ref)):=ay;have W:δ t (upd t B (HO.lst [])):=δ.new (HO.lst []) XQ;generalize upd t B (HO.lst [])=H3 at s3 e3 W ⊢;walk_at "";refine⟨⟨_,ξ.of (W _ _ e2)⟩,?_⟩;refine mG (K:=K) (xs:=G.map V.ref) (λj n o=>δ t o/\∃(y:gg)(v6:Option V),o B=some (.lst (y.map V.ref))/\Κ o y (((Wv h i).take j).flatMap λb=>(b6 (h-b.sum+1).toNat).map λp=>b++[p])/\n=[some (V.int m),some (V.int h),some (V.ref O),some (V.int (0+(i:Int))),some (V.ref B),v6]) ⟨W,[],_,e3,.nil,rfl⟩ (λj n o _ z=>ξ.of (z.1 _ _ e2)) ?_ ?_
  .rintro j x n o N' BB ϗ Y4 hx ⟨s4,y,v6,e4,l4,rfl⟩;obtain⟨q,b,rfl,hq,C,eq⟩:=l2.get hx;have jl:=(az.mp C).1;have rm:=(qJ h0).mp (aQ C);have r0:0<=b.sum:=ww rm.2.1;have r:=s4 _ _ eq;have ql:y.length=(((Wv h i).take j).flatMap λb=>(b6 (h-b.sum+1).toNat).map λp=>b++[p]).length:=Paired.length l4;have qc:y.length+(h-b.sum+1).toNat<=68921:=by
    have e:(((Wv h i).take (j+1)).flatMap λb=>(b6 (h-b.sum+1).toNat).map λp=>b++[p]).length=y.length+(h-b.sum+1).toNat:=by
     rw[cz,C,fJ,aE,ql];simp[b7]
    rw[<-e];refine aL ?_ (ZT (i+1) i3);show _<=((Wv h i).flatMap _).length;have:(Wv h i)=(Wv h i).take (j+1)++(Wv h i).drop (j+1):=(b8 ..).symm;rw[this,fJ,aE,b8]
    lia
   refine ϗ _ _ ?_;walk_at "";refine⟨Io e4,b,.inl (ξ.of r),by lia,by lia,λS Wf=>?_⟩;have nz:∀z∈(((Wv h i).take j).flatMap λb=>(b6 (h-b.sum+1).toNat).map λp=>b++[p]),z≠[]:=λz I=>by
    obtain⟨_,_,hm⟩:=dM.mp I;obtain⟨_,_,rfl⟩:=aP.mp hm;simp
   refine oC (λi' u n H5=>δ o H5/\H5 S=some (.lst u)/\(∃f:List Addr,u=f.map V.ref/\Κ H5 f ((b6 i').map λp=>b++[p]))/\∃L,n=[L,some (V.ref q)]) ⟨δ.new _ Wf,ay,⟨[],rfl,.nil⟩,_,rfl⟩ ?_ ?_
   .rintro i' u n H5 N5 hN5 Zn ⟨s5,e5,⟨f,rfl,l5⟩,L,rfl⟩;have cl:f.length=((b6 i').map λp=>b++[p]).length:=Paired.length l5;rw[aa,b7]at cl;walk_at "";refine⟨cm (by simp),λa1 M=>?_⟩;have Z:=δ.new (HO.lst [V.int (0+(i':Int))]) M;refine⟨q,a1,_,_,rfl,rfl,Z _ _ (s5 _ _ r),ay,cm (by rw[aa];simp;lia),λa2 d=>?_⟩;have R:=Z.trans (δ.new (HO.lst (b.map V.int++[V.int (0+(i':Int))])) d);have e7:=R _ _ e5;refine⟨e7,d4 (by rw[aa];lia),hN5 _ _ _ ⟨(s5.trans R).put Wf _,ay,⟨f++[a2],by rw[aw];rfl,?_⟩,_,rfl⟩⟩;rw[vL,aw];have Y:a2≠S:=λz=>by rw[z]at d;rw[Z _ _ e5]at d;cases d
    refine Κ.snoc ?_ (uR e7 (λz I=>by obtain⟨_,_,rfl⟩:=aP.mp I;simp) (Κ.same R l5));rw[aR Y,ay,aw,cR]
    rfl
   .rintro u n H5 ⟨s5,e5,⟨f,rfl,l5⟩,L,rfl⟩;have cl:f.length=((b6 (h-b.sum+1).toNat).map λp=>b++[p]).length:=Paired.length l5;rw[aa,b7]at cl;have U:=s5 _ _ e4;refine⟨B,S,_,_,rfl,rfl,U,e5,cm (by rw[aa,aa];lia),Y4 _ _ ⟨(s4.trans s5).put XQ _,y++f,_,by rw[ay,aw],?_,rfl⟩⟩;rw[cz,C,fJ];refine Κ.app (uR U nz (Κ.same s5 l4)) ?_;show Κ _ f ([b].flatMap _);rw[List.flatMap_singleton];exact uR U (λz I=>by obtain⟨_,_,rfl⟩:=aP.mp I;simp) l5
  .rintro BB n o ϗ ⟨s4,y,v6,e4,l4,rfl⟩;rw[aa,pl,bx]at l4;refine ϗ _ _ (k2 _ _ ?_);walk_at "";exact hN _ _ ⟨s2.trans s4,B,y,_,_,_,au,e4,l4,rfl⟩
 .rintro n t ⟨s2,O,G,v4,v5,v6,nlr,e2,l2,rfl⟩;have pl:G.length=(Wv h (m-1).toNat).length:=Paired.length l2;have c1:=ZT (m-1).toNat (by lia);refine h2 _ _ ?_;walk_at "";refine⟨⟨_,ξ.of e2⟩,λS Wf=>?_⟩;refine lO (K:=K) (c:=true) (a:=O) (xs:=G.map V.ref) (λj u n o=>δ t o/\o S=some (.lst u)/\(∃f:List Addr,u=f.map V.ref/\Κ o f (((Wv h (m-1).toNat).take j).map λb=>b++[h-b.sum]))/\∃L,n=[L,some (V.int h)]) ⟨δ.new _ Wf,ay,⟨[],rfl,.nil⟩,_,rfl⟩ (λj u n o _ ⟨z,_⟩=>ξ.of (z _ _ e2)) ?_ ?_
  .rintro j x u n o N' Y4 hx ⟨s4,e4,⟨f,rfl,l4⟩,L,rfl⟩;obtain⟨q,b,rfl,hq,C,eq⟩:=l2.get hx;have jl:=(az.mp C).1;have rm:=(qJ h0).mp (aQ C);have cl:f.length=(((Wv h (m-1).toNat).take j).map λb=>b++[h-b.sum]).length:=Paired.length l4;rw[aa,bq]at cl;have r:=s4 _ _ eq;walk_at "";refine⟨b,.inl (ξ.of r),cm (by simp),λa1 M=>?_⟩;have Z:=δ.new (HO.lst [V.int (h-b.sum)]) M;refine⟨q,a1,_,_,rfl,rfl,Z _ _ r,ay,cm (by rw[aa];simp;lia),λa2 d=>?_⟩;have R:=Z.trans (δ.new (HO.lst (b.map V.int++[V.int (h-b.sum)])) d);have e7:=R _ _ e4;have Y:a2≠S:=λz=>by rw[z]at d;rw[Z _ _ e4]at d;cases d
   refine⟨e7,d4 (by rw[aa];lia),Y4 _ _ _ ⟨(s4.trans R).put Wf _,ay,⟨f++[a2],by rw[aw];rfl,?_⟩,_,rfl⟩⟩;rw[cz,C,aw];refine Κ.snoc ?_ (uR e7 (λz I=>by obtain⟨_,_,rfl⟩:=aP.mp I;simp) (Κ.same R l4));rw[aR Y,ay,aw]
   rfl
  .rintro u n o ⟨s4,e4,⟨f,rfl,l4⟩,L,rfl⟩;rw[aa,pl,bx]at l4;exact k S f o (s2.free Wf) (s2.trans s4) e4 l4
def yO(T:Txt K X):Sp:=λj H Q _=>E12 λ(i lo h:Addr)(c:Bool)(g:gg)(d:hH)(t e:d2)(m r:Int)(a:d3)(b:fz)=>j=[.ref i,.ref lo,.ref h]/\ϧ H i d/\Good m d/\ζ m d r a b/\H lo=some (.lst (g.map V.ref))/\Μ H r a g (r::t)/\Order m r a t/\Ϫ K c H h (e.map V.int)/\(e.length:Int)=m/\∀l f,H l=none->δ H f->f l=some (.lst ((qF m d r a b (λv=>e.getD v.toNat 0) (Η d a)).map V.int))->Q (.ref l) f
abbrev pV:Stmt:=top 78
theorem GZ:η ["tolls","order","laying","have","place","near"] ["tolls","order","laying"] (aK pV):=.of
theorem vA:Ϝ (aK pV) "reversed":=.of (by kernel_rfl)
theorem GS(T:Txt K X)(hq:cg (Ε P w)):Ok P w K X base "_law_load" pV ["tolls","order","laying"] 1 (yO T):=λ_ _ D=>by
 refine D.F.Ϙ GZ (by walk_at "v") λΑ A M s H vs Q E hr h=>?_;obtain⟨dt,lo,J,c,qs,C,t,xs,m,r,a,B,rfl,ta,g,R,ho,pa,O,ha,xl,k⟩:=h;have m1:=g.m1;have Ο:=g.Ο;have hu:=rR hr;have f:qs.length=(r::t).length:=Paired.length pa;rw[aF]at f;have lx:ξ K H J (xs.map V.int)\/Ξ K H J (xs.map V.int):=by
  cases c
  .exact .inr ha
  .exact .inl ha
 refine⟨_,(aD (Δ 3 (Y8 me T.list (ah (ε 2) aB))) (aD (fm PassesOwn.never rfl (sR vA.g T.reversed (ε 1)) (kN (n:=2) rfl (cA (ϒ 4) (cA (ϒ 5) iL))) (aO (eK (Fb (Ry (ε 5))) (aO (nI (bn eT (Ι bL (ε 3) (ε 5)) (bn gO (Ι bL (ε 3) (ε 4)) (IE hu (ε 0) (jT (ah (ε 4) (ah (ε 5) aB))) (λ_ _=>rfl)))) (rf (ε 3) (ε 5) mO))) dy))) (aO (bR (ε 3))))),?_⟩;walk_at "s";walk_at "";refine⟨_,lx,λl nl=>?_⟩;have p:=δ.new (.lst (xs.map V.int)) nl;have e1:upd H l (.lst (xs.map V.int)) l=some (.lst (xs.map V.int)):=ay;generalize upd H l (.lst (xs.map V.int))=H1 at p e1 ⊢;refine⟨_,ξ.of (p _ _ ho),?_⟩;refine qz (K:=K) (xs:=qs.map V.ref) (λi o b=>δ H b/\E3 λ(d:d2)(U I:Option V)=>b l=some (.lst (d.map V.int))/\ϙ m C r a B (λv=>xs.getD v.toNat 0) (Η C a) (t.drop (t.length-i)) d/\o=[some (V.ref dt),some (V.ref lo),some (V.ref J),some (V.ref l),U,I]) ⟨p,xs,_,_,e1,by rw[gZ,f9];exact ϙ.nil xl,rfl⟩ (λi o b _ z=>ξ.of (z.1 _ _ ho)) ?_ ?_
 .rintro i x o b N hN hx ⟨s5,d,U,I,c5,so,rfl⟩;have il:=(az.mp hx).1;rw[bc,aa,f]at il;rw[cB (by rw[aa,f];lia),aa,f]at hx;obtain⟨q,v,rfl,hq,hv,e5⟩:=pa.get hx;have j:(r::t).reverse[i]?=some v:=by rw[cB (by rw[aF];lia),aF];exact hv
  rw[dY]at j;have cl:=so.len;walk_at "";refine⟨_,Ξ.of (s5 _ _ e5),rfl,_,_,rfl,_,_,rfl,rfl,?_⟩;walk_at "";by_cases ci:i<t.length
  .rw[dh (by rw[bc];exact ci)]at j;obtain⟨⟨e,W⟩,ev,y⟩:=O.turn g R so j;have u:=R.up v e.1 e.2 W;obtain⟨kd,Z,d0,d1⟩:=nU g R e.1 e.2 W;have G:Pb.front r a v=V.int (a v):=(by unfold Pb.front;rw[ag W]);rw[G];have nn:¬V.int (a v)=V.ω:=(by intro z;cases z);rw[aj nn];refine Υ c5 (WC u.1.1 (by lia)) (Υ c5 (WC e.1 (by lia)) ⟨cm (by simp),λq' L=>?_⟩);have S:=δ.new (.tup [V.int v,V.int (a v)]) L;have get:ϵ (upd b q' (.tup [V.int v,V.int (a v)])) dt (V.ref q') (some (V.int kd)):=by
    obtain⟨θ,YC,Y⟩:=(ta.same s5).ex;have hg:=ϵ.t (k:=[.inl v,.inl (a v)]) (S _ _ YC) ay;rw[Y,Z]at hg;exact hg
   have c6:=S _ _ c5;refine⟨_,get,_,rfl,_,rfl,⟨by lia,by lia⟩,_,rfl,wC c6 u.1.1 (by rw[aa];lia) (hN _ _ ⟨(s5.trans S).put nl _,tK a (Η C a) d v,_,_,?_,y,rfl⟩)⟩;rw[ay,<-gX];unfold tK Η;rw[Z]
   rfl
  .have ei:i=t.reverse.length:=(by rw[bc];lia);rw[ei,da (ap _),d8]at j;cases j;have G:Pb.front r a r=V.ω:=(by unfold Pb.front;rw[aj rfl]);rw[G,ag (λz=>z rfl)];refine hN _ _ ⟨s5,d,_,_,c5,?_,rfl⟩;rw[bc]at ei;rw[show t.length-(i+1)=t.length-i by lia];exact so
 .rintro o b ⟨s5,d,U,I,c5,so,rfl⟩;rw[aa,f,show t.length-(t.length+1)=0 by lia,jW]at so;rw[O.done g R so]at c5;walk_at "";exact k l b nl s5 c5
def tm(T:Txt K X):Sp:=λf H Q _=>E8 λ(lo:Addr)(e:gg)(c:hH)(t:d2)(m r:Int)(a:d3)(b:fz)=>f=[.ref lo]/\Good m c/\ζ m c r a b/\H lo=some (.lst (e.map V.ref))/\Μ H r a e (r::t)/\Order m r a t/\t.length+1=m.toNat/\(0<=r/\r<m)/\∀l d,H l=none->δ H d->d l=some (.lst ((bO m c r a b r).map V.int))->Q (.ref l) d
abbrev lG:Stmt:=top 80
theorem tx:η ["order","row","left","place","kids_v"] ["order"] (aK lG):=.of
theorem ue:YQ (aK lG) "place":=.of (by kernel_rfl)
theorem zk(T:Txt K X)(hq:cg (Ε P w)):Ok P w K X base "_law_rows_down" lG ["order"] 1 (tm T):=λ_ _ D=>by
 refine D.F.Ϙ tx (by walk_at "v") λΑ A cn s H vs Q E hr h=>?_;obtain⟨lo,qs,d,t,m,r,b,I,rfl,g,R,ho,pa,O,tl,⟨r0,r1⟩,k⟩:=h;have m1:=g.m1;have Ο:=g.Ο;have hv:=hr.units;have ql:qs.length=(r::t).length:=Paired.length pa;rw[aF]at ql;obtain⟨q0,v0,e0,f0,f1,f2⟩:=pa.get (i:=0) (x:=V.ref (qs.headD 0)) (by
  cases qs with
  | nil=>simp at ql
  | cons a l=>rfl)
 cases(show v0=r by simpa using f1.symm);refine⟨_,(aD (Δ 1 (eD aB)) (aD (Δ 2 (eD (ah (Ι jv (mM bL (ε 0) aU (λ_ _=>rfl)) aU) aB))) (aD (o9 PassesOwn.never (Ϻ (Md hv) (ε 2) (eD aB)) (aD (u7 (i:=3) tx.nd rfl (Or.inr ue.l) (Af PySem.F.plainAttrs_list PySem.F.slot_list_pop PySem.F.type_list_pop Be (ε 2))) (aD (dz (iR PySem.F.plainAttrs_list PySem.F.slot_list_append PySem.F.type_list_append fM (ε 1) (ah (bY 3) aB))) (aD (Δ 4 (W4 yW T.sorted (ah (gW rfl (Yz ["pair","place"] 1 [3]) (g6 (ε 0)) (λ_ _ _ _=>(fj (i:=0) (show(["pair","place"]:gy).Nodup from by decide +kernel) rfl (Or.inl rfl))) (λ_ _ _ _=>(xX (Ϻ jX (Ι (Cn K rfl) (pv 0) aU) (pv 1)))) (λ_ _ _ _=>(Ι (Cn K rfl) (pv 0) aU))) aB))) (aO (dz (iR PySem.F.plainAttrs_list PySem.F.slot_list_extend PySem.F.type_list_extend xk (ε 2) (ah (MZ (ε 4) (Bl xc aU)) aB)))))))) (aO (bR (ε 1)))))),?_⟩;walk_at "s";refine cL λN1 h1=>?_;walk_at "";refine⟨by decide,λf n3=>h1 _ _ (cL λN2 h2=>?_)⟩;have s3:=δ.new (.lst []) n3;have e3:upd H f (.lst []) f=some (.lst (([]:d2).map V.int)):=ay;generalize upd H f (.lst [])=H3 at s3 e3 ⊢;walk_at "";refine Υ (s3 _ _ ho) (cT (by decide) (v:=V.ref q0) (by rw[show(0:Int).toNat=0 from rfl,aA,f0];rfl)) (WZ (s3 _ _ f2) rfl ⟨cm (by simp),λe n4=>h2 _ _ (cL λN3 h3=>?_)⟩);have au:H e=none:=s3.free n4;have S:f≠e:=λz=>by rw[<-z,e3]at n4;cases n4
 have s4:=s3.trans (δ.new (.lst [V.int r]) n4);have a3:=δ.new (.lst [V.int r]) n4 _ _ e3;have bd:upd H3 e (.lst [V.int r]) e=some (.lst ([r].map V.int)):=ay;generalize upd H3 e (.lst [V.int r])=H4 at s4 a3 bd ⊢;walk_at "";refine Cz (λn σ H5=>E5 λ(M ws o:d2)(v4 v5:Option V)=>n=2*(m.toNat-M.length)+ws.length/\σ=[some (.ref lo),some (.ref f),some (.ref e),v4,v5]/\δ H H5/\H5 f=some (.lst (o.map V.int))/\H5 e=some (.lst (ws.map V.int))/\ύ m d r b M ws/\(o++ws).Perm (r::M)/\o++ws.reverse.flatMap (bO m d r b I)=bO m d r b I r) (2*m.toNat+1) ⟨[],[r],[],_,_,rfl,rfl,s4,a3,bd,ύ.start,iE _,by simp⟩ ?_;rintro n σ H5 NW BB ϗ hN Xi ⟨M,ws,o,v4,v5,rfl,rfl,s5,b2,h4,J,pe,ep⟩;refine ϗ _ _ _ ?_;have rk:∀w∈r::M,0<=w/\w<m:=λw hw=>by
  rcases ax.mp hw with rfl|z
  .exact⟨r0,r1⟩
  .exact J.Χ w z
 have nk:(r::M).Nodup:=bg.mpr ⟨J.nr,J.nd⟩;have kl:=fC (m:=m) (by lia) nk rk;have ef:=fC (m:=m) (by lia) J.nd J.Χ;have U:=pe.length_eq;rw[aE]at U;rw[aF]at kl U;walk_at "";refine⟨by decide,λl5 n5=>RE (ys:=[]) (δ.new _ n5 _ _ h4) ay ⟨_,rfl,?_⟩⟩;have Y:=s5.trans (δ.new (.lst []) n5);have af:=δ.new (.lst []) n5 _ _ b2;have C:=δ.new (.lst []) n5 _ _ h4;generalize upd H5 l5 (.lst [])=G at Y af C ⊢;rcases fh ws with rfl|⟨ws',q,rfl⟩
 .rw[ag (by simp)];rw[List.reverse_nil,List.flatMap_nil,bH]at ep;subst ep;refine h3 _ _ ?_;walk_at "";exact k f G n3 Y af
 .rw[ff]at J C hN Xi pe ep U ⊢;rw[aj (by simp)];have hq:q∈ws'++[q]:=aW _ (aI.mpr rfl);have pr:=J.at_ r0 r1 hq;have N:=J.step g R r0 r1 (p:=q) (ws':=ws') (hZ q ws');refine⟨NW,λdu H' z=>?_,?_⟩
  .obtain⟨m',lt,XZ,XO,pl',a5,a6,z1,z2⟩:=Xi _ _ z
   first|exact⟨m',lt,XZ,XO,pl',a5,a6,z1,z2⟩|exact⟨m',lt,XZ,XO,z1,pl',a5,a6,z2⟩
  rw[aw,aq,d7]at C;refine⟨Io C,JI C ?_⟩;have s6:δ H (upd G e (.lst (ws'.map V.int))):=Y.put au _;have ac:upd G e (.lst (ws'.map V.int)) f=some (.lst (o.map V.int)):=by rw[aR S];exact af
  have aT:upd G e (.lst (ws'.map V.int)) e=some (.lst (ws'.map V.int)):=ay;generalize upd G e (.lst (ws'.map V.int))=H6 at s6 ac aT ⊢;refine⟨Io ac,oZ ac (d4 (by rw[aa];lia)) ?_⟩;have s7:δ H (upd H6 f (.lst (o.map V.int++[V.int q]))):=s6.put n3 _;have ZG:upd H6 f (.lst (o.map V.int++[V.int q])) f=some (.lst ((o++[q]).map V.int)):=by rw[ay,aw];rfl
  have av:upd H6 f (.lst (o.map V.int++[V.int q])) e=some (.lst (ws'.map V.int)):=by rw[aR S.symm];exact aT
  generalize upd H6 f (.lst (o.map V.int++[V.int q]))=H7 at s7 ZG av ⊢;refine⟨⟨_,ξ.of (s7 _ _ ho)⟩,λpk a0=>?_⟩;refine lO (K:=K) (c:=true) (a:=lo) (xs:=qs.map V.ref) (λj zs σ H8=>δ H7 H8/\H8 pk=some (.lst zs)/\zs=(((r::t).take j).filter λc=>decide (c≠r/\b c=q)).map V.int/\∃v0,σ=[v0,some (V.int q)]) ⟨δ.new _ a0,ay,rfl,_,rfl⟩ (λj zs σ H8 _ ⟨z,_⟩=>ξ.of (z _ _ (s7 _ _ ho))) ?_ ?_
  .rintro j y zs σ H8 N' Y4 hj ⟨s8,e8,rfl,v0,rfl⟩;obtain⟨q',u,rfl,dV,L,e7⟩:=pa.get hj;have kl:(((r::t).take j).filter λc=>decide (c≠r/\b c=q)).length<=j:=aL (cC ..) (by rw[bq];lia);have jl:=(az.mp L).1;rw[aF]at jl;have e9:=s8 _ _ (s7 _ _ e7);walk_at "";refine WZ e9 (v:=Pb.front r b u) rfl ?_;by_cases cu:u=r
   .have fv:Pb.front r b u=V.ω:=(by unfold Pb.front;rw[aj cu]);rw[fv];refine⟨by simp[rM],?_⟩;rw[ag (by intro z;cases z)];exact Y4 _ _ _ ⟨s8,e8,by rw[Iu L (bA λz=>z.1 cu)],_,rfl⟩
   .have fv:Pb.front r b u=V.int (b u):=(by unfold Pb.front;rw[ag cu]);rw[fv];refine⟨by simp[rM],?_⟩;by_cases cp:b u=q
    .rw[aj (by rw[cp])];refine WZ e9 rfl ⟨e8,d4 (by rw[aa];lia),Y4 _ _ _ ⟨s8.put a0 _,ay,by rw[TR L (bh ⟨cu,cp⟩),aw];rfl,_,rfl⟩⟩
    .rw[ag (by intro z;injection z;contradiction)];exact Y4 _ _ _ ⟨s8,e8,by rw[Iu L (bA λz=>cp z.2)],_,rfl⟩
  .rintro zs σ H8 ⟨s8,e8,ez8,v0,rfl⟩;rw[aa,ql,show t.length+1=(r::t).length from rfl,bx]at ez8;subst ez8;have cf:((r::t).filter λc=>decide (c≠r/\b c=q)).Nodup:=O.nd.filter _;have mk:∀u,u∈((r::t).filter λc=>decide (c≠r/\b c=q))↔u∈kd m d r b q:=λu=>by
    rw[bw g R pr.1 pr.2,bG,fK];exact⟨λh=>⟨O.Χ u ((ax.mp h.1).resolve_left h.2.1),h.2⟩,λh=>⟨ax.mpr (O.all u h.1.1 h.1.2),h.2⟩⟩
   have ds:((r::t).filter λc=>decide (c≠r/\b c=q)).length<=t.length+1:=cC ..;refine⟨pk,rfl,_,ξ.of e8,by lia,λlz zs W pz sz=>?_⟩;have ez:zs=kd m d r b q:=tT (pz.trans (gK cf nV mk)) sz ((yI m d q).filter _);subst ez;have s9:=s7.trans (s8.trans (δ.new (.lst ((kd m d r b q).map V.int)) W));have a8:=δ.new (.lst ((kd m d r b q).map V.int)) W _ _ (s8 _ _ ZG);have Z:=δ.new (.lst ((kd m d r b q).map V.int)) W _ _ (s8 _ _ av);have e9:upd H8 lz (.lst ((kd m d r b q).map V.int)) lz=some (.lst ((kd m d r b q).map V.int)):=ay;generalize upd H8 lz (.lst ((kd m d r b q).map V.int))=H9 at s9 a8 Z e9 ⊢;have pq:bO m d r b I q=q::(kd m d r b q).flatMap (bO m d r b I):=fL g R pr.1 pr.2;have N:ύ m d r b (M++kd m d r b q) (ws'++kd m d r b q):=N;generalize kd m d r b q=B at e9 N pq ⊢;have cl:=fC (m:=m) (by lia) N.nd N.Χ;rw[aE]at cl;have cc:=fC (m:=m) (by lia) N.wnd λw hw=>N.at_ r0 r1 hw;rw[aE]at cc;refine⟨Io Z,?_⟩;unfold SM;walk_at "";refine⟨_,ξ.of e9,λlv al=>?_⟩;rw[<-d9];have a4:=s9.trans (δ.new (.lst (B.reverse.map V.int)) al);have a1:=δ.new (.lst (B.reverse.map V.int)) al _ _ a8;have a7:=δ.new (.lst (B.reverse.map V.int)) al _ _ Z;have be:upd H9 lv (.lst (B.reverse.map V.int)) lv=some (.lst (B.reverse.map V.int)):=ay;generalize upd H9 lv (.lst (B.reverse.map V.int))=dw at a4 a1 a7 be ⊢;refine⟨e,lv,_,_,rfl,rfl,a7,be,cm (by rw[aa,aa,bc];lia),hN _ _ _ ?_ ⟨M++B,ws'++B.reverse,o++[q],_,_,rfl,rfl,a4.put au _,?_,?_,N.perm (gV _ B.reverse_perm.symm),?_,?_⟩⟩
   .rw[aE,aE,aE,bc];simp only[aF,dU]
    lia
   .rw[aR S];exact a1
   .rw[ay,<-aw]
   .have p1:(o++[q]++(ws'++B.reverse)).Perm (o++(ws'++[q])++B):=by
     rw[bX,bX];refine gV _ ?_;rw[<-bX];exact List.Perm.append (mz) B.reverse_perm
    exact p1.trans (mB _ pe)
   .rw[<-ep,ia,ia,jw,lU,lZ,bC,pq,fJ];simp
theorem Fx{d i:Type}{R:d->i->Prop}:∀{l:List d},(∀a∈l,∃b,R a b)->∃c,Paired R l c
 | [],_=>⟨[],.nil⟩
 | a::l,h=>by
   obtain⟨b,e⟩:=h a (.head _);obtain⟨c,g⟩:=Fx (l:=l) λx f=>h x (.tail _ f);exact⟨b::c,.cons e g⟩
theorem y9{e c:Type}{R:e->c->Prop}:∀{l:List e}{d:List c},Paired R l d->∀{b:c},b∈d->∃a∈l,R a b
 | _,_,.cons h t,b,hb=>by
   rcases ax.mp hb with rfl|hb
   .exact⟨_,.head _,h⟩
   .obtain⟨a,ha,hr⟩:=y9 t hb;exact⟨a,.tail _ ha,hr⟩
theorem vG{c e:Type}{R:c->e->Prop}:∀{l:List c}{d:List e},Paired R l d->∀{a:c},a∈l->∃b∈d,R a b
 | _,_,.cons h t,b,hb=>by
   rcases ax.mp hb with rfl|hb
   .exact⟨_,.head _,h⟩
   .obtain⟨a,ha,hr⟩:=vG t hb;exact⟨a,.tail _ ha,hr⟩
theorem vM{c d i:Type}{R:c->d->Prop}{f:c->i}{h:d->i}(e:∀a b,R a b->f a=h b):∀{l:List c}{g:List d},Paired R l g->l.map f=g.map h
 | _,_,.nil=>rfl
 | _,_,.cons x t=>by rw[aq,aq,e _ _ x,vM e t]
theorem GI{d g f:Type}{R:d->g->Prop}{S:d->f->Prop}{U:f->g->Prop}(e:∀a b c,R a b->S a c->U c b):∀{l:List d}{i:List g}{h:List f},Paired R l i->Paired S l h->Paired U h i
 | _,_,_,.nil,.nil=>.nil
 | _,_,_,.cons x t,.cons y u=>.cons (e _ _ _ x y) (GI e t u)
def Bp(T:Txt K X):Sp:=λp H Q _=>E11 λ(n lo:Addr)(k:gg)(e:hH)(t:d2)(m r w h:Int)(c:d3)(d:fz)=>p=[.int m,.ref n,.ref lo,.int w,.int h]/\ϧ H n e/\Good m e/\ζ m e r c d/\H lo=some (.lst (k.map V.ref))/\Μ H r c k (r::t)/\Order m r c t/\t.length+1=m.toNat/\(0<=r/\r<m)/\m<=4/\0<=h/\h<=40/\h=gE m e r c (dD m e r c d) w/\(∀f j,YB m e r c d w f->YB m e r c d w j->XM m e r c d f=XM m e r c d j->f=j)/\(∀g:List (List Int),g.Nodup->(∀f∈g,YB m e r c d w f)->g.length<64)/\∀(l:Addr)(o:gg)(g:List (List Int))(i:Hp),H l=none->δ H i->i l=some (.lst (o.map V.ref))->Κ i o g->(∀f,f∈g↔YB m e r c d w f)->(g.map (XM m e r c d)).Pairwise (λa b=>PySem.SeqAt.Θ a b=true)->Q (.ref l) i
abbrev rq:Stmt:=top 83
theorem Ax:η ["many","tolls","order","wanted","held","row","due","laying","load"] ["many","tolls","order","wanted","held"] (aK rq):=.of
theorem Am:YQ (aK rq) "load":=.of (by kernel_rfl)
theorem KB(T:Txt K X)(hq:cg (Ε P w))(rJ:Cb P w K X base "_law_layings" kZ ["many","held"] 1 (uV T))(vR:Cb P w K X base "_law_load" pV ["tolls","order","laying"] 1 (yO T))(qb:Cb P w K X base "_law_rows_down" lG ["order"] 1 (tm T)):Ok P w K X base "_law_due" rq ["many","tolls","order","wanted","held"] 2 (Bp T):=λ_ _ D=>by
 refine D.F.Ϙ Ax (by walk_at "v") λΑ A db s H vs Q E hr h=>?_;obtain⟨dt,lo,qs,o,t,m,r,w,h,f,n,rfl,ta,g,R,ho,pa,O,c3,rr,m4,h0,dg,eh,a5,av,k⟩:=h;have hv:=hr.units;have m1:=g.m1;refine⟨_,(aD (Δ 5 (Ν qb hr hq (ah (ε 2) aB))) (aD (Δ 6 (eD aB)) (aD (fm PassesOwn.never rfl (g6 (Ν rJ hr hq (ah (ε 0) (ah (ε 4) aB)))) (ϒ 7) (aD (u7 (i:=8) Ax.nd rfl (Or.inr Am.l) (Ν vR hr hq (ah (ε 1) (ah (ε 2) (ah (ε 7) aB))))) (aO (eK (Ϻ pY (Ι bL (bY 8) (mM jv (mM bL (ε 2) aU (λ_ _=>rfl)) aU (λ_ _=>rfl))) (ε 3)) (aO (dz (iR PySem.F.plainAttrs_list PySem.F.slot_list_append PySem.F.type_list_append fM (ε 6) (ah (jT (ah (gW rfl (Yz ["place","load"] 1 [8]) (g6 (ε 5)) (λ_ _ _ _=>(fj (i:=0) (show(["place","load"]:gy).Nodup from by decide +kernel) rfl (Or.inl rfl))) (λ_ _ _ _=>jh) (λ_ _ _ _=>(Ι (pi K rfl) (pv 1) (pv 0)))) (ah (ε 7) aB))) aB)))) dy)))) (aO (bR (gW rfl (tj (Nc:=["pair"]) 1 (by decide +kernel) (by decide +kernel) rfl (by decide +kernel) rfl) (g6 (W4 (EV hv) T.sorted (ah (ε 6) aB))) (λ_ _ _ _=>(fj (i:=0) (show(["pair"]:gy).Nodup from by decide +kernel) rfl (Or.inl rfl))) (λ_ _ _ _=>jh) (λ_ _ _ _=>(Ι (Cn K rfl) (pv 0) aU)))))))),?_⟩;walk_at "s";refine cL λN1 h1=>?_;walk_at "";refine⟨lo,qs,o,t,m,r,f,n,rfl,g,R,ho,pa,O,c3,rr,λlr H1 eo s1 er=>h1 _ _ (cL λN2 h2=>?_)⟩;walk_at "";refine⟨by decide,λld ai=>h2 _ _ (cL λN3 h3=>?_)⟩;have cp:=s1.free ai;have s2:=δ.new (HO.lst []) ai;have e2:upd H1 ld (HO.lst []) ld=some (.lst []):=ay;have ek:lr≠ld:=λz=>by subst z;rw[ai]at er;cases er
 have ZI:lo≠ld:=λz=>by subst z;rw[cp]at ho;cases ho
 have YD:=s1.trans s2;have c1:=s2 _ _ er;generalize upd H1 ld (HO.lst [])=H2 at s2 e2 YD c1 ⊢;walk_at "";refine⟨m,h,rfl,m1,m4,h0,dg,λlL ps H3 cr s3 eL an=>?_⟩;refine⟨lL,rfl,⟨_,ξ.of eL⟩,?_⟩;have Y1:=YD.trans s3;have e3:=s3 _ _ e2;have cW:lL≠ld:=λz=>by subst z;rw[cr]at e2;cases e2
 have bS:∀{p:Addr}{xs:d2},xs∈lyA h (m-1).toNat->H3 p=some (.lst (xs.map V.int))->p≠ld:=λ{p xs} C hp z=>by
  have hl:=((Cd h0).mp C).1;rw[z,e3]at hp;injection hp with hp
  injection hp with hp
  rw[mU.mp hp.symm]at hl;cases hl
 obtain⟨Pd,aS⟩:∃Pd:List Int->Bool,∀xs,Pd xs=decide (Φ m o r f n (λv=>xs.getD v.toNat 0) (Η o f) r<w):=⟨_,λ_=>rfl⟩;have XR:∀xs,xs∈(lyA h (m-1).toNat).filter Pd↔YB m o r f n w xs:=λxs=>by
  rw[bG,Cd h0,aS,fK,eh];exact⟨λ⟨⟨a,b,c⟩,d⟩=>⟨by lia,b,c,d⟩,λ⟨a,b,c,d⟩=>⟨⟨by lia,b,c⟩,d⟩⟩
 have nd:=LH h (m-1).toNat;have bl:∀xs∈lyA h (m-1).toNat,(xs.length:Int)=m:=λxs C=>by have:=((Cd h0).mp C).1;lia
 generalize lyA h (m-1).toNat=L at an bS XR nd bl ⊢;have pr:∀u∈bO m o r f n r,0<=u/\u<m:=λu hu=>((oz g R _ r rr.1 rr.2).2 u hu).1;have pL:=zW g R rr.1 rr.2;have c6:∀i,((L.take i).filter Pd).length<64:=λi=>av _ ((nd.sublist (List.take_sublist _ _)).sublist List.filter_sublist) λxs C=>(XR xs).mp (bG.mpr ⟨fU (bG.mp C).1,(bG.mp C).2⟩);obtain⟨q0,v0,e0,f0,f1,f2⟩:=pa.get (i:=0) (x:=V.ref (qs.headD 0)) (by
  have ql:qs.length=(r::t).length:=Paired.length pa;cases qs with
  | nil=>simp at ql
  | cons a l=>rfl)
 cases(show v0=r by simpa using f1.symm);have cx:∀{H':Hp},δ H H'->∀{Q':VK},Q' (V.ref q0) H'->zq K (.ref lo) (.int 0) H' Q':=λ{_} s' {_} q=>Υ (s' _ _ ho) (cT (by decide) (v:=V.ref q0) (by rw[show(0:Int).toNat=0 from rfl,aA,f0];rfl)) q;refine mG (K:=K) (xs:=ps.map V.ref) (λi I H4=>δ H1 H4/\Yw ld H3 H4/\E3 λ(S:List Pz)(v7 v8:Option V)=>H4 ld=some (.lst (S.map λz=>V.ref z.1))/\(∀z∈S,H4 z.1=some (.tup [.ref z.2.1,z.2.2.1])/\(z.2.1≠ld/\H4 z.2.1=some (.lst (z.2.2.2.map V.int)))/\z.2.2.2.length=(bO m o r f n r).length)/\Paired (λ(z:Pz) xs=>z.2.2.2=XM m o r f n xs/\∃p,z.2.2.1=V.ref p/\p≠ld/\H3 p=some (.lst (xs.map V.int))) S ((L.take i).filter Pd)/\I=[some (V.int m),some (V.ref dt),some (V.ref lo),some (V.int w),some (V.int h),some (V.ref lr),some (V.ref ld),v7,v8]) ⟨s2.trans s3,Yw.refl,[],_,_,e3,λz M=>(by cases M),.nil,rfl⟩ (λi I H4 _ z=>ξ.of (z.2.1 _ _ eL cW)) ?_ ?_
 .rintro i x I H4 N BB ϗ hN hi ⟨s4,k4,S,v7,v8,e4,M,pz,rfl⟩;obtain⟨q,xs,rfl,g1,g2,g3⟩:=an.get hi;have et:L.take (i+1)=L.take i++[xs]:=by rw[bK,g2];rfl
  have xm:=aQ g2;have nq:=bS xm g3;have g4:=k4 _ _ g3 nq;have Y2:=s1.trans s4;have zl:S.length<64:=by rw[Paired.length pz];exact c6 i
  refine ϗ _ _ (cL λM1 k1=>?_);walk_at "";refine⟨dt,lo,q,true,qs,o,t,xs,m,r,f,n,rfl,ta.same Y2,g,R,Y2 _ _ ho,pa.same Y2,O,ξ.of g4,bl _ xm,λll H5 XQ J el=>k1 _ _ ?_⟩;have Y:=Y2.trans J;have e5:=J _ _ e4;walk_at "";refine cx Y (WZ (Y _ _ f2) rfl (Υ el (WC rr.1 (by unfold qF;rw[aa,b7];lia)) ?_));rw[qC rr.1 rr.2];refine⟨_,rfl,?_⟩;have k5:=k4.then J;have bm:∀{H':Hp},δ H5 H'->∀z∈S,H' z.1=some (.tup [.ref z.2.1,z.2.2.1])/\(z.2.1≠ld/\H' z.2.1=some (.lst (z.2.2.2.map V.int)))/\z.2.2.2.length=(bO m o r f n r).length:=λ{H'} s' z hm=>⟨s' _ _ (J _ _ (M z hm).1),⟨(M z hm).2.1.1,s' _ _ (J _ _ (M z hm).2.1.2)⟩,(M z hm).2.2⟩;by_cases c:Φ m o r f n (λv=>xs.getD v.toNat 0) (Η o f) r<w
  .rw[aj c];have ef:(L.take (i+1)).filter Pd=(L.take i).filter Pd++[xs]:=(by rw[et,b4,g9,aS,aj (bh c)];rfl);have bs:=s4.trans J _ _ er;refine⟨Io e5,⟨_,ξ.of bs⟩,λW Y5=>?_⟩;refine lO (K:=K) (c:=true) (a:=lr) (xs:=(bO m o r f n r).map V.int) (λj Z I G=>δ H5 G/\G W=some (.lst Z)/\Z=(((bO m o r f n r).take j).map (Φ m o r f n (λv=>xs.getD v.toNat 0) (Η o f))).map V.int/\∃v0,I=[v0,some (V.ref ll)]) ⟨δ.new _ Y5,ay,rfl,_,rfl⟩ (λj S I G _ ⟨z,_⟩=>ξ.of (z _ _ bs)) ?_ ?_
   .rintro j y Z I G N' Y4 hj ⟨s6,e6,rfl,v0,rfl⟩;obtain⟨u,hu,rfl⟩:=List.μ hj;have um:=pr u (aQ hu);walk_at "";refine Υ (s6 _ _ el) (WC um.1 (by unfold qF;rw[aa,b7];lia)) ?_;rw[qC um.1 um.2];refine⟨e6,d4 (by rw[aa,aa,bq];lia),Y4 _ _ _ ⟨s6.put Y5 _,ay,by rw[cz,hu,aw,aw];rfl,_,rfl⟩⟩
   .rintro Z I G ⟨s6,e6,rfl,v0,rfl⟩;rw[aa,bx]at e6;refine⟨cm (by simp),λtp a9=>?_⟩;have s7:=s6.trans (δ.new (HO.tup [V.ref W,V.ref q]) a9);have e7:upd G tp (HO.tup [V.ref W,V.ref q]) tp=some (.tup [V.ref W,V.ref q]):=ay;have a7:=δ.new (HO.tup [V.ref W,V.ref q]) a9 _ _ e6;generalize upd G tp (HO.tup [V.ref W,V.ref q])=H7 at s7 e7 a7 ⊢;have bk:=s7 _ _ e5;have a2:W≠ld:=λz=>by subst z;rw[Y5]at e5;cases e5
    have a8:∀{a:Addr}{vs:List V},H7 a=some (.tup vs)->a≠ld:=λh=>gU h bk (by intro z;cases z);refine oZ bk (d4 (by rw[aa];lia)) (hN _ _ ⟨((s4.trans J).trans s7).put ai _,(k5.then s7).put _,S++[(tp,W,V.ref q,XM m o r f n xs)],_,_,by rw[ay,aw];rfl,λz hm=>?_,by rw[ef];exact sQ ⟨rfl,q,rfl,nq,g3⟩ pz,rfl⟩);rcases aY.mp hm with hm|hm
    .obtain⟨a,⟨b,c'⟩,d⟩:=bm s7 z hm;exact⟨by rw[aR (a8 a)];exact a,⟨b,by rw[aR b];exact c'⟩,d⟩
    .cases aI.mp hm;exact⟨by rw[aR (a8 e7)];exact e7,⟨a2,by rw[aR a2];exact a7⟩,by unfold XM;rw[aa]⟩
  .rw[ag c];have ef:(L.take (i+1)).filter Pd=(L.take i).filter Pd:=(by rw[et,b4,g9,aS,ag (by simpa using c),jH,bH]);exact hN _ _ ⟨s4.trans J,k5,S,_,_,e5,bm (δ.refl _),by rw[ef];exact pz,rfl⟩
 .rintro B I H4 hB ⟨s4,k4,S,v7,v8,e4,M,pz,rfl⟩;rw[aa,Paired.length an,bx]at pz;refine hB _ _ (h3 _ _ ?_);walk_at "";have Y2:=s1.trans s4;have ct:(S.map λx=>x.2.2.2).Nodup:=by
   rw[vM (h:=XM m o r f n) (λa b h=>h.1) pz];show List.Pairwise _ (List.map _ _);rw[fP];refine List.Pairwise.imp_of_mem (λ{a b} ha hb ne e=>ne (a5 a b ((XR a).mp ha) ((XR b).mp hb) e)) (nd.sublist List.filter_sublist)
  refine⟨S,e4,_,λz hm=>⟨(M z hm).1,(M z hm).2.1.2,(M z hm).2.2⟩,by rw[Paired.length pz];exact av _ (nd.sublist List.filter_sublist) λxs C=>(XR xs).mp C,ct,λl U nl pm bd=>?_⟩;have J:=δ.new (HO.lst (U.map λz=>V.ref z.1)) nl;have e5:upd H4 l (HO.lst (U.map λz=>V.ref z.1)) l=some (.lst (U.map λz=>V.ref z.1)):=ay;have k5:=k4.then J;generalize upd H4 l (HO.lst (U.map λz=>V.ref z.1))=H5 at J e5 k5 ⊢;have Y:=Y2.trans J;have hy:∀z∈U,H5 z.1=some (.tup [.ref z.2.1,z.2.2.1]):=λz hm=>J _ _ (M z (pm.mem_iff.mp hm)).1;obtain⟨ds,pd⟩:=Fx (l:=U) (R:=λz xs=>xs∈L.filter Pd/\z.2.2.2=XM m o r f n xs/\∃p,z.2.2.1=V.ref p/\p≠ld/\H3 p=some (.lst (xs.map V.int))) λz hm=>by
   obtain⟨b,hb,hr⟩:=vG pz (pm.mem_iff.mp hm);exact⟨b,hb,hr⟩
  obtain⟨a6,pp⟩:=Fx (l:=U) (R:=λz p=>z.2.2.1=V.ref p) λz hm=>by
   obtain⟨b,_,_,_,p,hp,_⟩:=vG pd hm;exact⟨p,hp⟩
  have ep:U.map (λz=>z.2.2.1)=a6.map V.ref:=vM (λa b h=>h) pp;have yl:U.length<64:=by rw[pm.length_eq,Paired.length pz];exact av _ (nd.sublist List.filter_sublist) λxs C=>(XR xs).mp C
  refine⟨⟨_,ξ.of e5⟩,λW Y5=>?_⟩;refine lO (K:=K) (c:=true) (a:=l) (xs:=U.map λz=>V.ref z.1) (λj Z I G=>δ H5 G/\G W=some (.lst Z)/\Z=(U.take j).map (λz=>z.2.2.1)/\∃v0,I=[v0]) ⟨δ.new _ Y5,ay,rfl,_,rfl⟩ (λj Z I G _ ⟨z,_⟩=>ξ.of (z _ _ e5)) ?_ ?_
  .rintro j y Z I G N' Y4 hj ⟨s6,e6,rfl,v0,rfl⟩;obtain⟨z,hu,rfl⟩:=List.μ hj;have zm:=aQ hu;walk_at "";refine WZ (s6 _ _ (hy z zm)) rfl ⟨e6,d4 (by rw[aa,bq];lia),Y4 _ _ _ ⟨s6.put Y5 _,ay,by rw[cz,hu,aw];rfl,_,rfl⟩⟩
  .rintro Z I G ⟨s6,e6,rfl,v0,rfl⟩;rw[aa,bx,ep]at e6;have c0:∀xs,xs∈ds↔YB m o r f n w xs:=λxs=>by
    constructor
    .intro C;obtain⟨z,_,M,_⟩:=y9 pd C;exact(XR xs).mp M
    .intro C;obtain⟨z,zm,e,_⟩:=y9 pz ((XR xs).mpr C);obtain⟨y,ym,hy,e',_⟩:=vG pd (pm.mem_iff.mpr zm);rw[a5 xs y C ((XR y).mp hy) (e.symm.trans e')];exact ym
   refine k W a6 ds G (Y.free Y5) (Y.trans s6) e6 ?_ c0 ?_
   .refine GI (λz xs p C hp=>?_) pd pp;obtain⟨_,_,p',e1,e2,e3⟩:=C;rw[hp]at e1;cases e1;exact s6 _ _ (k5 _ _ e3 e2)
   .rw[vM (h:=XM m o r f n) (λa b h=>h.2.1) pd]at bd;exact bd
def yN(T:Txt K X):Sp:=λc H Q _=>E3 λ(a:Addr)(b:d2)(k:Int)=>c=[.ref a,.int k]/\ξ K H a (b.map V.int)/\0<=k/\∀v,Q (.int v) H
abbrev sf:Stmt:=top 71
theorem Hg:η ["script","k"] ["script","k"] (aK sf):=.of
theorem G2(T:Txt K X)(j:cg (Ε P w)):Ok P w K X base "_law_cell" sf ["script","k"] 1 (yN T):=λ_ _ D=>by
 refine D.F.Ϙ Hg (by walk_at "v") λn A b s H m Q E l h=>?_;obtain⟨a,d,i,rfl,e,f,k⟩:=h;refine⟨_,(aD (eK (Ϻ pY (ε 1) (W4 kG T.len (ah (ε 0) aB))) (aO (bR (Ι bL (ε 0) (ε 1)))) dy) (aO (bR aU))),?_⟩;walk_at "s";walk_at "";refine⟨_,.inl e,?_⟩;rw[aa];by_cases c:i<(d.length:Int)
 .rw[aj c];have g:i.toNat<d.length:=by lia
  exact ixS e (cT f (v:=.int d[i.toNat]) (by rw[aA,ao g];rfl)) (k _)
 .rw[ag c];exact k 0
theorem PZ(c k:Int)(m:0<=k)(j:k<=1000):∃a b d:Int,(c%998244353+7919*k+11)*48271%2147483647=a/\a*a%2147483629=b/\(b+104729*k+7)*b%1000000007=d/\WH 7919 k/\WH (c%998244353+7919*k+11) 48271/\WH a a/\WH 104729 k/\WH (b+104729*k+7) b/\WH d 16807/\0<=d*16807%2147483647/8/\d*16807%2147483647/8<=2147483647:=by
 have e:∀(x n:Int),0<n->0<=x%n/\x%n<n:=λx n h=>⟨dG x (Int.ne_of_gt h),cN x h⟩;refine⟨_,_,_,rfl,rfl,rfl,?_⟩;have g:=e ((c%998244353+7919*k+11)*48271) 2147483647 (by decide);generalize (c%998244353+7919*k+11)*48271%2147483647=a at g ⊢;have i:=e (a*a) 2147483629 (by decide);generalize a*a%2147483629=b at i ⊢;have f:=e ((b+104729*k+7)*b) 1000000007 (by decide);generalize (b+104729*k+7)*b%1000000007=d at f ⊢;have l:=e (d*16807) 2147483647 (by decide);exact⟨.inl ⟨by decide,by decide⟩,.inr ⟨by decide,by decide⟩,.inl ⟨by lia,by lia⟩,.inl ⟨by decide,by decide⟩,.inr ⟨by lia,by lia⟩,.inr ⟨by decide,by decide⟩,by lia,by lia⟩
def wS(T:Txt K X):Sp:=λa H Q _=>∃(c k:Int),a=[.int c,.int k]/\0<=k/\k<=1000/\∀v,0<=v->v<=2147483647->Q (.int v) H
abbrev qX:Stmt:=top 72
theorem FR:η ["cell","k","m"] ["cell","k"] (aK qX):=.of
theorem Fg(T:Txt K X)(x:cg (Ε P w)):Ok P w K X base "_law_mixed" qX ["cell","k"] 1 (wS T):=λ_ _ D=>by
 refine D.F.Ϙ FR (by walk_at "v") λB A e s H z Q E y h=>?_;obtain⟨c,i,rfl,o,g,k⟩:=h;obtain⟨a,b,d,l,f,r,v,m,p,j,n,q,t,u⟩:=PZ c i o g;refine⟨_,(aD (Δ 2 (bn fQ (bn mw (bn eT (bn eT (bn fQ (ε 0) aU) (bn mw aU (ε 1))) aU) aU) aU)) (aD (Δ 2 (bn fQ (bn mw (ε 2) (ε 2)) aU)) (aD (Δ 2 (bn fQ (bn mw (bn eT (bn eT (ε 2) (bn mw aU (ε 1))) aU) (ε 2)) aU)) (aO (bR (bn gO (bn fQ (bn mw (ε 2) aU) aU) aU)))))),?_⟩;walk_at "s";walk_at "";rw[l,f,r];exact⟨by decide,v,m,by decide,p,by decide,j,n,by decide,q,by decide,⟨by decide,by decide⟩,k _ t u⟩
def uU(T:Txt K X):Sp:=λe H Q _=>E3 λ(a:Addr)(d:d2)(m:Int)=>e=[.ref a,.int m]/\ξ K H a (d.map V.int)/\0<=m/\m<=800/\∀(l:Addr)(c:d2)(b:Hp),H l=none->δ H b->b l=some (.lst (c.map V.int))->(c.length:Int)=m->Q (.ref l) b
abbrev mX:Stmt:=top 73
theorem Ds:η ["script","many","rest","numbers","k"] ["script","many"] (aK mX):=.of
theorem vh:Ϝ (aK mX) "range":=.of (by kernel_rfl)
theorem CG(T:Txt K X)(j:cg (Ε P w))(r:Cb P w K X base "_law_cell" sf ["script","k"] 1 (yN T))(t:Cb P w K X base "_law_mixed" qX ["cell","k"] 1 (wS T)):Ok P w K X base "_law_numbers" mX ["script","many"] 2 (uU T):=λ_ _ D=>by
 refine D.F.Ϙ Ds (by walk_at "v") λM A o s H G Q E n h=>?_;obtain⟨a,u,m,rfl,v,L,J,k⟩:=h;refine⟨_,(aD (Δ 2 (Ν r n j (ah (ε 0) (ah aU aB)))) (aD (Δ 3 (eD aB)) (aD (fm PassesOwn.never rfl (iP vh.g T.range (ah (ε 1) aB)) (ϒ 4) (aO (eK (Ϻ jX (bn fQ (Ν r n j (ah (ε 0) (ah aU aB))) aU) aU) (aD (dz (iR PySem.F.plainAttrs_list PySem.F.slot_list_append PySem.F.type_list_append fM (ε 3) (ah (bn fQ (ε 2) (bn MT aU aU)) aB))) (aO (Δ 2 (bn FP (ε 2) (bn MT aU aU))))) (aO (dz (iR PySem.F.plainAttrs_list PySem.F.slot_list_append PySem.F.type_list_append fM (ε 3) (ah (bn eT (bn mw (Ν t n j (ah (ε 2) (ah (ε 4) aB))) aU) (Ν t n j (ah (ε 2) (ah (bn eT (ε 4) aU) aB)))) aB))))))) (aO (bR (ε 3)))))),?_⟩;walk_at "s";walk_at "";refine⟨a,u,1,rfl,v,by decide,λrest=>⟨by decide,λl nl=>⟨by lia,by lia,?_⟩⟩⟩;refine pW (λi q d=>δ H d/\E3 λ(rest:Int)(b:d2)(p:Option V)=>d l=some (.lst (b.map V.int))/\b.length=i/\q=[some (.ref a),some (.int m),some (.int rest),some (.ref l),p]) ⟨δ.new _ nl,rest,[],_,ay,rfl,rfl⟩ ?_ ?_
 .rintro i q d N hN hi ⟨s2,rest,b,p,e2,xl,rfl⟩;rw[cR];have B:=δ.seq s2 v;have f:∀(z rest:Int),N [some (V.ref a),some (V.int m),some (V.int rest),some (V.ref l),some (V.int (i:Int))] (upd d l (.lst (b.map V.int++[V.int z]))):=λz rest=>
   hN _ _ ⟨s2.put nl _,rest,b++[z],_,by rw[ay,aw];rfl,by rw[aE,xl];rfl,rfl⟩
  walk_at "";refine⟨a,u,0,rfl,B,by decide,λc=>⟨c,rfl,by decide,?_⟩⟩;have e:T4 10 20:=⟨by decide,by decide,by decide⟩;by_cases z:c%2=0
  .rw[aj z];exact⟨Io e2,e,by decide +kernel,oZ e2 (d4 (by rw[aa];lia)) ⟨e,⟨by decide +kernel,by decide +kernel⟩,f _ _⟩⟩
  .rw[ag z];exact⟨Io e2,rest,(i:Int),rfl,by lia,by lia,λx I C=>⟨x,rfl,.inr ⟨by decide,by decide⟩,rest,(i:Int)+100,rfl,by lia,by lia,λy _ _=>⟨y,rfl,oZ e2 (d4 (by rw[aa];lia)) (f _ _)⟩⟩⟩
 .rintro q d ⟨s2,rest,b,p,e2,xl,rfl⟩;walk_at "";exact k l b d nl s2 e2 (by lia)
def y0(T:Txt K X):Sp:=λa H Q _=>∃(c:Int),a=[.int c]/\∀t,2<=t->t<=1000000->Q (.int t) H
abbrev rT:Stmt:=top 74
theorem Hk:η ["rest"] ["rest"] (aK rT):=.of
theorem Hh(T:Txt K X)(b:cg (Ε P w)):Ok P w K X base "_law_toll" rT ["rest"] 1 (y0 T):=λ_ _ D=>by
 refine D.F.Ϙ Hk (by walk_at "v") λl A a s H f Q E e h=>?_;obtain⟨c,rfl,k⟩:=h;refine⟨_,(aD (eK (Ϻ jX (bn fQ (ε 0) aU) aU) (aO (bR (bn eT aU (bn fQ (bn gO (ε 0) aU) aU)))) dy) (aO (bR (bn eT aU (bn fQ (bn gO (ε 0) aU) aU))))),?_⟩;walk_at "s";walk_at "";have g:=dG (c/8) (show(999999:Int)≠0 by decide);have i:=cN (c/8) (show(0:Int)<999999 by decide);have d:=dG (c/8) (show(3:Int)≠0 by decide);have j:=cN (c/8) (show(0:Int)<3 by decide);refine⟨by decide,?_⟩;by_cases z:c%8=0
 .rw[aj z];exact⟨⟨by decide,by decide⟩,by decide,k _ (by lia) (by lia)⟩
 .rw[ag z];exact⟨⟨by decide,by decide⟩,by decide,k _ (by lia) (by lia)⟩
theorem OA{c:Prop}[Decidable c]{A B:Prop}{P:Int->Prop}(m1 m2:Int)(hB:P m2->B)(hA:P m1->A)(h:∀m,((c/\m=m1)\/(¬c/\m=m2))->P m):if c then A else B:=by
 by_cases z:c
 .rw[aj z];exact hA (h _ (.inl ⟨z,rfl⟩))
 .rw[ag z];exact hB (h _ (.inr ⟨z,rfl⟩))
def Ad(T:Txt K X):Sp:=λg H Q _=>∃(a:Addr)(c:d2),g=[.ref a]/\H a=some (.lst (c.map V.int))/\25<=c.length/\c.length<=1000/\∀(t l:Addr)(m:Int)(f:gg)(e:hH)(d:Hp),H t=none->H l=none->δ H d->d t=some (.tup [.int m,.ref l])->d l=some (.lst (f.map V.ref))->ν d f e->Good m e->((c.getD 0 0/7%10=9/\m=8+c.getD 0 0/70%17)\/(¬c.getD 0 0/7%10=9/\m=1+c.getD 0 0%7))->(c.getD 0 0/1190%4=1->∃z,∀x∈e,x.a=z\/x.b=z)->Q (.ref t) d
abbrev q8:Stmt:=top 75
theorem KW:η ["numbers","head","many","names","k","roads","rest","near","there","back","road"] ["numbers"] (aK q8):=.of
theorem sE:Ϝ (aK q8) "range":=.of (by kernel_rfl)
theorem Jz(T:Txt K X)(hq:cg (Ε P w))(sg:Cb P w K X base "_law_toll" rT ["rest"] 1 (y0 T)):Ok P w K X base "_law_web" q8 ["numbers"] 2 (Ad T):=λ_ _ D=>by
 refine D.F.Ϙ KW (by walk_at "v") λΑ A be s H vs Q E hr h=>?_;obtain⟨a,G,rfl,ha,dn,n1,k⟩:=h;refine⟨_,(aD (Δ 1 (Ι bL (ε 0) aU)) (aD (Δ 2 (bn eT aU (bn fQ (ε 1) aU))) (aD (eK (Ϻ jX (bn fQ (bn gO (ε 1) aU) aU) aU) (aO (Δ 2 (bn eT aU (bn fQ (bn gO (ε 1) aU) aU)))) dy) (aD (Δ 3 (eD aB)) (aD (fm PassesOwn.never rfl (iP sE.g T.range (ah (ε 2) aB)) (ϒ 4) (aO (dz (iR PySem.F.plainAttrs_list iz PySem.F.type_list_insert D1 (ε 3) (ah (bn fQ (Ι bL (ε 0) (bn eT (ε 4) aU)) (bn eT (ε 4) aU)) (ah (ε 4) aB)))))) (aD (Δ 5 (eD aB)) (aD (fm PassesOwn.never rfl (Me sE.g T.range (ah aU (ah (ε 2) aB))) (ϒ 4) (aD (Δ 6 (bn gO (Ι bL (ε 0) (bn eT (ε 4) aU)) (bn eT (ε 4) aU))) (aD (Δ 7 (mM bL (eD (ah (bn iB (ε 4) aU) (ah aU (ah (bn fQ (ε 6) (ε 4)) (ah (bn fQ (ε 6) (ε 4)) aB))))) (bn fQ (bn gO (ε 1) aU) aU) (λ_ _=>rfl))) (aD (Δ 6 (bn gO (ε 6) (ε 4))) (aD (Δ 8 (Ν sg hr hq (ah (ε 6) aB))) (aD (Δ 9 (Ν sg hr hq (ah (bn gO (ε 6) aU) aB))) (aD (eK (Ϻ jX (bn fQ (bn gO (ε 1) aU) aU) aU) (aO (Δ 9 (ε 8))) dy) (aD (Δ 6 (bn gO (bn gO (ε 6) aU) aU)) (aD (Δ 10 (jT (ah (Ι bL (ε 3) (ε 7)) (ah (Ι bL (ε 3) (ε 4)) (ah (ε 8) (ah (ε 9) aB)))))) (aD (eK (Ϻ jX (bn fQ (ε 6) aU) aU) (aO (Δ 10 (jT (ah (Ι bL (ε 3) (ε 4)) (ah (Ι bL (ε 3) (ε 7)) (ah (ε 9) (ah (ε 8) aB))))))) dy) (aO (dz (iR PySem.F.plainAttrs_list iz PySem.F.type_list_insert D1 (ε 5) (ah (bn fQ (bn gO (ε 6) aU) (bn eT (W4 kG T.len (ah (ε 5) aB)) aU)) (ah (ε 10) aB))))))))))))))) (aO (bR (jT (ah (ε 2) (ah (ε 5) aB)))))))))))),?_⟩;walk_at "s";have Y:∀(x n:Int),0<n->0<=x%n/\x%n<n:=λx n h=>⟨dG x (Int.ne_of_gt h),cN x h⟩;walk_at "";refine Υ ha (WC (by decide) (by lia)) ?_;change ∀(t l:Addr)(m:Int)(o:gg)(u:hH)(H':Hp),H t=none->H l=none->δ H H'->H' t=some (.tup [.int m,.ref l])->H' l=some (.lst (o.map V.ref))->ν H' o u->Good m u->((G.getD (0:Int).toNat 0/7%10=9/\m=8+G.getD (0:Int).toNat 0/70%17)\/(¬G.getD (0:Int).toNat 0/7%10=9/\m=1+G.getD (0:Int).toNat 0%7))->(G.getD (0:Int).toNat 0/1190%4=1->∃z,∀x∈u,x.a=z\/x.b=z)->Q (.ref t) H' at k;generalize G.getD (0:Int).toNat 0=c at k ⊢;refine⟨_,rfl,by decide,_,rfl,⟨by decide,by decide⟩,by decide,?_⟩;have h1:=Y c 7 (by decide);have h2:=Y (c/70) 17 (by decide);have h3:=Y (c/1190) 4 (by decide);apply OA (8+c/70%17) (1+c%7)
 .generalize 1+c%7=m;intro h;exact h
 .exact λh=>⟨_,rfl,⟨by decide,by decide⟩,by decide,h⟩
 intro m hm;have m1:1<=m:=by lia
 have Ο:m<=24:=by lia
 refine⟨by decide,λS ad=>⟨by lia,by lia,?_⟩⟩;refine pW (λi U H2=>δ H H2/\(∃f,H2 S=some (.lst (f.map V.int))/\ϔ i f)/\∃v,U=[some (V.ref a),some (V.int c),some (V.int m),some (V.ref S),v,none,none,none,none,none,none]) ⟨δ.new _ ad,⟨[],ay,.nil⟩,_,rfl⟩ ?_ ?_
 .rintro i U H2 N hN hi ⟨s2,⟨f,e2,L⟩,v,rfl⟩;rw[cR];have ll:=L.len;walk_at "";refine⟨Io e2,Υ (s2 _ _ ha) (WC (by lia) (by lia)) ⟨_,rfl,by lia,?_⟩⟩;have q:=Y (G.getD ((i:Int)+1).toNat 0) ((i:Int)+1) (by lia);generalize G.getD ((i:Int)+1).toNat 0%((i:Int)+1)=w at q ⊢;refine SS e2 q.1 (by rw[aa];lia) (d4 (by rw[aa];lia)) ?_;refine hN _ _ ⟨s2.put ad _,⟨_,?_,L.put w.toNat (by lia)⟩,_,rfl⟩;rw[ay,aw,aq,mK,jU]
 .rintro U H2 ⟨s2,⟨ls,e2,L⟩,v,rfl⟩;walk_at "";have L':ϔ m.toNat ls:=L;have ll:=L'.len;refine⟨by decide,λlo ZI=>⟨1,m,⟨rfl,rfl⟩,⟨by decide,by decide,by lia,by lia⟩,?_⟩⟩;have ab:=s2.free ZI;have XQ:S≠lo:=λz=>by rw[<-z,e2]at ZI;cases ZI
  refine pW (λi U J=>E9 λ(o:gg)(u:hH)(j:List Row)(v4 v6 v7 v8 v9 C:Option V)=>U=[some (V.ref a),some (V.int c),some (V.int m),some (V.ref S),v4,some (V.ref lo),v6,v7,v8,v9,C]/\δ H J/\J S=some (.lst (ls.map V.int))/\J lo=some (.lst (o.map V.ref))/\ν J o u/\Rows i j/\Put ls j u/\(c/1190%4=1->∀x∈u,x.a=ls.getD 0 0\/x.b=ls.getD 0 0)) ⟨[],[],[],_,_,_,_,_,_,rfl,s2.trans (δ.new _ ZI),δ.new _ ZI _ _ e2,ay,.nil,⟨rfl,λi r h=>by cases h⟩,Put.nil _,λ_ x hx=>by cases hx⟩ ?_ ?_
  .rintro i U J N hN hi ⟨o,u,j,v4,v6,v7,v8,v9,C,rfl,s3,l3,o3,ro3,R,P,hst⟩;have k0:(1:Int)<=1+(i:Int):=(by lia);have k1:1+(i:Int)<m:=(by lia);generalize hk:(1:Int)+(i:Int)=e at k0 k1 ⊢;have dg:o.length=u.length:=Paired.length ro3;have rl:=R.len;have pl:=P.len;refine cL λM1 j1=>?_;walk_at "";refine Υ (s3 _ _ ha) (WC (by lia) (by lia)) ⟨_,rfl,⟨by lia,by lia⟩,j1 _ _ (cL λM2 j2=>?_)⟩;clear j1;generalize G.getD (e+1).toNat 0/(e+1)=w;have hg:=Y w e (by lia);obtain⟨un,O,u0,u1⟩:∃un:Int,ϲ [V.int (e-1),V.int 0,V.int (w%e),V.int (w%e)] (c/1190%4)=some (.int un)/\0<=un/\un<e:=by
    rcases(show c/1190%4=0\/c/1190%4=1\/c/1190%4=2\/c/1190%4=3 by lia)with z|z|z|z
    .exact⟨_,by rw[z];rfl,by lia,by lia⟩
    .exact⟨_,by rw[z];rfl,by lia,by lia⟩
    .exact⟨_,by rw[z];rfl,hg.1,hg.2⟩
    .exact⟨_,by rw[z];rfl,hg.1,hg.2⟩
   walk_at "";refine⟨by lia,by lia,cm (by simp),λq1 a0=>⟨⟨by decide,by decide⟩,by decide,?_⟩⟩;have s4:=δ.new (.lst [.int (e-1),.int 0,.int (w%e),.int (w%e)]) a0;refine Υ ay O (j2 _ _ (cL λM3 j3=>?_));generalize upd J q1 (.lst [.int (e-1),.int 0,.int (w%e),.int (w%e)])=H4 at s4 ⊢;clear j2;walk_at "";refine⟨⟨by lia,by lia⟩,j3 _ _ (cL λM4 j4=>?_)⟩;clear j3;walk_at "";refine⟨_,rfl,λZ t0 t1=>j4 _ _ (cL λM5 j5=>?_)⟩;clear j4;walk_at "";refine⟨⟨by decide,by decide⟩,_,rfl,λB b0 b1=>j5 _ _ (cL λM6 j6=>?_)⟩;clear j5;have gk:ϲ (ls.map V.int) e=some (.int (ls.getD e.toNat 0)):=cT (by lia) (by rw[aA,sx L' (by lia)];rfl);have gu:ϲ (ls.map V.int) un=some (.int (ls.getD un.toNat 0)):=cT u0 (by rw[aA,sx L' (by lia)];rfl);have l4:=s4 _ _ l3;have ae:∀B:Int,2<=B->B<=1000000->M6 [some (V.ref a),some (V.int c),some (V.int m),some (V.ref S),some (V.int e),some (V.ref lo),some (V.int (w/e)),some (V.int un),some (V.int Z),some (V.int B),C] H4:=λB b0 b1=>by
    refine j6 _ _ (cL λM7 j7=>?_);walk_at "";refine⟨⟨by decide,by decide⟩,⟨by decide,by decide⟩,j7 _ _ (cL λM8 j8=>?_)⟩;generalize w/e/7999992/7999992=rest;clear j6 j7;walk_at "";have ai:∀(x y z:Int),2<=x->x<=1000000->2<=y->y<=1000000->Ys ⟨e,un,x,y,z,0⟩:=λx y z a b c d=>⟨u0,u1,a,b,c,d,b9 _,by show(0:Int)<e;lia⟩;have e1:∀x y:Int,lu (mZ ls ⟨e,un,x,y,1,0⟩)=[V.int (ls.getD un.toNat 0),V.int (ls.getD e.toNat 0),V.int x,V.int y]:=λx y=>by unfold mZ;rw[aj rfl];rfl
    have a8:∀x y:Int,lu (mZ ls ⟨e,un,x,y,0,0⟩)=[V.int (ls.getD e.toNat 0),V.int (ls.getD un.toNat 0),V.int x,V.int y]:=λx y=>by unfold mZ;rw[ag (show ¬(0:Int)=1 by decide)];rfl
    refine Υ l4 gu (Υ l4 gk ⟨cm (by simp),λq2 a1=>j8 _ _ (cL λM9 j9=>?_)⟩);have M:=s4.trans (δ.new (.tup [V.int (ls.getD un.toNat 0),V.int (ls.getD e.toNat 0),V.int Z,V.int B]) a1);have l5:=M _ _ l3;have put:∀(W:Hp)(q:Addr)(f:Row),δ J W->f.k=e->f.un=un->Ys f->W q=some (.tup (lu (mZ ls f)))->M9 [some (V.ref a),some (V.int c),some (V.int m),some (V.ref S),some (V.int e),some (V.ref lo),some (V.int rest),some (V.int un),some (V.int Z),some (V.int B),some (V.ref q)] W:=by
     intro W q f s7 rk ru bl hq;refine j9 _ _ ?_;walk_at "";have o7:=s7 _ _ o3;have pe:=Y (rest/2) (((o.map V.ref).length:Int)+1) (by lia);refine⟨Io o7,⟨by decide,by decide⟩,o.map V.ref,.inl (ξ.of o7),by lia,SS o7 pe.1 (by lia) (d4 (by rw[aa];lia)) ?_⟩;generalize (rest/2%(((o.map V.ref).length:Int)+1)).toNat=n;have I:∀{zs:List V}{q:Addr}{r':Road},W q=some (.tup (lu r'))->upd W lo (.lst zs) q=some (.tup (lu r')):=λ{zs q r'} h=>by rw[aR (gU h o7 (by intro z;cases z))];exact h
     refine hN _ _ ⟨o.take n++q::o.drop n,u.take n++mZ ls f::u.drop n,j++[f],_,_,_,_,_,_,rfl,(s3.trans s7).put ab _,by rw[aR XQ];exact s7 _ _ l3,by rw[ay,aw,aq,mK,jU],?_,MX R (by lia) bl,P.step f n,λz x hx=>?_⟩
     rotate_left
     .have ajN:un=0:=by
       rw[z]at O;have:V.int 0=V.int un:=bi O;injection this with this
       exact this.symm
      rcases aY.mp hx with hx|hx
      .exact hst z x (fU hx)
      .rcases ax.mp hx with rfl|hx
       .unfold mZ;rw[ru,ajN];split
        .exact .inl rfl
        .exact .inr rfl
       .exact hst z x (b5 hx)
     exact Uk n (Paired.imp' (λp r h=>I h) (ν.same s7 ro3)) (I hq)
    walk_at "";refine⟨by decide,?_⟩;by_cases y2:rest%2=1
    .rw[aj y2];exact Υ l5 gk (Υ l5 gu ⟨cm (by simp),λq3 a2=>put _ q3 ⟨e,un,B,Z,0,0⟩ (M.trans (δ.new _ a2)) rfl rfl (ai _ _ _ b0 b1 t0 t1) (by rw[ay,a8])⟩)
    .rw[ag y2];exact put _ q2 ⟨e,un,Z,B,1,0⟩ M rfl rfl (ai _ _ _ t0 t1 b0 b1) (by rw[ay,e1])
   walk_at "";refine⟨⟨by decide,by decide⟩,by decide,?_⟩;by_cases y1:c/4760%3=0
   .rw[aj y1];exact ae Z t0 t1
   .rw[ag y1];exact ae B b0 b1
  .rintro U J ⟨o,u,j,v4,v6,v7,v8,v9,C,rfl,s3,l3,o3,ro3,R,P,hst⟩;have g:=Rl (n:=m.toNat) (by lia) (by lia) L' (by rw[show m.toNat-1=(m-1).toNat by lia];exact R) P;rw[br (by lia)]at g;walk_at "";refine⟨cm (by simp),λt nt=>?_⟩;have M:=δ.new (.tup [.int m,.ref lo]) nt;exact k t lo m o u _ (s3.free nt) ab (s3.trans M) ay (M _ _ o3) (ν.same M ro3) g hm λz=>⟨_,hst z⟩
def smR(b:Int)(x:Road):Road:=⟨x.a,x.b,2+x.t%2*b,2+x.u%2*b⟩
theorem Nv{m b:Int}{c:hH}(g:Good m c)(b0:0<=b)(b1:b<=1):Good m (c.map (smR b))/\∀x∈c.map (smR b),x.t<=2+b/\x.u<=2+b:=by
 have e:∀z:Int,0<=z%2*b/\z%2*b<=b:=λz=>by
  have d:=dG z (show(2:Int)≠0 by decide);have h:=cN z (show(0:Int)<2 by decide);refine⟨cX d b0,?_⟩;have:=bu (show z%2<=1 by lia) b0
  lia
 refine⟨⟨g.m1,g.Ο,by rw[aa];exact g.len,λx f=>?_,λS i j=>g.jn S i λy a=>j (smR b y) (aP.mpr ⟨y,a,rfl⟩)⟩,λx f=>?_⟩
 .obtain⟨y,a,rfl⟩:=aP.mp f;have o:=g.ok y a;have d:=e y.t;have h:=e y.u;exact⟨o.a0,o.a1,o.b0,o.b1,o.ne,by show 2<=2+_;lia,by show 2+_<=1000000;lia,by show 2<=2+_;lia,by show 2+_<=1000000;lia⟩
 .obtain⟨y,a,rfl⟩:=aP.mp f;have d:=e y.t;have h:=e y.u;exact⟨by show 2+_<=2+b;lia,by show 2+_<=2+b;lia⟩
theorem FL{H:Hp}{q:Addr}{x:Road}(e:H q=some (.tup (lu x))):∀{b:gg}{a:hH},ν H b a->ν H (b++[q]) (a++[x])
 | _,_,.nil=>.cons e .nil
 | _,_,.cons y ys=>.cons y (FL e ys)
def xo(T:Txt K X):Sp:=λf H Q _=>E3 λ(a:Addr)(n:Int)(c:d2)=>f=[.ref a]/\H a=some (.lst ((n::c).map V.int))/\25<=c.length/\c.length<=999/\∀(t l:Addr)(m:Int)(e:gg)(d:hH)(b:Hp),H t=none->H l=none->δ H b->b t=some (.tup [.int m,.ref l])->b l=some (.lst (e.map V.ref))->ν b e d->Good m d->m<=4->(∀x∈d,x.t<=3/\x.u<=3/\(m=4->x.t<=2/\x.u<=2))->Q (.ref t) b
abbrev qT:Stmt:=top 81
theorem Gu:η ["numbers","head","many","roads","told","one","other","there","back"] ["numbers"] (aK qT):=.of
theorem FB(T:Txt K X)(hq:cg (Ε P w))(wM:Cb P w K X base "_law_web" q8 ["numbers"] 2 (Ad T)):Ok P w K X base "_law_small" qT ["numbers"] 3 (xo T):=λ_ _ D=>by
 refine D.F.Ϙ Gu (by walk_at "v") λΑ A aT s H vs Q E hr h=>?_;obtain⟨a,n,f,rfl,ha,ca,n1,k⟩:=h;refine⟨_,(aD (Δ 1 (bn eT (bn fQ (Ι bL (ε 0) aU) aU) (bn mw (bn fQ (bn gO (Ι bL (ε 0) aU) aU) aU) aU))) (aD (nI (Ν wM hr hq (ah (bn E2 (eD (ah (ε 1) aB)) (E1 Il (ε 0) (Ij aU) IP)) aB)) (kN (n:=2) rfl (cA (ϒ 2) (cA (ϒ 3) iL)))) (aD (Δ 4 (eD aB)) (aD (fm PassesOwn.never rfl (g6 (ε 3)) (kN (n:=4) rfl (cA (ϒ 5) (cA (ϒ 6) (cA (ϒ 7) (cA (ϒ 8) iL))))) (aO (dz (iR PySem.F.plainAttrs_list PySem.F.slot_list_append PySem.F.type_list_append fM (ε 4) (ah (jT (ah (ε 5) (ah (ε 6) (ah (bn eT aU (bn mw (bn fQ (ε 7) aU) (Y8 wu T.int (ah (m8 pY (ε 2) aU (mV _)) aB)))) (ah (bn eT aU (bn mw (bn fQ (ε 8) aU) (Y8 wu T.int (ah (m8 pY (ε 2) aU (mV _)) aB)))) aB))))) aB))))) (aO (bR (jT (ah (ε 2) (ah (ε 4) aB))))))))),?_⟩;walk_at "s";refine cL λN1 Z=>?_;walk_at "";have g0:=WC (xs:=n::f) (i:=0) (by decide) (by rw[aF];lia);refine Υ ha g0 ⟨_,rfl,by decide,Υ ha g0 ⟨_,rfl,⟨by decide,by decide⟩,by decide,.inr ⟨by decide,by decide⟩,Z _ _ (cL λN2 h2=>?_)⟩⟩;have c0:=dG ((n::f).getD (Int.toNat 0) 0) (show(4:Int)≠0 by decide);have c1:=cN ((n::f).getD (Int.toNat 0) 0) (show(0:Int)<4 by decide);generalize (n::f).getD (Int.toNat 0) 0%4=c at c0 c1 ⊢;generalize (n::f).getD (Int.toNat 0) 0/4%12=d;unfold tSl Jx Xb;walk_at "";refine⟨cm (by simp),λp np=>?_⟩;obtain⟨e,a0⟩:∃e,e=c+d*1190:=⟨_,rfl⟩;rw[<-a0];have s1:=δ.new (HO.lst [V.int e]) np;have e1:upd H p (HO.lst [V.int e]) p=some (.lst [V.int e]):=ay;generalize upd H p (HO.lst [V.int e])=H1 at s1 e1 ⊢;refine⟨a,_,rfl,ξ.of (s1 _ _ ha),λl2 n2=>?_⟩;rw[LB _ (by decide)];have s2:=δ.new (HO.lst (((n::f).map V.int).drop (1:Int).toNat)) n2;have S:upd H1 l2 (HO.lst (((n::f).map V.int).drop (1:Int).toNat)) l2=some (.lst (f.map V.int)):=ay;have M:=s2 _ _ e1;generalize upd H1 l2 (HO.lst (((n::f).map V.int).drop (1:Int).toNat))=H2 at s2 S M ⊢;refine VQ M S (cm (by rw[aa];show 1+f.length<=_;lia)) λl3 n3=>?_;have Y1:=(s1.trans s2).trans (δ.new (HO.lst ([V.int e]++f.map V.int)) n3);have e3:upd H2 l3 (HO.lst ([V.int e]++f.map V.int)) l3=some (.lst ((e::f).map V.int)):=ay;generalize upd H2 l3 (HO.lst ([V.int e]++f.map V.int))=H3 at Y1 e3 ⊢;refine⟨l3,e::f,rfl,e3,by rw[aF];lia,by rw[aF];lia,λt l m ps W H4 nt nl s4 et el ro g hm _=>?_⟩;have em:m=1+c:=by
  have hm:(e/7%10=9/\m=8+e/70%17)\/(¬e/7%10=9/\m=1+e%7):=hm
  lia
 have m4:m<=4:=by lia
 have Y2:=Y1.trans s4;refine⟨t,rfl,_,Ξ.of et,rfl,_,_,rfl,_,_,rfl,rfl,h2 _ _ (cL λN3 h3=>?_)⟩;walk_at "";refine⟨by decide,λlt u=>h3 _ _ (cL λN4 h4=>?_)⟩;have J:=Y2.free u;obtain⟨b,Y⟩:∃b:Int,b=if m<4 then 1 else 0:=⟨_,rfl⟩;have b0:0<=b:=by rw[Y];split<;>lia
 have b1:b<=1:=by rw[Y];split<;>lia
 walk_at "";have cl:H4 lt=none:=u;have U:=δ.new (.lst []) u;have C:=U _ _ el;have G:=ν.same U ro;have L:upd H4 lt (HO.lst []) lt=some (.lst []):=ay;have R:=Y2.trans U;generalize upd H4 lt (HO.lst [])=H5 at U C G L R ⊢;have rl:=G.length;have ml:ps.length<=24:=by have:=g.len;lia
 refine⟨⟨_,ξ.of C⟩,?_⟩;refine mG (K:=K) (xs:=ps.map V.ref) (λi σ j=>δ H j/\j l=some (.lst (ps.map V.ref))/\ν j ps W/\E5 λ(I:gg)(v5 v6 v7 v8:Option V)=>j lt=some (.lst (I.map V.ref))/\ν j I ((W.take i).map (smR b))/\σ=[some (V.ref a),some (V.int e),some (V.int m),some (V.ref l),some (V.ref lt),v5,v6,v7,v8]) ⟨R,C,G,[],_,_,_,_,L,.nil,rfl⟩ (λi σ j _ z=>ξ.of z.2.1) ?_ ?_
 .rintro i x σ j N BB ϗ hN6 hi ⟨s6,el6,ro6,I,v5,v6,v7,v8,es6,ro7,rfl⟩;obtain⟨q,x,rfl,e1,S,e3⟩:=ro6.get hi;have et:W.take (i+1)=W.take i++[x]:=by rw[bK,S];rfl
  have ql:I.length<=24:=by
   have Z:=ro7.length;rw[aa,bq]at Z
   lia
  refine ϗ _ _ ?_;walk_at "";refine⟨_,Ξ.of e3,rfl,_,_,rfl,_,_,rfl,_,_,rfl,_,_,rfl,rfl,Io es6,_,rfl,by decide,.inr ?_⟩;rw[<-Y];have cb:∀z:Int,WH (z%2) b:=λz=>.inr ⟨by lia,by lia⟩;refine⟨cb _,_,rfl,by decide,.inr ⟨cb _,cm (by simp),λq2 am=>?_⟩⟩;have o:=δ.new (.tup (lu (smR b x))) am;refine oZ (o _ _ es6) (d4 (by rw[aa];lia)) ?_;have v:∀{q:Addr}{y:Road},upd j q2 (HO.tup (lu (smR b x))) q=some (.tup (lu y))->∀zs,upd (upd j q2 (HO.tup (lu (smR b x)))) lt (.lst zs) q=some (.tup (lu y)):=λ{q y} h zs=>by rw[aR (gU h (o _ _ es6) (by intro z;cases z))];exact h
  have XQ:l≠lt:=λz=>by subst z;rw[u]at el;cases el
  refine hN6 _ _ ⟨(s6.trans o).put J _,by rw[aR XQ];exact o _ _ el6,Paired.imp' (λp r h=>v h _) (ν.same o ro6),I++[q2],_,_,_,_,by rw[ay,aw];rfl,?_,rfl⟩;rw[et,aw];exact FL (v ay _) (Paired.imp' (λp r h=>v h _) (ν.same o ro7))
 .rintro B σ j hB ⟨s6,el6,ro6,I,v5,v6,v7,v8,es6,ro7,rfl⟩;refine hB _ _ (h4 _ _ ?_);walk_at "";refine⟨cm (by simp),λt5 O=>?_⟩;have o:=δ.new (.tup [V.int m,V.ref lt]) O;rw[aa,rl,bx]at ro7;obtain⟨g2,gt⟩:=Nv g b0 b1;refine k t5 lt m I _ _ (s6.free O) J (s6.trans o) ay (o _ _ es6) (ν.same o ro7) g2 m4 λy hy=>?_;have Z:=gt y hy;refine⟨by lia,by lia,λz=>?_⟩;rw[ag (by lia)]at Y;exact⟨by lia,by lia⟩
def wA(T:Txt K X):Sp:=λa H Q _=>∃i:Int,a=[.int i]/\Q (.bl true) H
abbrev m6:Stmt:=top 79
theorem FF:η ["found"] ["found"] (aK m6):=.of
theorem pj:Ϝ (aK m6) "int":=.of (by kernel_rfl)
theorem oH:Ϝ (aK m6) "bool":=.of (by kernel_rfl)
theorem FE(T:Txt K X)(c:cg (Ε P w)):Ok P w K X base "_law_whole" m6 ["found"] 1 (wA T):=λ_ _ D=>by
 refine D.F.Ϙ FF (by walk_at "v") λj A a s H f Q E e h=>?_;obtain⟨i,rfl,k⟩:=h;refine⟨_,(aO (bR (Ah (W4 uq T.isinstance (ah (ε 0) (ah (Co (v:=.ty "int") pj.g T.int Tr rfl (hn:=pj.n) (hd:=pj.d)) aB))) (Ar (Up (W4 uq T.isinstance (ah (ε 0) (ah (Co (v:=.ty "bool") oH.g T.bool Rq rfl (hn:=oH.n) (hd:=oH.d)) aB)))))))),?_⟩;walk_at "s";walk_at "";refine⟨_,_,_,true,rfl,.int i,λb h=>by cases h;rfl,_,rfl,?_⟩;rw[aj rfl];refine⟨_,_,_,false,rfl,.int i,λb h=>by cases h;rfl,_,rfl,?_⟩;exact k
def qh(T:Txt K X):Sp:=λb H Q E=>E7 λ(p t:Addr)(m:Int)(a:gg)(c:hH)(r x:Int)=>b=[.ref p,.int r,.int x]/\χ T.Web H p m t a c/\(0<=r->r<m->1<=x->Q .ω H)/\(¬(0<=r/\r<m)->E (.ref T.NoPlace) none H)/\(0<=r->r<m->x<1->E (.ref T.BadWish) none H)
abbrev ku:Stmt:=top 38
theorem Ba:η ["web","r","wanted"] ["web","r","wanted"] (aK ku):=.of
theorem oF:Ϝ (aK ku) "BadWish":=.of (by kernel_rfl)
theorem AU(T:Txt K X)(o:cg (Ε P w))(i:iv P w base T):Ok P w K X base "check_wanted" ku ["web","r","wanted"] 3 (qh T):=λ_ _ D=>by
 refine D.F.W0 Ba (by walk_at "v") λu A a s H q Q E f h=>?_;obtain⟨p,t,m,j,n,r,x,rfl,W,k,e,l⟩:=h;refine⟨_,(aD (dz (ϡ i f dW (ah (ε 0) (ah (ε 1) aB)))) (aO (eK (Ϻ pY (ε 2) aU) (aO (py T.xJ rfl qL oF.g T.Lj (ah tD aB) (hdb:=oF.d))) dy))),?_⟩;walk_at "s";walk_at "";refine⟨p,t,m,j,n,r,rfl,W,λb c=>?_,e⟩;show if x<1 then _ else _;by_cases z:x<1
 .rw[aj z];exact⟨by decide,l b c z⟩
 .rw[ag z];exact k b c (by lia)
def yG(T:Txt K X):Sp:=λh H Q E=>E10 λ(p b t:Addr)(c:Bool)(m:Int)(i:gg)(f:hH)(d:d2)(r w:Int)=>h=[.ref p,.int r,.int w,.ref b]/\χ T.Web H p m t i f/\Ϫ K c H b (d.map V.int)/\(d.length:Int)=m/\(∀x∈d,x.natAbs<2^4000)/\(w-1).natAbs<2^4000/\(0<=r->r<m->1<=w->∃a e,ζ m f r a e/\∀g,δ H g->Q (.int (gE m f r a d w)) g)/\(¬(0<=r/\r<m)->E (.ref T.NoPlace) none H)/\(0<=r->r<m->w<1->E (.ref T.BadWish) none H)
abbrev pK:Stmt:=top 37
theorem yV:η ["web","r","wanted","weights","bound","place","front"] ["web","r","wanted","weights"] (aK pK):=.of
theorem yx:Zq (aK pK) "bound":=.of (by kernel_rfl)
abbrev oT(P w base)(T:Txt K X):=Cb P w K X base "check_wanted" ku ["web","r","wanted"] 3 (qh T)
theorem GV(T:Txt K X)(hq:cg (Ε P w))(kt:oT P w base T)(jK:jz P w base T)(kD:jm P w base T):Ok P w K X base "bound_by" pK ["web","r","wanted","weights"] 8 (yG T):=λ_ _ D=>by
 refine D.F.W0 yV (by walk_at "v") λΑ A B s H vs Q E C h=>?_;obtain⟨p,b,t,c,m,U,j,xs,r,w,rfl,W,hb,xl,xb,wb,k,e,e'⟩:=h;have g:=W.go;refine⟨_,(aD (dz (ϡ kt C dW (ah (ε 0) (ah (ε 1) (ah (ε 2) aB))))) (aD (Δ 4 (bn pD (Ι (FA c) (ε 3) (ε 1)) (bn iB (ε 2) aU))) (aD (fm PassesOwn.leaving rfl (g6 (ϡ jK C dW (ah (ε 0) (ah (ε 1) aB)))) (kN (n:=2) rfl (cA (ϒ 5) (cA (ϒ 6) iL))) (aO (sW (i:=4) yV.nd rfl (Or.inl yx.l) (bn mw (Ι (FA c) (ε 3) (ε 5)) (bn iB (ϡ kD C dW (ah (ε 0) (ah (ε 5) (ah (ε 6) aB)))) aU)) xz))) (aO (bR (ε 4)))))),?_⟩;walk_at "s";walk_at "";refine⟨p,t,m,U,j,r,w,rfl,W,λy r1 w1=>?_,e,e'⟩;obtain⟨a,M,R,k⟩:=k y r1 w1;have gr:=WC (xs:=xs) y (by lia);have hm:=RR (cs:=xs) (i:=r.toNat) (by lia);refine ixX hb gr ⟨_,rfl,Sx (xb _ hm) wb,?_⟩;refine⟨p,t,m,U,j,r,?_⟩;refine an4 rfl W (λ_ _=>⟨a,M,R,λl2 qs tl H2 _ n2 I Y Z O=>?_⟩) (λz=>absurd ⟨y,r1⟩ z);refine⟨l2,rfl,⟨_,ξ.of Y⟩,?_⟩;have ql:qs.length=tl.reverse.length:=Paired.length Z;refine mG (K:=K) (xs:=qs.map V.ref) (λi o f=>f=H2/\∃(S L:Option V),o=[some (V.ref p),some (V.int r),some (V.int w),some (V.ref b),some (V.int (xs.getD r.toNat 0*(w-1)+((tl.reverse.take i).map (Zt j a xs)).sum)),S,L]) ⟨rfl,_,_,by rw[eY,d7,List.sum_nil,lF]⟩ (λi o f _ z=>by rw[z.1];exact ξ.of Y) ?_ ?_
 .rintro i x o f N BB ϗ hN hx ⟨rfl,S,L,rfl⟩;refine ϗ _ _ ?_;obtain⟨q,v,rfl,hq,hv,eq⟩:=Z.get hx;have J:=dJ.mp (aQ hv);have d:=O.Χ v J;have u:=R.up v d.1 d.2 (O.ne J);obtain⟨kk,G,k0,k1⟩:=nU g R d.1 d.2 (O.ne J);walk_at "";refine⟨_,Ξ.of eq,rfl,_,_,rfl,_,_,rfl,rfl,?_⟩;refine ixX (δ.WX I hb) (WC d.1 (by lia)) ?_;refine⟨p,t,m,U,j,v,a v,rfl,W.same I,λk' _ _ _ _ h=>?_,λz=>absurd ⟨d,u.1⟩ z,λ_ _ _ _ z=>by rw[G]at z;cases z⟩;rw[G]at h;cases h;refine⟨_,rfl,_,rfl,.inr ⟨by lia,by lia⟩,hN _ _ ⟨rfl,some (V.int v),some (V.int (a v)),?_⟩⟩;rw[F8 hv];unfold Zt;rw[G,Int.add_assoc]
  rfl
 .rintro BB o f ϗ ⟨rfl,S,L,rfl⟩;refine ϗ _ _ ?_;rw[aa,ql,bx,d9,List.sum_reverse,O.sums];walk_at "";exact k _ I
def ub(T:Txt K X):Sp:=λf H Q E=>E7 λ(p t:Addr)(m:Int)(e:gg)(d:hH)(r w:Int)=>f=[.ref p,.int r,.int w]/\χ T.Web H p m t e d/\w<=10^60/\-(10^60)<=w/\(0<=r->r<m->1<=w->∃b c,ζ m d r b c/\∀a,δ H a->Q (.int (gE m d r b (dD m d r b c) w+1)) a)/\(¬(0<=r/\r<m)->∀a,δ H a->E (.ref T.NoPlace) none a)/\(0<=r->r<m->w<1->∀a,δ H a->E (.ref T.BadWish) none a)
abbrev qK:Stmt:=top 40
theorem Lz:η ["web","r","wanted"] ["web","r","wanted"] (aK qK):=.of
theorem Mm(T:Txt K X)(L:cg (Ε P w))(y:Cb P w K X base "bound_by" pK ["web","r","wanted","weights"] 8 (yG T))(x:kx P w base T):Ok P w K X base "enough" qK ["web","r","wanted"] 9 (ub T):=λ_ _ D=>by
 refine D.F.W0 Lz (by walk_at "v") λN A f s H M Q E q h=>?_;obtain⟨p,t,m,o,a,r,w,rfl,W,B,G,k,e,J⟩:=h;have g:=W.go;have m1:=g.m1;refine⟨_,(aO (bR (bn eT (ϡ y q dW (ah (ε 0) (ah (ε 1) (ah (ε 2) (ah (ϡ x q dW (ah (ε 0) (ah (ε 1) aB))) aB))))) aU))),?_⟩;walk_at "s";walk_at "";refine⟨p,t,m,o,a,r,rfl,W,λb d=>?_,e⟩;have v:(w-1).natAbs<2^4000:=JH G B;by_cases i:1<=w
 .obtain⟨par,dep,R,k⟩:=k b d i;refine⟨par,dep,R,λl u nl c j=>?_⟩;have n:((dD m a r par dep).length:Int)=m:=by rw[qE];lia
  exact⟨p,l,t,true,m,o,a,dD m a r par dep,r,w,rfl,W.same c,ξ.of j,n,DT g R,v,λ_ _ _=>⟨par,dep,R,λI C=>⟨_,rfl,k I (c.trans C)⟩⟩,λz=>absurd ⟨b,d⟩ z,λ_ _ z=>absurd i (by lia)⟩
 .obtain⟨par,dep,R⟩:=B0 g b d;refine⟨par,dep,R,λl u nl c j=>?_⟩;have n:((dD m a r par dep).length:Int)=m:=by rw[qE];lia
  exact⟨p,l,t,true,m,o,a,dD m a r par dep,r,w,rfl,W.same c,ξ.of j,n,DT g R,v,λ_ _ z=>absurd z i,λz=>absurd ⟨b,d⟩ z,λ_ _ z=>J b d z u c⟩
def fT(m:Int)(a:d2):Bool:=decide ((a.length:Int)=m)&&a.all λx=>decide (0<=x)
theorem DH{m:Int}{a:d2}(h:(a.length:Int)=m)(c:∀x∈a,0<=x):fT m a=true:=by
 unfold fT;rw[bh h,iZ,dQ];exact λx b=>bh (c x b)
theorem VH{m:Int}{a:d2}(h:fT m a=true):(a.length:Int)=m:=by
 unfold fT at h;rw[ce]at h;exact bN h.1
theorem ML{m:Int}{a:d2}(h:fT m a=true):∀x∈a,0<=x:=by
 unfold fT at h;rw[ce,dQ]at h;exact λx b=>bN (h.2 x b)
def xA(T:Txt K X):Sp:=λf H Q _=>E8 λ(p a t:Addr)(c:Bool)(m:Int)(e:gg)(g:hH)(b:d2)=>f=[.ref p,.ref a]/\χ T.Web H p m t e g/\Ϫ K c H a (b.map V.int)/\b.length<=1000/\∀d,δ H d->Q (.bl (fT m b)) d
abbrev qQ:Stmt:=top 25
theorem Ft:η ["web","numbers"] ["web","numbers"] (aK qQ):=.of
theorem F3(T:Txt K X)(u:cg (Ε P w)):Ok P w K X base "is_filled" qQ ["web","numbers"] 1 (xA T):=λ_ _ D=>by
 refine D.F.Ϙ Ft (by walk_at "v") λL A n s H C Q E B h=>?_;obtain⟨p,a,t,c,m,I,J,xs,rfl,W,g,G,k⟩:=h;refine⟨_,(aO (bR (Ah (m8 jX (W4 kG T.len (ah (ε 1) aB)) (dB (ε 0) rfl) (mV _)) (Ar (W4 (Ga rfl) T.all (ah (gW rfl (tj (Nc:=["number"]) 1 (by decide +kernel) (by decide +kernel) rfl (by decide +kernel) rfl) (LV c (ε 1)) (λ_ _ _ _=>(fj (i:=0) (show(["number"]:gy).Nodup from by decide +kernel) rfl (Or.inl rfl))) (λ_ _ _ _=>jh) (λ_ _ _ _=>(m8 Vx (pv 0) aU (mV _)))) aB)))))),?_⟩;walk_at "s";walk_at "";obtain⟨r,ob⟩:=W.ob;have o:ξ K H a (xs.map V.int)\/Ξ K H a (xs.map V.int):=by
  cases c
  .exact .inr g
  .exact .inl g
 refine⟨_,o,T.Web,r,_,ob,T.lI,T.ϕ,_,jY m t,rfl,?_⟩;rw[aa];by_cases f:(xs.length:Int)=m
 .rw[aj (by rw[f])];refine⟨⟨_,g⟩,λl nl=>?_⟩;refine lO (K:=K) (c:=c) (xs:=xs.map V.int) (λi b j d=>δ H d/\d l=some (.lst b)/\b=((xs.take i).map λx=>decide (0<=x)).map V.bl/\∃v,j=[v]) ⟨δ.new _ nl,ay,rfl,_,rfl⟩ (λi b j d _ z=>δ.WX z.1 g) ?_ ?_
  .rintro i x b j d N hN hx ⟨s2,e2,rfl,v,rfl⟩;rw[aA]at hx;obtain⟨y,q,rfl⟩:=eI.mp hx;walk_at "";refine⟨e2,d4 (by rw[aa,aa,bq];lia),hN _ _ _ ⟨s2.put nl _,ay,?_,_,rfl⟩⟩;rw[bK,q,aw,aw]
   rfl
  .rintro b j d ⟨s2,e2,rfl,v,rfl⟩;refine⟨l,rfl,_,ξ.of e2,?_⟩;have e:(((xs.take (xs.map V.int).length).map λx=>decide (0<=x)).all id)=fT m xs:=by
    rw[aa,bx,List.all_map];unfold fT;rw[bh f,iZ]
    rfl
   rw[e];exact k _ s2
 .rw[ag (λz=>f (by injection z))];have e:fT m xs=false:=by
   unfold fT;rw[bA f,iY]
  rw[e]at k;exact k H (δ.refl _)
def tI(T:Txt K X):Sp:=λf H Q E=>E8 λ(p a t:Addr)(c:Bool)(m:Int)(e:gg)(g:hH)(d:d2)=>f=[.ref p,.ref a]/\χ T.Web H p m t e g/\Ϫ K c H a (d.map V.int)/\d.length<=1000/\(fT m d=true->∀l b,δ H b->(b l=some (.tup (d.map V.int))\/(c=false/\l=a))->Ξ K b l (d.map V.int)->Q (.ref l) b)/\(fT m d=false->∀b,δ H b->E (.ref T.BadLaying) none b)
abbrev nc:Stmt:=top 24
theorem Fc:η ["web","numbers"] ["web","numbers"] (aK nc):=.of
theorem oQ:Ϝ (aK nc) "BadLaying":=.of (by kernel_rfl)
theorem EY(T:Txt K X)(y:cg (Ε P w))(v:Cb P w K X base "is_filled" qQ ["web","numbers"] 1 (xA T)):Ok P w K X base "laying_of" nc ["web","numbers"] 2 (tI T):=λ_ _ D=>by
 refine D.F.W0 Fc (by walk_at "v") λC A j s H B Q E q h=>?_;obtain⟨p,a,t,c,m,u,x,i,rfl,W,f,r,k,e⟩:=h;refine⟨_,(aD (eK (kK (mq (ϡ v q dW (ah (ε 0) (ah (ε 1) aB))))) (aO (py T.uu rfl qL oQ.g T.G3 (ah tD aB) (hdb:=oQ.d))) dy) (aO (bR (Y8 oU T.tuple (ah (ε 1) aB))))),?_⟩;walk_at "s";walk_at "";refine⟨p,a,t,c,m,u,x,i,rfl,W,f,r,λn b=>⟨_,rfl,?_⟩⟩;by_cases z:fT m i=false
 .rw[aj z];exact⟨by decide,e z n b⟩
 .rw[ag z];have o:fT m i=true:=by simpa using z
  cases c
  .exact⟨_,.inr ⟨δ.WX (c:=false) b f,k o a n b (.inr ⟨rfl,rfl⟩) (δ.WX (c:=false) b f)⟩⟩
  .exact⟨_,.inl ⟨δ.WX (c:=true) b f,λl nl=>k o l _ (b.trans (δ.new _ nl)) (.inl ay) (Ξ.of ay)⟩⟩
def ud(T:Txt K X):Sp:=λh H Q E=>E9 λ(p a t:Addr)(c:Bool)(m:Int)(i:gg)(g:hH)(e:d2)(r:Int)=>h=[.ref p,.ref a,.int r]/\χ T.Web H p m t i g/\Ϫ K c H a (e.map V.int)/\e.length<=1000/\(fT m e=true->0<=r->r<m->∃d f,ζ m g r d f/\∀l b,H l=none->δ H b->b l=some (.lst ((qF m g r d f (λv=>e.getD v.toNat 0) (Η g d)).map V.int))->Q (.ref l) b)/\(fT m e=false->∀b,δ H b->E (.ref T.BadLaying) none b)/\(fT m e=true->¬(0<=r/\r<m)->∀b,δ H b->E (.ref T.NoPlace) none b)
abbrev pP:Stmt:=top 33
theorem GU:η ["web","laying","r","counts","place","front"] ["web","laying","r"] (aK pP):=.of
theorem HV(T:Txt K X)(hq:cg (Ε P w))(jK:jz P w base T)(m7:Cb P w K X base "laying_of" nc ["web","numbers"] 2 (tI T))(kD:jm P w base T):Ok P w K X base "gathered" pP ["web","laying","r"] 8 (ud T):=λ_ _ D=>by
 refine D.F.W0 GU (by walk_at "v") λΑ A ac s H vs Q E Y h=>?_;obtain⟨p,a,t,c,m,ps,o,xs,r,rfl,W,ha,hz,k,e,e'⟩:=h;have g:=W.go;have Ο:=g.Ο;refine⟨_,(aD (Δ 3 (Y8 me T.list (ah (ϡ m7 Y dW (ah (ε 0) (ah (ε 1) aB))) aB))) (aD (fm PassesOwn.leaving rfl (g6 (ϡ jK Y dW (ah (ε 0) (ah (ε 2) aB)))) (kN (n:=2) rfl (cA (ϒ 4) (cA (ϒ 5) iL))) (aO (Se (ε 3) (ε 5) P9 (bn gO (Ι bL (ε 3) (ε 4)) (ϡ kD Y dW (ah (ε 0) (ah (ε 4) (ah (ε 5) aB))))) xz mO))) (aO (bR (ε 3))))),?_⟩;walk_at "s";walk_at "";refine⟨p,a,t,c,m,ps,o,xs,?_⟩;refine an6 rfl W ha hz (λfi l0 H0 s0 _ e0=>?_) e;have xl:(xs.length:Int)=m:=by
  unfold fT at fi;rw[ce]at fi;exact bN fi.1
 refine⟨l0,rfl,_,.inr e0,λl n1=>?_⟩;have s1:=δ.new (.lst (xs.map V.int)) n1;have f:=s0.trans s1;have nl:=s0.free n1;have L:upd H0 l (.lst (xs.map V.int)) l=some (.lst (xs.map V.int)):=ay;generalize upd H0 l (.lst (xs.map V.int))=H1 at s1 f L ⊢;refine⟨p,t,m,ps,o,r,?_⟩;refine an4 rfl (W.same f) (λr0 r1=>?_) (λz=>e' fi z H1 f);obtain⟨d,B,R,k⟩:=k fi r0 r1;refine⟨d,B,R,λU I G H2 _ n2 s2 e2 pa O=>?_⟩;have XQ:U≠l:=λz=>by rw[z,L]at n2;cases n2
 refine⟨U,rfl,⟨_,ξ.of e2⟩,?_⟩;have ql:I.length=G.reverse.length:=Paired.length pa;refine mG (K:=K) (xs:=I.map V.ref) (λi J j=>δ H j/\j U=some (.lst (I.map V.ref))/\Ζ j d I G.reverse/\E3 λ(C:d2)(Z v5:Option V)=>j l=some (.lst (C.map V.int))/\ϙ m o r d B (λv=>xs.getD v.toNat 0) (Η o d) (G.drop (G.length-i)) C/\J=[some (V.ref p),some (V.ref a),some (V.int r),some (V.ref l),Z,v5]) ⟨f.trans s2,e2,pa,xs,_,_,s2 _ _ L,by rw[gZ,f9];exact ϙ.nil xl,rfl⟩ (λi J j _ z=>ξ.of z.2.1) ?_ ?_
 .rintro i x J j N BB ϗ hN hx ⟨s3,e3,Za,C,Z,v5,c3,so,rfl⟩;refine ϗ _ _ ?_;obtain⟨q,v,rfl,hq,hv,eq⟩:=Za.get hx;obtain⟨⟨y,vn⟩,ev,M⟩:=O.turn g R so hv;have u:=R.up v y.1 y.2 vn;obtain⟨kk,S,k0,k1⟩:=nU g R y.1 y.2 vn;have cl:=so.len;walk_at "";refine⟨_,Ξ.of eq,rfl,_,_,rfl,_,_,rfl,rfl,?_⟩;refine Υ c3 (WC u.1.1 (by lia)) (Υ c3 (WC y.1 (by lia)) ?_);refine⟨p,t,m,ps,o,v,d v,rfl,W.same s3,λk' _ _ _ _ h=>?_,λz=>absurd ⟨y,u.1⟩ z,λ_ _ _ _ z=>by rw[S]at z;cases z⟩;rw[S]at h;cases h;refine⟨_,rfl,_,rfl,⟨by lia,by lia⟩,_,rfl,wC c3 u.1.1 (by rw[aa];lia) (hN _ _ ⟨s3.put nl _,?_,?_,tK d (Η o d) C v,_,_,?_,M,rfl⟩)⟩
  .rw[aR XQ];exact e3
  .exact Paired.imp' (λa b h=>by rw[aR (gU h c3 (by intro z;cases z))];exact h) Za
  .rw[ay,<-gX];unfold tK Η;rw[S]
   rfl
 .rintro BB J j ϗ ⟨s3,e3,Za,C,Z,v5,c3,so,rfl⟩;refine ϗ _ _ ?_;rw[aa,ql,bc,d8,jW]at so;rw[O.done g R so]at c3;walk_at "";exact k l j nl s3 c3
def Ja(T:Txt K X):Sp:=λi H Q E=>E9 λ(p a t:Addr)(c:Bool)(m:Int)(h:gg)(g:hH)(e:d2)(r:Int)=>i=[.ref p,.ref a,.int r]/\χ T.Web H p m t h g/\Ϫ K c H a (e.map V.int)/\e.length<=1000/\(fT m e=true->0<=r->r<m->∃d f,ζ m g r d f/\∀b,δ H b->Q (.int (Φ m g r d f (λv=>e.getD v.toNat 0) (Η g d) r)) b)/\(fT m e=false->∀b,δ H b->E (.ref T.BadLaying) none b)/\(fT m e=true->¬(0<=r/\r<m)->∀b,δ H b->E (.ref T.NoPlace) none b)
abbrev BH:Stmt:=top 34
theorem RG:η ["web","laying","r"] ["web","laying","r"] (aK BH):=.of
abbrev p5(P w base)(T:Txt K X):=Cb P w K X base "gathered" pP ["web","laying","r"] 8 (ud T)
theorem RQ(T:Txt K X)(G:cg (Ε P w))(C:p5 P w base T):Ok P w K X base "most" BH ["web","laying","r"] 9 (Ja T):=λ_ _ D=>by
 refine D.F.W0 RG (by walk_at "v") λL A d s H J Q E n h=>?_;obtain⟨p,a,t,c,m,x,z,j,r,rfl,W,B,v,k,e,y⟩:=h;refine⟨_,(aO (bR (mM bL (ϡ C n dW (ah (ε 0) (ah (ε 1) (ah (ε 2) aB)))) (ε 2) (λ_ _=>rfl)))),?_⟩;walk_at "s";walk_at "";refine⟨p,a,t,c,m,x,z,j,r,?_⟩;refine an7 rfl W B v (λfi b i=>?_) e y;obtain⟨f,g,R,k⟩:=k fi b i;refine⟨f,g,R,λl o I u q=>?_⟩;refine Υ q (WC b ?_) ?_
 .unfold qF;rw[aa,b7];lia
 .rw[qC b i];exact k o u
def zD(T:Txt K X):Sp:=λb H Q _=>∃(p:Addr)(a:d2),b=[.ref p]/\(ξ K H p (a.map V.int)\/Ξ K H p (a.map V.int))/\Q (.int a.sum) H
abbrev xS:Stmt:=top 26
theorem Ot:η ["numbers"] ["numbers"] (aK xS):=.of
theorem QH(T:Txt K X)(d:cg (Ε P w)):Ok P w K X base "total" xS ["numbers"] 1 (zD T):=λ_ _ D=>by
 refine D.F.Ϙ Ot (by walk_at "v") λg A a s H f Q E e h=>?_;obtain⟨p,b,rfl,c,k⟩:=h;refine⟨_,(aO (bR (W4 (vK rfl) T.sum (ah (ε 0) aB)))),?_⟩;walk_at "s";walk_at "";exact⟨b,c,k⟩
def uz(T:Txt K X):Sp:=λh H Q E=>E10 λ(p a t:Addr)(c:Bool)(m:Int)(i:gg)(g:hH)(f:d2)(r w:Int)=>h=[.ref p,.int r,.int w,.ref a]/\χ T.Web H p m t i g/\Ϫ K c H a (f.map V.int)/\f.length<=1000/\w<=10^60/\-(10^60)<=w/\(0<=r->r<m->1<=w->∃d e,ζ m g r d e/\(fT m f=true->∀b,δ H b->Q (.bl (decide (f.sum=gE m g r d (dD m g r d e) w)&&decide (Φ m g r d e (λv=>f.getD v.toNat 0) (Η g d) r<w))) b)/\(fT m f=false->∀b,δ H b->E (.ref T.BadLaying) none b))/\(¬(0<=r/\r<m)->∀b,δ H b->E (.ref T.NoPlace) none b)/\(0<=r->r<m->w<1->∀b,δ H b->E (.ref T.BadWish) none b)
abbrev pM:Stmt:=top 51
theorem HR:η ["web","r","wanted","laying","least","counts"] ["web","r","wanted","laying"] (aK pM):=.of
abbrev p6(P w base)(T:Txt K X):=Cb P w K X base "enough" qK ["web","r","wanted"] 9 (ub T)
theorem GW(T:Txt K X)(hq:cg (Ε P w))(Y:p6 P w base T)(U:Cb P w K X base "laying_of" nc ["web","numbers"] 2 (tI T))(S:Cb P w K X base "most" BH ["web","laying","r"] 9 (Ja T))(G:Cb P w K X base "total" xS ["numbers"] 1 (zD T)):Ok P w K X base "is_worst" pM ["web","r","wanted","laying"] 10 (uz T):=λ_ _ D=>by
 refine D.F.W0 HR (by walk_at "v") λΑ A o s H vs Q E n h=>?_;obtain⟨p,a,t,c,m,q,i,j,r,w,rfl,W,Z,B,J,O,I,e,V⟩:=h;refine⟨_,(aD (Δ 4 (ϡ Y n dW (ah (ε 0) (ah (ε 1) (ah (ε 2) aB))))) (aD (Δ 5 (ϡ U n dW (ah (ε 0) (ah (ε 3) aB)))) (aO (bR (Ah (m8 jX (ϡ G n dW (ah (ε 5) aB)) (bn iB (ε 4) aU) (mV _)) (Ar (m8 pY (ϡ S n dW (ah (ε 0) (ah (ε 5) (ah (ε 1) aB)))) (ε 2) (mV _)))))))),?_⟩;walk_at "s";walk_at "";refine⟨p,t,m,q,i,r,w,rfl,W,J,O,λv y M=>?_,e,V⟩;obtain⟨b,d,R,k,L⟩:=I v y M;refine⟨b,d,R,λH1 f=>⟨p,a,t,c,m,q,i,j,rfl,W.same f,δ.WX f Z,B,λfi l C g _ x=>?_,λz C g=>L z C (f.trans g)⟩⟩;have k:=k fi;show zD T _ _ _ _;refine⟨l,j,rfl,.inr x,_,rfl,rfl,?_⟩;rw[Int.add_sub_cancel];by_cases u:j.sum=gE m i r b (dD m i r b d) w
 .rw[aj (by rw[u])];refine⟨p,l,t,false,m,q,i,j,r,rfl,W.same (f.trans g),x,B,λ_ _ _=>⟨b,d,R,λH3 N=>⟨_,rfl,?_⟩⟩,(λz=>by rw[fi]at z;cases z),λ_ z=>absurd ⟨v,y⟩ z⟩;have:=k _ (f.trans (g.trans N));rw[bh u,iZ]at this;exact this
 .rw[ag (by intro z;injection z;contradiction)];have:=k _ (f.trans g);rw[bA u,iY]at this;exact this
def rN(T:Txt K X):Sp:=λf H Q E=>E7 λ(p t:Addr)(m:Int)(e:gg)(d:hH)(r w:Int)=>f=[.ref p,.int r,.int w]/\χ T.Web H p m t e d/\w<=10^60/\-(10^60)<=w/\(0<=r->r<m->1<=w->∃a c,ζ m d r a c/\(gE m d r a (dD m d r a c) w+1<=1000000000000->∀b,δ H b->Q .ω b)/\(1000000000000<gE m d r a (dD m d r a c) w+1->∀b,δ H b->E (.ref T.TooMany) none b))/\(¬(0<=r/\r<m)->∀b,δ H b->E (.ref T.NoPlace) none b)/\(0<=r->r<m->w<1->∀b,δ H b->E (.ref T.BadWish) none b)
abbrev kI:Stmt:=top 55
theorem D6:η ["web","r","wanted"] ["web","r","wanted"] (aK kI):=.of
theorem mY:Ϝ (aK kI) "MOST_PEBBLES":=.of (by kernel_rfl)
theorem pE:Ϝ (aK kI) "TooMany":=.of (by kernel_rfl)
theorem EB(T:Txt K X)(I:cg (Ε P w))(G:p6 P w base T):Ok P w K X base "check_told" kI ["web","r","wanted"] 10 (rN T):=λ_ _ D=>by
 refine D.F.W0 D6 (by walk_at "v") λL A f s H J Q E q h=>?_;obtain⟨p,t,m,B,i,r,w,rfl,W,u,y,k,e,C⟩:=h;refine⟨_,(aO (eK (Ct Q8 (ϡ G q dW (ah (ε 0) (ah (ε 1) (ah (ε 2) aB)))) (vB mY.g T.Ww (hd:=mY.d)) (mV _)) (aO (py T.wE rfl qL pE.g T.LK (ah tD aB) (hdb:=pE.d))) dy)),?_⟩;walk_at "s";walk_at "";refine⟨p,t,m,B,i,r,w,rfl,W,u,y,λn z v=>?_,e,C⟩;obtain⟨a,b,R,o,x⟩:=k n z v;refine⟨a,b,R,λj l=>?_⟩;refine⟨_,rfl,?_⟩;by_cases c:1000000000000<gE m i r a (dD m i r a b) w+1
 .rw[aj c];exact⟨cm (by simp),x c j l⟩
 .rw[ag c];exact o (by lia) j l
structure Yk(C O:Addr)(H:Hp)(o w tw lk ϻ lr lp ld Wc Wd:Addr)(m:Int)(ps:gg)(rs:hH)(v k:Int)(c at_:Nat)(cs csk:d2)(fr be:Bool):Prop where
 ob:∃dx fs,H o=some (.ins O dx fs)/\fs.lookup ("web":Str)=some (.ref w)/\fs.lookup ("kids":Str)=some (.ref lk)/\fs.lookup ("rests":Str)=some (.ref lr)
 web:χ C H w m tw ps rs
 v0:0<=v/\v<m
 k0:0<=k/\k<m
 ki:∃(kv:List V)(ks:d2),H lk=some (.lst kv)/\kv[v.toNat]?=some (.ref ϻ)/\H ϻ=some (.lst (ks.map V.int))/\ks[at_]?=some k
 re:E3 λ(rv lv pv:List V)=>H lr=some (.lst rv)/\rv[v.toNat]?=some (.ref lp)/\H lp=some (.lst lv)/\lv[at_+1]?=some (.ref ld)/\rv[k.toNat]?=some (.ref Wc)/\H Wc=some (.lst (.ref Wd::pv))
 ed:H ld=some (.lst (cs.map V.int))
 ek:H Wd=some (.lst (csk.map V.int))
 cl:cs.length<=24/\csk.length<=24
 cb:(∀c∈cs,c.natAbs<=2^15000)/\∀c∈csk,c.natAbs<=2^15000
 tl:cP rs k v=some (c:Int)
 c2:2<=c/\c<=1000000
 fb:E7 λ(dx:Addr)(fs:List (Str×V))(lw lb:Addr)(xs:d2)(cv:List V)(ob:Option Int)=>H o=some (.ins O dx fs)/\fs.lookup ("web":Str)=some (.ref w)/\fs.lookup ("weights":Str)=some (.ref lw)/\fs.lookup ("bearers":Str)=some (.ref lb)/\H lw=some (.lst (xs.map V.int))/\(xs.length:Int)=m/\H lb=some (.lst cv)/\cv[v.toNat]?=some (YT ob)/\fr=(decide (xs.getD k.toNat 0*(c:Int)=xs.getD v.toNat 0)&&decide (ob≠some k))/\be=decide (ob=some k)
theorem Yk.same{C O:Addr}{H r:Hp}{o w n g b f p ld d q:Addr}{m:Int}{s:gg}{t:hH}{v k:Int}{c at_:Nat}{l a:d2}{j i:Bool}(e:δ H r)(h:Yk C O H o w n g b f p ld d q m s t v k c at_ l a j i):Yk C O r o w n g b f p ld d q m s t v k c at_ l a j i where
 ob:=let ⟨dx,fs,h1,h2⟩:=h.ob;⟨dx,fs,e _ _ h1,h2⟩
 web:=h.web.same e
 v0:=h.v0
 k0:=h.k0
 ki:=let ⟨kv,ks,h1,h2,h3,h4⟩:=h.ki;⟨kv,ks,e _ _ h1,h2,e _ _ h3,h4⟩
 re:=let ⟨rv,lv,pv,h1,h2,h3,h4,h5,h6⟩:=h.re;⟨rv,lv,pv,e _ _ h1,h2,e _ _ h3,h4,h5,e _ _ h6⟩
 ed:=e _ _ h.ed
 ek:=e _ _ h.ek
 cl:=h.cl
 cb:=h.cb
 tl:=h.tl
 c2:=h.c2
 fb:=let ⟨dx,fs,lw,lb,xs,cv,ob,h1,h2,h3,h4,h5,h6,h7,h8⟩:=h.fb;⟨dx,fs,lw,lb,xs,cv,ob,e _ _ h1,h2,h3,h4,e _ _ h5,h6,e _ _ h7,h8⟩
theorem IM:∀(a:d2)(i:Nat),i<=a.length->(YW a)[i]?=some (a.drop i)
 | [],0,_=>rfl
 | [],_+1,h=>by cases h
 | _::_,0,_=>rfl
 | _::a,i+1,h=>IM a i (Nat.le_of_succ_le_succ h)
theorem Qn{d:fz}{a:d2}(h:(a.map λk=>d k+1).sum<=23)(i:Nat):Xk d (a.drop i)<=15000:=tE (by
 have e:(a.map λk=>d k+1).sum=((a.take i).map λk=>d k+1).sum+((a.drop i).map λk=>d k+1).sum:=by rw[<-c9,<-aw,b8]
 lia)
theorem ϖ.co{C O:Addr}{H:Hp}{o p t:Addr}{m:Int}{Q:gg}{d:hH}{r:Int}{a:d3}{b:fz}{j:d2}{ld S J I G:Addr}{kl:gg}{rv:List V}(h:ϖ C O H o p t m Q d r a b j ld S J I G kl rv (λv=>0<=v/\v<m)){v k:Int}{i:Nat}(f:0<=v/\v<m)(hk:(kd m d r a v)[i]?=some k):E7 λ(u B y x D:Addr)(s l:d2)=>Yk C O H o p t I u G B y x D m Q d v k (cK d a k) i s l (ϝ m d r a b j k) (Ϩ m d r a b j k)/\Ϗ 15000 s (ς (ϝ m d r a b j) (Ϩ m d r a b j) (λk g=>iD m d r a b j k (τ (cK d a k) g)) ((kd m d r a v).drop (i+1)))/\Ϗ 15000 l (iD m d r a b j k):=by
 have g:=h.web.go;have R:=h.rt;have il:i<(kd m d r a v).length:=(az.mp hk).1;have w:=(bw g R f.1 f.2).mp (aQ hk);have F:((cK d a k:Nat):Int)=tup d a k:=br (by have:=(fV g R w.1.1 w.1.2 w.2.1).1;lia);obtain⟨k',N,t2,t6⟩:=nU g R w.1.1 w.1.2 w.2.1;have ek:((cK d a k:Nat):Int)=k':=by
  rw[F];unfold tup;rw[N]
  rfl
 obtain⟨M,ob⟩:=h.ob;have A:(b6 m.toNat)[v.toNat]?=some v:=by rw[fN (by lia),br f.1]
 obtain⟨u,T,Wh⟩:=tf h.kp A;obtain⟨_,B,ϱ,h1,h2,h3,Z⟩:=h.ϛ v f;obtain⟨y,E,s,c1,c2⟩:=tf Z (IM (kd m d r a v) (i+1) il);obtain⟨_,x,am,W,g2,g3,L⟩:=h.ϛ k w.1;obtain⟨sr,Y⟩:=vI (kd m d r a k);rw[Y]at L;have XR:=jF (fr:=ϝ m d r a b j) (be:=Ϩ m d r a b j) (c:=cK d a) g R w.1.1 w.1.2;cases L with
 | @cons D _ ldr _ e he=>
   obtain⟨l,d1,U⟩:=e;have z:=c2.le (b':=15000) (Qn (by have:=gc g R f.1 f.2;have:=md g R f.1 f.2;have:=g.Ο;lia) _);have q:=U.le (b':=15000) (tE (by have:=gc g R w.1.1 w.1.2;have:=md g R w.1.1 w.1.2;have:=g.Ο;lia));refine⟨u,B,y,x,D,s,l,⟨⟨M,_,ob,pJ _ _ _ _ _ _,pT _ _ _ _ _ _,oM _ _ _ _ _ _⟩,h.web,f,w.1,⟨_,_,h.hk,by rw[aA,T];rfl,Wh,hk⟩,⟨_,_,_,h.hr,h1,h3,by rw[aA,E];rfl,W,g3⟩,c1,d1,⟨z.len,q.len⟩,⟨z.bt,q.bt⟩,by rw[ek,<-w.2.2];exact N,by lia,?_⟩,z,⟨q.ne,q.len,q.bt,λn=>(q.val n).trans ?_⟩⟩
   .refine⟨M,_,S,J,dD m d r a b,_,bV m d r a b j v,ob,pJ _ _ _ _ _ _,wa _ _ _ _ _ _,wd _ _ _ _ _ _,h.hw,?_,h.hb,(LQ f.1).symm.trans (Jk f.1 f.2),?_,?_⟩
    .have:(dD m d r a b).length=m.toNat:=qE
     lia
    .unfold ϝ;rw[F,w.2.2,show(dD m d r a b).getD k.toNat 0=ο m d r a b k from gN w.1.1 w.1.2,show(dD m d r a b).getD v.toNat 0=ο m d r a b v from gN f.1 f.2]
    .unfold Ϩ;rw[w.2.2]
   .show _=wy m d r a b (ϝ m d r a b j) (Ϩ m d r a b j) (cK d a) k n;rw[XR]
    rfl
def xt(T:Txt K X):Sp:=λp H Q _=>E22 λ(o w q i f h r ld g s:Addr)(m:Int)(t:gg)(u:hH)(v k z:Int)(c a:Nat)(e b:d2)(n j:Bool)=>p=[.ref o,.int v,.int a,.int z]/\Yk T.Web T.Tally H o w q i f h r ld g s m t u v k c a e b n j/\a<=24/\-70<=z/\z+1<=2^64/\∀l d,H l=none->δ H d->d l=some (.lst ((ϩ (ϰ m.toNat (Ϲ e b c z))).map V.int))->Q (.ref l) d
abbrev qr:Stmt:=top 67
theorem LI:η ["tally","place","at","left","kid","before","given","ways_behind"] ["tally","place","at","left"] (aK qr):=.of
theorem Bc:Ϝ (aK qr) "range":=.of (by kernel_rfl)
theorem MY(T:Txt K X)(L:cg (Ε P w))(jL:Cb P w K X base "differences" jQ ["values"] 1 (qB T))(dA:ky P w base T)(iH:nT P w base T):Ok P w K X base "course" qr ["tally","place","at","left"] 6 (xt T):=λ_ _ D=>by
 refine D.F.Ϙ LI (by walk_at "v") λΑ A ac s H vs Q E S h=>?_;obtain⟨o,w,tw,lk,ϻ,lr,lp,ld,Wc,Wd,m,ps,rs,v,k,z,c,b,f,a,fr,be,rfl,C,a3,z0,z1,q⟩:=h;have g:=C.web.go;have m1:=g.m1;have Ο:=g.Ο;refine⟨_,(aD (Δ 4 (Ι bL (mM bL (dB (ε 0) rfl) (ε 1) (λ_ _=>rfl)) (ε 2))) (aD (Δ 5 (eD (ah aU aB))) (aD (fm PassesOwn.never rfl (iP Bc.g T.range (ah (bn iB (dB (dB (ε 0) rfl) rfl) aU) aB)) (ϒ 6) (aD (Δ 7 (Ν dA S L (ah (Ι bL (mM bL (dB (ε 0) rfl) (ε 1) (λ_ _=>rfl)) (bn eT (ε 2) aU)) (ah (bn iB (ε 3) (ε 6)) aB)))) (aO (dz (iR PySem.F.plainAttrs_list PySem.F.slot_list_append PySem.F.type_list_append fM (ε 5) (ah (bn eT (Ι bL (ε 5) (Bl xc aU)) (bn pD (Ν iH S L (ah (ε 0) (ah (ε 1) (ah (ε 4) (ah (ε 6) aB))))) (ε 7))) aB)))))) (aO (bR (Ν jL S L (ah (ε 5) aB))))))),?_⟩;walk_at "s";refine cL λN1 h1=>?_;walk_at "";obtain⟨I,G,B,fw,fk,fr⟩:=C.ob;obtain⟨kv,ks,ad,Y,ai,ae⟩:=C.ki;have gk:ϲ (ks.map V.int) (b:Int)=some (V.int k):=cT (by lia) (by rw[bJ,aA,ae];rfl);refine⟨T.Tally,I,G,B,T.cW,T.rz,_,fk,Υ ad (cT C.v0.1 Y) (Υ ai gk (h1 _ _ (cL λN2 h2=>?_)))⟩;walk_at "";refine⟨cm (by simp),λp u=>h2 _ _ (cL λN3 h3=>?_)⟩;have x:=δ.new (HO.lst [V.int 0]) u;have e1:upd H p (HO.lst [V.int 0]) p=some (.lst ((ϰ 1 (Ϲ f a c z)).map V.int)):=ay;generalize upd H p (HO.lst [V.int 0])=H1 at x e1 ⊢;walk_at "";obtain⟨dw,wb⟩:=C.web.ob;refine⟨T.Tally,I,G,x _ _ B,T.cW,T.RW,_,fw,w,rfl,T.Web,dw,_,x _ _ wb,T.lI,T.ϕ,_,jY _ _,?_⟩;refine⟨m,rfl,by lia,by lia,?_⟩;refine vO (lo:=0) (n:=(m-1).toNat) (λi Z y=>δ H y/\y p=some (.lst ((ϰ (i+1) (Ϲ f a c z)).map V.int))/\∃v6 R,Z=[some (V.ref o),some (V.int v),some (V.int b),some (V.int z),some (V.int k),some (V.ref p),v6,R]) ⟨x,e1,_,_,rfl⟩ ?_ ?_
 .rintro i Z y N BB ϗ hN hi ⟨s5,e5,v6,R,rfl⟩;refine ϗ _ _ (cL λM1 k1=>?_);rw[cR];have M:=C.same s5;obtain⟨rv,lv,pv,r1,r2,r3,r4,r5,r6⟩:=M.re;have gl:ϲ lv ((b:Int)+1)=some (.ref ld):=cT (by lia) (by rw[show((b:Int)+1).toNat=b+1 by lia];exact r4);have d:-100<=z-(i:Int):=by lia
  have r:z-(i:Int)+1<=2^64:=by lia
  walk_at "";refine⟨T.Tally,I,G,s5 _ _ B,T.cW,T.ϴ,_,fr,Υ r1 (cT C.v0.1 r2) (Υ r3 gl ?_)⟩;refine⟨ld,f,z-(i:Int),rfl,ξ.of M.ed,by have:=C.cl.1;lia,d,hJ (k:=65) (by lia) (by decide),Bi C.cb.1,λj hj=>uE d r (by have:=C.cl.1;lia),λH6 e=>k1 _ _ ?_⟩;have t:=s5.trans e;have C6:=M.same e;have O:=e _ _ e5;have U:i<=24:=by lia
  have hb:τ c i+1<=2^25:=by
   unfold τ;have h1:(i+1)*c<=25*1000000:=bP (by lia) C.c2.2;have h2:(2:Nat)^25=33554432:=rfl
   lia
  have wb:(Τ a (τ c i) 0).natAbs<ϫ:=IQ (z:=((τ c i:Nat):Int)) (by lia) (by lia) C.cl.2 C.cb.2;have W:ϲ ((ϰ (i+1) (Ϲ f a c z)).map V.int) (-1)=some (V.int (Λ i (Ϲ f a c z))):=by
   unfold ϰ;rw[c8,aw,aw];exact Jq _ _
  have J:((ϰ (i+1) (Ϲ f a c z)).map V.int).length=i+1:=by unfold ϰ;rw[aa,aa,bD]
  walk_at "";refine⟨Io O,Υ O W ?_⟩;refine⟨o,I,w,tw,lr,Wc,Wd,G,m,ps,rs,rv,pv,v,k,c,i,a,rfl,t _ _ B,fw,fr,C6.web,C.v0,C.k0,C.tl,C.c2.1,C.c2.2,e _ _ r1,r5,e _ _ r6,C6.ek,C.cl.2,U,Bi C.cb.2,λH7 s7=>⟨_,rfl,qN wb (IQ d r C.cl.1 C.cb.1),_,rfl,?_⟩⟩;refine oZ (s7 _ _ O) (d4 (by rw[J];lia)) (hN _ _ ⟨(t.trans s7).put u _,?_,_,_,rfl⟩);rw[ay];unfold ϰ;rw[c8 (n:=i+1),aw,aw]
  rfl
 .rintro BB Z y ϗ ⟨s5,e5,v6,R,rfl⟩;refine ϗ _ _ (h3 _ _ ?_);walk_at "";have em:(m-1).toNat+1=m.toNat:=by lia
  rw[em]at e5;exact⟨p,_,rfl,ξ.of e5,by unfold ϰ;rw[aa,bD];lia,λl H6 nl e J=>q l H6 (s5.free nl) (s5.trans e) J⟩
def uX(T:Txt K X):Sp:=λe H Q _=>E4 λ(a:Addr)(b:d2)(top:Nat)(z:Int)=>e=[.ref a,.int top,.int z]/\ξ K H a (b.map V.int)/\b.length<=100/\top+1<ϫ/\(∀c∈b,c.natAbs<ϫ)/\(∀n k,n<=top->k<b.length->ch n k<ϫ)/\∀(g:Nat)(d:Hp),g<=top->(g=0\/Τ b g 0<=z)->(g=top\/z<Τ b (g+1) 0)->δ H d->Q (.int g) d
abbrev oV:Stmt:=top 65
theorem Cp:η ["before","top","number","low","high","middle"] ["before","top","number"] (aK oV):=.of
theorem CV(T:Txt K X)(v:cg (Ε P w))(B:ky P w base T):Ok P w K X base "last_within" oV ["before","top","number"] 2 (uX T):=λ_ _ D=>by
 refine D.F.Ϙ Cp (by walk_at "v") λΑ A g s H Y Q E x h=>?_;obtain⟨a,f,top,z,rfl,S,L,tb,cb,O,k⟩:=h;refine⟨_,(aD (Δ 3 aU) (aD (Δ 4 (ε 1)) (aD (o9 PassesOwn.never (Ϻ pY (ε 3) (ε 4)) (aD (Δ 5 (bn gO (bn eT (bn eT (ε 3) (ε 4)) aU) aU)) (aO (eK (Ϻ vS (Ν B x v (ah (ε 0) (ah (ε 5) aB))) (ε 2)) (aO (Δ 3 (ε 5))) (aO (Δ 4 (bn iB (ε 5) aU))))))) (aO (bR (ε 3)))))),?_⟩;walk_at "s";refine cL λN1 R=>?_;walk_at "";refine R _ _ (cL λZ C=>?_);walk_at "";refine C _ _ (cL λW J=>?_);refine u9 (λn t i=>E3 λ(lo d:Nat)(p:Option V)=>n=d-lo/\lo<=d/\d<=top/\(lo=0\/Τ f lo 0<=z)/\(d=top\/z<Τ f (d+1) 0)/\δ H i/\t=[some (V.ref a),some (V.int top),some (V.int z),some (V.int lo),some (V.int d),p]) top ⟨0,top,_,rfl,bj _,ap _,.inl rfl,.inl rfl,δ.refl _,rfl⟩ ?_;rintro n t i N m M ⟨lo,d,p,rfl,l1,r,q,l,s,rfl⟩;walk_at "";by_cases c:lo<d
 .rw[aj (by lia)];refine⟨N,λy H2 w=>?_,⟨by decide,by decide⟩,?_⟩
  .obtain⟨m',lt,lo',Zn,v',e1,e2,e3,e4,e5,e6,e7⟩:=M _ _ w
   first|exact⟨m',lt,lo',Zn,v',e1,e2,e3,e4,e5,e6,e7⟩|exact⟨m',lt,lo',Zn,e1,e2,e3,e4,e5,e6,v',e7⟩
  obtain⟨b,I⟩:∃b:Nat,((lo:Int)+(d:Int)+1)/2=(b:Int):=⟨(((lo:Int)+(d:Int)+1)/2).toNat,by lia⟩;rw[I];have m1:lo<b:=by lia
  have u:b<=d:=by lia
  refine⟨a,f,(b:Int),rfl,s.seq S,L,by lia,(show b<ϫ by lia),cb,λk G=>(show ch b k<ϫ from O b k (by lia) G),λU o=>⟨_,rfl,?_⟩⟩;rw[pB];by_cases j:Τ f b 0<=z
  .rw[aj j];exact m (d-b) _ _ (by lia) ⟨b,d,_,rfl,u,r,.inr j,l,s.trans o,rfl⟩
  .rw[ag j];have e:((b:Int)-1)=((b-1:Nat):Int):=(by lia);rw[e];exact m (b-1-lo) _ _ (by lia) ⟨lo,b-1,_,rfl,by lia,by lia,q,.inr (by rw[show b-1+1=b by lia];lia),s.trans o,rfl⟩
 .rw[ag (by lia)];refine J _ _ ?_;walk_at "";have e:d=lo:=by lia
  subst e;exact k d i r q l s
def yD(T:Txt K X):Sp:=λq H Q _=>E23 λ(o w r p j n s ld l t:Addr)(m:Int)(u:gg)(x:hH)(v k a:Int)(c b z:Nat)(h d:d2)(f e:Bool)=>q=[.ref o,.int v,.int b,.int z,.int a]/\Yk T.Web T.Tally H o w r p j n s ld l t m u x v k c b h d f e/\b<=24/\(z:Int)+1<=2^64/\∀(g:Nat)(i:Hp),g<=z->(e=true->g=z)->(e=false->f=false->g=0)->(e=false->f=true->(g=0\/Τ (ϩ (ϰ m.toNat (Ϲ h d c z))) g 0<=a)/\(g=z\/a<Τ (ϩ (ϰ m.toNat (Ϲ h d c z))) (g+1) 0))->δ H i->Q (.int g) i
abbrev si:Stmt:=top 64
theorem HP:η ["tally","place","at","left","number","kid"] ["tally","place","at","left","number"] (aK si):=.of
abbrev sd(P w base)(T:Txt K X):=Cb P w K X base "course" qr ["tally","place","at","left"] 6 (xt T)
theorem HH(T:Txt K X)(r:cg (Ε P w))(qA:sd P w base T)(lq:ni P w base T)(rB:Cb P w K X base "last_within" oV ["before","top","number"] 2 (uX T)):Ok P w K X base "given_by" si ["tally","place","at","left","number"] 7 (yD T):=λ_ _ D=>by
 refine D.F.Ϙ HP (by walk_at "v") λΑ A y s H vs Q E u h=>?_;obtain⟨o,w,W,lk,ϻ,lr,lp,ld,Wc,Wd,m,U,O,v,k,i,c,e,z,S,a,fr,t,rfl,C,p,J,q⟩:=h;have m1:=C.web.go.m1;have Ο:=C.web.go.Ο;refine⟨_,(aD (Δ 5 (Ι bL (mM bL (dB (ε 0) rfl) (ε 1) (λ_ _=>rfl)) (ε 2))) (aD (eK (Ϻ jX (ε 5) (Ι bL (dB (ε 0) rfl) (ε 1))) (aO (bR (ε 3))) dy) (aD (eK (kK (mq (Ν lq u r (ah (ε 0) (ah (ε 1) (ah (ε 5) aB)))))) (aO (bR aU)) dy) (aO (bR (Ν rB u r (ah (Ν qA u r (ah (ε 0) (ah (ε 1) (ah (ε 2) (ah (ε 3) aB))))) (ah (ε 3) (ah (ε 4) aB))))))))),?_⟩;walk_at "s";refine cL λN1 h1=>?_;walk_at "";obtain⟨dx,fs,ho,fw,fk,af⟩:=C.ob;obtain⟨kv,Z,B,x,I,G⟩:=C.ki;have gk:ϲ (Z.map V.int) (e:Int)=some (V.int k):=cT (by lia) (by rw[bJ,aA,G];rfl);refine⟨T.Tally,dx,fs,ho,T.cW,T.rz,_,fk,Υ B (cT C.v0.1 x) (Υ I gk (h1 _ _ ?_))⟩;obtain⟨M,d,lw,lb,xs,cv,ob,N,e2,e3,R,e5,e6,L,Y,e9,f⟩:=C.fb;walk_at "";refine⟨T.Tally,M,d,N,T.cW,T.tV,_,R,Υ L (cT C.v0.1 Y) ?_⟩;refine⟨by cases ob<;>rfl,?_⟩;by_cases cb:ob=some k
 .have eb:t=true:=by rw[f];exact bh cb
  rw[aj (by rw[cb];rfl)];exact q z H (ap _) (λ_=>rfl) (λz=>by rw[eb]at z;cases z) (λz=>by rw[eb]at z;cases z) (δ.refl _)
 .have eb:t=false:=by rw[f];exact bA cb
  rw[ag (λz=>cb (by cases ob with|none=>cases z|some b=>unfold YT at z;injection z with z;rw[z]))];refine⟨o,M,w,W,lw,lb,d,m,U,O,xs,cv,v,k,(c:Int),ob,rfl,N,e2,e3,R,C.web,e5,e6,L,C.v0,C.k0,Y,C.tl,by have:=C.c2.1;lia,by have:=C.c2.2;lia,⟨_,rfl,?_⟩⟩;rw[<-e9];cases fr with
  | false=>
    rw[aj rfl];exact q 0 H (bj _) (λz=>by rw[eb]at z;cases z) (λ_ _=>rfl) (λ_ z=>by cases z) (δ.refl _)
  | true=>
    rw[ag (by decide)];refine⟨o,w,W,lk,ϻ,lr,lp,ld,Wc,Wd,m,U,O,v,k,(z:Int),c,e,S,a,true,t,rfl,C,p,by lia,J,λl H1 nl s1 el=>?_⟩;have au:(ϩ (ϰ m.toNat (Ϲ S a c z))).length<=24:=(by rw[Cr];unfold ϰ;rw[aa,bD];lia);refine⟨l,_,z,i,rfl,ξ.of el,by lia,hJ (k:=65) (by lia) (by decide),Jg (by lia) (by lia) J C.c2.2 C.cl.1 C.cl.2 C.cb.1 C.cb.2,λn j hn hj=>(show(Yh (n:Int) j).natAbs<ϫ from uE (by lia) (by lia) (by lia)),λg H2 g1 g2 g3 s2=>q g H2 g1 (λz=>by rw[eb]at z;cases z) (λ_ z=>by cases z) (λ_ _=>⟨g2,g3⟩) (s1.trans s2)⟩
def qk(T:Txt K X):Sp:=λp H Q _=>E23 λ(o w q l h j r ld i s:Addr)(m:Int)(t:gg)(u:hH)(v k z:Int)(c a:Nat)(e b:d2)(d n:Bool)(g:Nat)=>p=[.ref o,.int v,.int a,.int z,.int g]/\Yk T.Web T.Tally H o w q l h j r ld i s m t u v k c a e b d n/\a<=24/\-70<=z/\z+1<=2^64/\(g:Int)+1<=2^64/\∀f,δ H f->Q (.int (if d=true then Τ (ϩ (ϰ m.toNat (Ϲ e b c z))) g 0 else 0)) f
abbrev mW:Stmt:=top 66
theorem CU:η ["tally","place","at","left","given"] ["tally","place","at","left","given"] (aK mW):=.of
theorem B4(T:Txt K X)(e:cg (Ε P w))(qA:sd P w base T)(lq:ni P w base T)(dA:ky P w base T):Ok P w K X base "ways_before" mW ["tally","place","at","left","given"] 7 (qk T):=λ_ _ D=>by
 refine D.F.Ϙ CU (by walk_at "v") λΑ A p s H vs Q E i h=>?_;obtain⟨o,w,J,lk,ϻ,lr,lp,ld,R,Wd,m,I,B,v,k,z,c,b,G,a,fr,be,g,rfl,C,d,y,x,M,q⟩:=h;have m1:=C.web.go.m1;have Ο:=C.web.go.Ο;refine⟨_,(aD (eK (kK (mq (Ν lq i e (ah (ε 0) (ah (ε 1) (ah (Ι bL (mM bL (dB (ε 0) rfl) (ε 1) (λ_ _=>rfl)) (ε 2)) aB)))))) (aO (bR aU)) dy) (aO (bR (Ν dA i e (ah (Ν qA i e (ah (ε 0) (ah (ε 1) (ah (ε 2) (ah (ε 3) aB))))) (ah (ε 4) aB)))))),?_⟩;walk_at "s";walk_at "";obtain⟨dx,fs,ho,fw,fk,U⟩:=C.ob;obtain⟨kv,L,r,n,u,t⟩:=C.ki;have gk:ϲ (L.map V.int) (b:Int)=some (V.int k):=cT (by lia) (by rw[bJ,aA,t];rfl);refine⟨T.Tally,dx,fs,ho,T.cW,T.rz,_,fk,Υ r (cT C.v0.1 n) (Υ u gk ?_)⟩;obtain⟨W,f,lw,lb,xs,cv,ob,Y,N,e3,e4,e5,e6,O,e8,S,_⟩:=C.fb;refine⟨o,W,w,J,lw,lb,f,m,I,B,xs,cv,v,k,(c:Int),ob,rfl,Y,N,e3,e4,C.web,e5,e6,O,C.v0,C.k0,e8,C.tl,by have:=C.c2.1;lia,by have:=C.c2.2;lia,⟨_,rfl,?_⟩⟩;rw[<-S];cases fr with
 | false=>
   rw[aj rfl];exact q H (δ.refl _)
 | true=>
   rw[ag (by decide)];refine⟨o,w,J,lk,ϻ,lr,lp,ld,R,Wd,m,I,B,v,k,z,c,b,G,a,true,be,rfl,C,d,y,x,λl H1 nl s1 Z=>?_⟩;have ae:(ϩ (ϰ m.toNat (Ϲ G a c z))).length<=24:=by rw[Cr];unfold ϰ;rw[aa,bD];lia
   exact⟨l,_,(g:Int),rfl,ξ.of Z,by lia,by lia,hJ (k:=65) (by lia) (by decide),Jg (by lia) y x C.c2.2 C.cl.1 C.cl.2 C.cb.1 C.cb.2,λj hj=>uE (by lia) M (by lia),λH2 s2=>q H2 (s1.trans s2)⟩
def KA(H:Hp)(l:Addr)(a:g8):Prop:=∃b:List (Key×V),H l=some (.dK b)/\Paired (λ(c:Key×V)(x:Int×Nat×Int)=>c.1=.inl x.1/\∃q,c.2=.ref q/\H q=some (.tup [.int x.2.1,.int x.2.2])) b a
theorem II:∀{b:List (Key×V)}{a:g8}{R:V->Int×Nat×Int->Prop}{k:Int},Paired (λ(c:Key×V)(x:Int×Nat×Int)=>c.1=.inl x.1/\R c.2 x) b a->k∉a.map (·.1)->gj b (.inl k)=none
 | _,_,_,_,.nil,_=>rfl
 | _,_,R,k,.cons h t,n=>by
   rw[je (λz=>n (by rw[aq];rw[h.1]at z;injection z with z;rw[<-z];exact .head _))];exact II (R:=R) t λz=>n (by rw[aq];exact .tail _ z)
def wz(m:Int)(d:hH)(r:Int)(b:d3)(c:fz)(f:d2)(v:Int)(z:Nat)(I:Nat->Nat->Int->List (Int×Nat×Int)->Prop):Prop:=∀(i:Nat)(k:Int)(a:Nat)(l:Int)(j:g8)(g:Nat)(h e:d2),(kd m d r b v)[i]?=some k->a<=z->I i a l j->g<=a->Ϗ 15000 h (ς (ϝ m d r b c f) (Ϩ m d r b c f) (λk g=>iD m d r b c f k (τ (cK d b k) g)) ((kd m d r b v).drop (i+1)))->Ϗ 15000 e (iD m d r b c f k)->(Ϩ m d r b c f k=true->g=a)->(Ϩ m d r b c f k=false->ϝ m d r b c f k=false->g=0)->(Ϩ m d r b c f k=false->ϝ m d r b c f k=true->(g=0\/Τ (ϩ (ϰ m.toNat (Ϲ h e (cK d b k) a))) g 0<=l)/\(g=a\/l<Τ (ϩ (ϰ m.toNat (Ϲ h e (cK d b k) a))) (g+1) 0))->0<Τ h (a-g) 0/\Τ h (a-g) 0<2^9000/\I (i+1) (a-g) ((l-(if ϝ m d r b c f k=true then Τ (ϩ (ϰ m.toNat (Ϲ h e (cK d b k) a))) g 0 else 0))%Τ h (a-g) 0) (j++[(k,τ (cK d b k) g,(l-(if ϝ m d r b c f k=true then Τ (ϩ (ϰ m.toNat (Ϲ h e (cK d b k) a))) g 0 else 0))/Τ h (a-g) 0)])
def uJ(T:Txt K X):Sp:=λk H Q _=>E21 λ(o p t:Addr)(m:Int)(x:gg)(f:hH)(r:Int)(a:d3)(e:fz)(h:d2)(ld y q j i:Addr)(n:gg)(s:List V)(v c:Int)(z:Nat)(I:Nat->Nat->Int->List (Int×Nat×Int)->Prop)=>k=[.ref o,.int v,.int z,.int c]/\ϖ T.Web T.Tally H o p t m x f r a e h ld y q j i n s (λv=>0<=v/\v<m)/\(0<=v/\v<m)/\(z:Int)+1<=2^64/\I 0 z c []/\wz m f r a e h v z I/\∀(l:Addr)(g:Hp)(d:Nat)(u:Int)(b:g8),I (kd m f r a v).length d u b->b.map (·.1)=kd m f r a v->H l=none->δ H g->KA g l b->Q (.ref l) g
abbrev jN:Stmt:=top 63
theorem qH:η ["tally","place","held","number","found","left","at","kid","given","ways_behind"] ["tally","place","held","number"] (aK jN):=.of
theorem uD:Zq (aK jN) "number":=.of (by kernel_rfl)
theorem wq:Zq (aK jN) "left":=.of (by kernel_rfl)
theorem sF:Ϝ (aK jN) "enumerate":=.of (by kernel_rfl)
abbrev td(P w base)(T:Txt K X):=Cb P w K X base "ways_before" mW ["tally","place","at","left","given"] 7 (qk T)
theorem CF(T:Txt K X)(hq:cg (Ε P w))(vJ:Cb P w K X base "given_by" si ["tally","place","at","left","number"] 7 (yD T))(n9:ly P w base T)(dA:ky P w base T)(kY:td P w base T):Ok P w K X base "handed_down" jN ["tally","place","held","number"] 8 (uJ T):=λ_ _ D=>by
 refine D.F.Ϙ qH (by walk_at "v") λΑ A cp s H vs Q E hr h=>?_;obtain⟨o,p,t,m,ps,e,r,b,bd,tl,ld,lw,lb,lk,lr,kl,rv,v,aT,z,I,rfl,TA,vm,z1,i0,st,q⟩:=h;have hu:=rR hr;have g:=TA.web.go;have R:=TA.rt;have ek:(kd m e r b v).length<=24:=zt g;refine⟨_,(aD (Δ 4 P2) (aD (Δ 5 (ε 2)) (aD (fm PassesOwn.never rfl (xW true sF.g T.enumerate (Ι bL (dB (ε 0) rfl) (ε 1))) (kN (n:=2) rfl (cA (ϒ 6) (cA (ϒ 7) iL))) (aD (Δ 8 (Ν vJ hr hq (ah (ε 0) (ah (ε 1) (ah (ε 6) (ah (ε 5) (ah (ε 3) aB))))))) (aD (sW (i:=3) qH.nd rfl (Or.inl uD.l) (Ν kY hr hq (ah (ε 0) (ah (ε 1) (ah (ε 6) (ah (ε 5) (ah (ε 8) aB)))))) GD) (aD (sW (i:=5) qH.nd rfl (Or.inl wq.l) (ε 8) GD) (aD (Δ 9 (Ν dA hr hq (ah (Ι bL (mM bL (dB (ε 0) rfl) (ε 1) (λ_ _=>rfl)) (bn eT (ε 6) aU)) (ah (ε 5) aB)))) (aD (xO hu (ε 4) (ε 7) (jT (ah (Ν n9 hr hq (ah (ε 0) (ah (ε 1) (ah (ε 7) (ah (ε 8) aB))))) (ah (bn FP (ε 3) (ε 9)) aB))) rfl) (aO (Δ 3 (bn fQ (ε 3) (ε 9)))))))))) (aO (bR (ε 4)))))),?_⟩;walk_at "s";refine cL λN1 h1=>?_;walk_at "";refine λS O=>h1 _ _ (cL λN2 h2=>?_);have Z:=δ.new (HO.dK []) O;have e1:KA (upd H S (HO.dK [])) S []:=⟨[],ay,.nil⟩;generalize upd H S (HO.dK [])=H1 at Z e1 ⊢;walk_at "";refine h2 _ _ (cL λN3 h3=>?_);walk_at "";obtain⟨dx,ob⟩:=TA.ob;have a8:(b6 m.toNat)[v.toNat]?=some v:=by rw[fN (by lia),br vm.1]
 obtain⟨ϻ,Xn,Wh⟩:=tf TA.kp a8;refine⟨T.Tally,dx,_,Z _ _ ob,T.cW,T.rz,_,pT _ _ _ _ _ _,Υ (Z _ _ TA.hk) (cT vm.1 (by rw[aA,Xn];rfl)) ⟨ϻ,rfl,⟨_,ξ.of (Z _ _ Wh)⟩,?_⟩⟩;refine zp (K:=K) (c:=true) (xs:=(kd m e r b v).map V.int) (λi σ M=>δ H M/\E7 λ(a:Nat)(G:Int)(d:g8)(v6 v7 v8 v9:Option V)=>a<=z/\I i a G d/\KA M S d/\d.map (·.1)=(kd m e r b v).take i/\σ=[some (V.ref o),some (V.int v),some (V.int z),some (V.int G),some (V.ref S),some (V.int a),v6,v7,v8,v9]) ⟨Z,z,aT,[],_,_,_,_,ap _,i0,e1,rfl,rfl⟩ (λi σ M y=>ξ.of (y.1 _ _ Wh)) ?_ ?_
 .rintro i x σ M q' N hN hx ⟨s2,a,G,d,v6,v7,v8,v9,lz,ii,hd,am,rfl⟩ nq;obtain⟨k,hk,rfl⟩:=List.μ hx;have il:=(az.mp hk).1;have s3:=s2.trans (δ.new (HO.tup [V.int (i:Int),V.int k]) nq);have a3:upd M q' (HO.tup [V.int (i:Int),V.int k]) q'=some (.tup [V.int (i:Int),V.int k]):=ay;have ae:KA (upd M q' (HO.tup [V.int (i:Int),V.int k])) S d:=let ⟨θ,a1,Y⟩:=hd;⟨θ,δ.new _ nq _ _ a1,Paired.imp' (λkv x ⟨b1,q0,b2,b3⟩=>⟨b1,q0,b2,δ.new _ nq _ _ b3⟩) Y⟩;walk_at "";refine⟨_,Ξ.of a3,rfl,_,_,rfl,_,_,rfl,rfl,?_⟩;generalize upd M q' (HO.tup [V.int (i:Int),V.int k])=H3 at s3 ae ⊢;have bp:=TA.same s3;obtain⟨af,lp,Zc,Wc,Wd,U,L,C,c1,c2⟩:=bp.co vm hk;have ad:i<=24:=by lia
  refine⟨o,p,t,lk,af,lr,lp,Zc,Wc,Wd,m,ps,e,v,k,G,cK e b k,i,a,U,L,_,_,rfl,C,ad,by lia,λu H4 g1 g2 g3 g4 s4=>?_⟩;obtain⟨w0,w1,nx⟩:=st i k a G d u U L hk lz ii g1 c1 c2 g2 g3 g4;have C4:=C.same s4;refine⟨o,p,t,lk,af,lr,lp,Zc,Wc,Wd,m,ps,e,v,k,(a:Int),cK e b k,i,U,L,_,_,u,rfl,C4,ad,by lia,by lia,by lia,λH5 s5=>⟨_,rfl,_,rfl,?_⟩⟩;have cn:=s4.trans s5;have C5:=C4.same s5;obtain⟨b0,ci,a5,ec,eE,Z2⟩:=C5.ob;obtain⟨eH,a4,dV,r1,r2,r3,r4,r5,r6⟩:=C5.re;have gl:ϲ a4 ((i:Int)+1)=some (.ref Zc):=cT (by lia) (by rw[show((i:Int)+1).toNat=i+1 by lia];exact r4);refine⟨T.Tally,b0,ci,a5,T.cW,T.ϴ,_,Z2,Υ r1 (cT vm.1 r2) ⟨_,rfl,Υ r3 gl ?_⟩⟩;have el:(a:Int)-(u:Int)=((a-u:Nat):Int):=by lia
  rw[el];have d0:=C.cl.1;refine⟨Zc,U,((a-u:Nat):Int),rfl,ξ.of C5.ed,by lia,by lia,hJ (k:=65) (by lia) (by decide),Bi C.cb.1,λj hj=>uE (by lia) (by lia) (by lia),λH6 s6=>?_⟩;rw[pB];have C6:=C5.same s6;obtain⟨bS,bl,cx,bs,_,_⟩:=C6.ob;have eh:((u:Int)+1)*((cK e b k:Nat):Int)-1=((τ (cK e b k) u:Nat):Int):=by
   have dS:=C.c2.1;unfold τ;have:1<=(u+1)*cK e b k:=bP (show 1<=u+1 by lia) (show 1<=cK e b k by lia);rw[jG this,eX]
   rfl
  generalize Τ U (a-u) 0=W at w0 w1 nx ⊢;generalize (if ϝ m e r b bd tl k=true then Τ (ϩ (ϰ m.toNat (Ϲ U L (cK e b k) ↑a))) u 0 else 0)=B at nx ⊢;refine(show qP T _ _ _ _ from⟨o,bS,p,t,bl,m,ps,e,v,k,((cK e b k:Nat):Int),u,rfl,cx,bs,C6.web,vm,C.k0,C.tl,by have:=C.c2.1;lia,by have:=C.c2.2;lia,?_⟩);rw[eh];have bk:=cn.trans s6;obtain⟨θ,a1,Y⟩:=ae;refine⟨W,rfl,⟨w0,(Nat.log2_lt (by lia)).mpr (by lia)⟩,cm (by simp),λpq ca=>?_⟩;have s7:=δ.new (HO.tup [V.int (τ (cK e b k) u:Nat),V.int ((G-B)/W)]) ca;have e7:upd H6 pq (HO.tup [V.int (τ (cK e b k) u:Nat),V.int ((G-B)/W)]) pq=some (.tup [V.int (τ (cK e b k) u:Nat),V.int ((G-B)/W)]):=ay;have J:=bk.trans s7;generalize upd H6 pq (HO.tup [V.int (τ (cK e b k) u:Nat),V.int ((G-B)/W)])=H7 at s7 e7 J ⊢;have a7:=J _ _ a1;have al:d.length=i:=by rw[<-aa (f:=λx:Int×Nat×Int=>x.1),am,bq];lia
  have ei:θ.length=d.length:=Paired.length Y;have kn:k∉d.map (·.1):=λy=>by
   rw[am]at y;have nd:(kd m e r b v).Nodup:=nV;obtain⟨j,hj,ej⟩:=jP y;rw[bq]at hj;rw[List.getElem_take]at ej;have:=(fS (show j<(kd m e r b v).length by lia) nd).mp (show(kd m e r b v)[j]?=(kd m e r b v)[i]? by rw[hk,ao (by lia),ej])
   lia
  have cd:=II (R:=λy x=>∃q,y=V.ref q/\H3 q=some (.tup [.int x.2.1,.int x.2.2])) Y kn;refine⟨_,WK.k (k:=Sum.inl k) a7 (d4 (by lia)),W,rfl,w0,hN _ _ ⟨(s3.trans J).put O _,a-u,(G-B)%W,d++[(k,τ (cK e b k) u,(G-B)/W)],_,_,_,_,by lia,nx,?_,?_,rfl⟩⟩
  .rw[FO _ cd];refine⟨_,ay,Jh ⟨rfl,pq,rfl,by rw[aR (gU e7 a7 (by intro z;cases z))];exact e7⟩ (Paired.imp' (λkv x ⟨b1,q0,b2,b3⟩=>⟨b1,q0,b2,by rw[aR (gU (J _ _ b3) a7 (by intro z;cases z))];exact J _ _ b3⟩) Y)⟩
  .rw[aw,am,cz,hk]
   rfl
 .rintro σ M ⟨s2,a,G,d,v6,v7,v8,v9,lz,ii,hd,am,rfl⟩;rw[aa]at ii;refine h3 _ _ ?_;walk_at "";exact q S M a G d ii (by rw[am,aa,bx]) O s2 hd
theorem BZ:∀(a b:List (Key×V))(j:Key),(∃d∈a,d.1=j/\gj (jS b a) j=some d.2)\/((∀d∈a,d.1≠j)/\gj (jS b a) j=gj b j)
 | [],b,j=>.inr ⟨λ_ h=>(by cases h),rfl⟩
 | p::r,b,j=>by
   rcases BZ r (iJ b p.1 p.2) j with⟨d,h1,h2,h3⟩|⟨h1,h2⟩
   .exact .inl ⟨d,.tail _ h1,h2,h3⟩
   .have e:gj (jS b (p::r)) j=gj (iJ b p.1 p.2) j:=h2;rw[zI]at e;by_cases c:j=p.1
    .rw[aj c]at e;exact .inl ⟨p,.head _,c.symm,e⟩
    .rw[ag c]at e;exact .inr ⟨λd hk=>by
      rcases ax.mp hk with rfl|hk
      .exact λz=>c z.symm
      .exact h1 d hk,e⟩
theorem MI{f g:Type}{R:f->g->Prop}:∀{c:List f}{d:List g},Paired R c d->(∀a∈c,∃b∈d,R a b)/\∀b∈d,∃a∈c,R a b
 | _,_,.nil=>⟨λ_ h=>(by cases h),λ_ h=>(by cases h)⟩
 | _,_,.cons h t=>by
   obtain⟨j,i⟩:=MI t;refine⟨λa ha=>?_,λb hb=>?_⟩
   .rcases ax.mp ha with rfl|ha
    .exact⟨_,.head _,h⟩
    .obtain⟨b,hb,e⟩:=j a ha;exact⟨b,.tail _ hb,e⟩
   .rcases ax.mp hb with rfl|hb
    .exact⟨_,.head _,h⟩
    .obtain⟨a,ha,e⟩:=i b hb;exact⟨a,.tail _ ha,e⟩
def U6(H:Hp)(J:Int->Nat->Int->Prop)(a:List (Key×V))(u:Int):Prop:=E3 λ(q:Addr)(h:Nat)(n:Int)=>gj a (.inl u)=some (.ref q)/\H q=some (.tup [.int h,.int n])/\J u h n
def xD(T:Txt K X):Sp:=λs H Q _=>E20 λ(o p t:Addr)(m:Int)(C:gg)(f:hH)(r:Int)(a:d3)(e:fz)(j:d2)(ld D y q k:Addr)(u:gg)(A:List V)(b:Int)(z:Nat)(J:Int->Nat->Int->Prop)=>s=[.ref o,.int z,.int b]/\ϖ T.Web T.Tally H o p t m C f r a e j ld D y q k u A (λv=>0<=v/\v<m)/\(0<=r/\r<m)/\J r z b/\(∀(v:Int)(h:Nat)(n:Int),0<=v->v<m->J v h n->(h:Int)+1<=2^64/\∃I:Nat->Nat->Int->List (Int×Nat×Int)->Prop,I 0 h n []/\wz m f r a e j v h I/\∀d B c,I (kd m f r a v).length d B c->∀x∈c,J x.1 x.2.1 x.2.2)/\∀(l:Addr)(g:d2)(i:Hp),(g.length:Int)=m->(∀v,0<=v->v<m->(kd m f r a v=[]->∃(h:Nat)(n:Int),g.getD v.toNat 0=h/\J v h n)/\(kd m f r a v≠[]->g.getD v.toNat 0=0))->H l=none->δ H i->i l=some (.tup (g.map V.int))->Q (.ref l) i
abbrev qU:Stmt:=top 62
theorem Gq:η ["tally","held","number","counts","waiting","place","own"] ["tally","held","number"] (aK qU):=.of
theorem Gp(T:Txt K X)(hq:cg (Ε P w))(rK:Cb P w K X base "handed_down" jN ["tally","place","held","number"] 8 (uJ T)):Ok P w K X base "laying_at" qU ["tally","held","number"] 9 (xD T):=λ_ _ D=>by
 refine D.F.Ϙ Gq (by walk_at "v") λΑ A c3 s H vs Q E hr h=>?_;obtain⟨o,p,t,m,ps,C,r,d,f,tl,ld,lw,lb,lk,lr,kl,rv,G,z,J,rfl,TA,rm,jr,jj,q⟩:=h;have hu:=rR hr;have g:=TA.web.go;have R:=TA.rt;refine⟨_,(aD (Δ 3 (bn sG (eD (ah aU aB)) (dB (dB (ε 0) rfl) rfl))) (aD (Δ 4 (Jv (GP (Ι bL (dB (ε 0) rfl) aU) (jT (ah (ε 1) (ah (ε 2) aB))) Ir) rfl rfl (List.cons_ne_nil _ _) (by decide))) (aD (fm PassesOwn.never rfl (g6 (dB (ε 0) rfl)) (ϒ 5) (aD (Δ 6 (IE hu (ε 4) (ε 5) (λ_ _=>rfl))) (aD (eK (kK (sI (Ι bL (dB (ε 0) rfl) (ε 5)) (λ_=>rfl))) (aO (nI (Ι jv (ε 6) aU) (rf (ε 3) (ε 5) mO))) dy) (aO (dz (iR PySem.F.plainAttrs_dict PySem.F.slot_dict_update PySem.F.type_dict_update MD (ε 4) (ah (Ν rK hr hq (ah (ε 0) (ah (ε 5) (ah (Ι jv (ε 6) aU) (ah (Ι jv (ε 6) aU) aB))))) aB))))))) (aO (bR (Y8 oU T.tuple (ah (ε 3) aB))))))),?_⟩;walk_at "s";refine cL λN1 h1=>?_;walk_at "";have m1:=g.m1;have Ο:=g.Ο;obtain⟨dx,ob⟩:=TA.ob;obtain⟨dw,wb⟩:=TA.web.ob;refine⟨cm (by simp),λp0 dd=>?_⟩;have s0:=δ.new (HO.lst [V.int 0]) dd;have e0:upd H p0 (HO.lst [V.int 0]) p0=some (.lst [V.int 0]):=ay;generalize upd H p0 (HO.lst [V.int 0])=H0 at s0 e0 ⊢;have co:(List.replicate m.toNat [V.int 0]).flatten=(List.replicate m.toNat (0:Int)).map V.int:=by
  rw[iw]
  induction m.toNat with
  | zero=>rfl
  | succ n ih=>rw[cw,fu,ih,cw];rfl
 refine⟨T.Tally,dx,_,s0 _ _ ob,T.cW,T.RW,_,pJ _ _ _ _ _ _,p,rfl,T.Web,dw,_,s0 _ _ wb,T.lI,T.ϕ,_,jY _ _,p0,m,_,rfl,rfl,e0,by lia,by lia,cm (by show 1*m.toNat<=100000;lia),λlc Y5=>h1 _ _ (cL λN2 h2=>?_)⟩;rw[co];have s1:=s0.trans (δ.new (HO.lst ((List.replicate m.toNat (0:Int)).map V.int)) Y5);have e1:upd H0 lc (HO.lst ((List.replicate m.toNat (0:Int)).map V.int)) lc=some (.lst ((List.replicate m.toNat (0:Int)).map V.int)):=ay;have ci:=s0.free Y5;generalize upd H0 lc (HO.lst ((List.replicate m.toNat (0:Int)).map V.int))=H1 at s1 e1 ⊢;unfold EJ;walk_at "";intro M ZW;have u2:=δ.new (HO.dK []) ZW;have e2:upd H1 M (HO.dK []) M=some (.dK []):=ay;have bd:=s1.free ZW;have ai:lc≠M:=λy=>by rw[<-y,e1]at ZW;cases ZW
 generalize upd H1 M (HO.dK [])=H2 at u2 e2 ⊢;have s2:=s1.trans u2;have gd:ϲ ((bO m C r d f r).map V.int) 0=some (V.int r):=by
  rw[TA.et];exact cT (b9 0) rfl
 refine⟨T.Tally,dx,_,s2 _ _ ob,T.cW,T.uL,_,qg _ _ _ _ _ _,Υ (s2 _ _ TA.hd) gd ⟨cm (by simp),λU c0=>?_⟩⟩;have u3:=δ.new (HO.tup [V.int z,V.int G]) c0;have e3:upd H2 U (HO.tup [V.int z,V.int G]) U=some (.tup [V.int z,V.int G]):=ay;have ad:=u3 _ _ e2;generalize upd H2 U (HO.tup [V.int z,V.int G])=H3 at u3 e3 ad ⊢;refine⟨ad,[(.inl r,.ref U)],rfl,(show 1<=15 by decide),h2 _ _ (cL λN3 h3=>?_)⟩;have s3:=((s2.trans u3).put bd (HO.dK [(.inl r,.ref U)]));have e4:upd H3 M (HO.dK (jS [] [(.inl r,.ref U)])) M=some (.dK [(.inl r,.ref U)]):=ay;have a3:upd H3 M (HO.dK (jS [] [(.inl r,.ref U)])) lc=some (.lst ((List.replicate m.toNat (0:Int)).map V.int)):=by rw[aR ai];exact u3 _ _ (u2 _ _ e1)
 have a4:upd H3 M (HO.dK (jS [] [(.inl r,.ref U)])) U=some (.tup [V.int z,V.int G]):=by rw[aR (gU e3 ad (by intro y;cases y))];exact e3
 have s4:δ H (upd H3 M (HO.dK (jS [] [(.inl r,.ref U)]))):=s3;generalize upd H3 M (HO.dK (jS [] [(.inl r,.ref U)]))=H4 at s4 e4 a3 a4 ⊢;clear u2 u3 e2 ad e3 s2 s3;walk_at "";refine⟨T.Tally,dx,_,s4 _ _ ob,T.cW,T.uL,_,qg _ _ _ _ _ _,ld,rfl,⟨_,ξ.of (s4 _ _ TA.hd)⟩,?_⟩;have pn:∀u,0<=u->u<m->u∈bO m C r d f r:=λu u0 u1=>by
  rw[TA.et];rcases TA.or.all u u0 u1 with rfl|y
  .exact .head _
  .exact .tail _ y
 have nd:(bO m C r d f r).Nodup:=by rw[TA.et];exact TA.or.nd
 have pr:∀u∈bO m C r d f r,0<=u/\u<m:=λu hu=>by
  rw[TA.et]at hu;rcases ax.mp hu with rfl|y
  .exact rm
  .exact TA.or.Χ u y
 have pl:(bO m C r d f r).length<=24:=zW g R rm.1 rm.2;refine mG (K:=K) (xs:=(bO m C r d f r).map V.int) (λi σ Y=>δ H Y/\E4 λ(xs:d2)(Z:List (Key×V))(v5 v6:Option V)=>Y lc=some (.lst (xs.map V.int))/\Y M=some (.dK Z)/\xs.length=m.toNat/\Z.length<=1+24*i/\(∀u,(u=r\/(0<=u/\u<m/\u≠r/\d u∈(bO m C r d f r).take i))->U6 Y J Z u)/\(∀u,0<=u->u<m->(u∈(bO m C r d f r).take i->(kd m C r d u=[]->∃(h:Nat)(n:Int),xs.getD u.toNat 0=h/\J u h n)/\(kd m C r d u≠[]->xs.getD u.toNat 0=0))/\(u∉(bO m C r d f r).take i->xs.getD u.toNat 0=0))/\σ=[some (V.ref o),some (V.int z),some (V.int G),some (V.ref lc),some (V.ref M),v5,v6]) ⟨s4,_,_,_,_,a3,e4,cV ..,(show 1<=1+24*0 by decide),?_,?_,rfl⟩ (λi σ Y _ y=>ξ.of (y.1 _ _ TA.hd)) ?_ ?_
 .rintro u (rfl|⟨_,_,_,y⟩)
  .exact⟨U,z,G,jc rfl,a4,jr⟩
  .cases y
 .intro u u0 u1;refine⟨λy=>(by cases y),λ_=>?_⟩;rw[aX,fD];split<;>rfl
 .rintro i y σ Y N BB ϗ hN hy ⟨s5,xs,Z,v5,v6,ex,ew,xl,kl5,wt,pr5,rfl⟩;obtain⟨v,hv,rfl⟩:=List.μ hy;have W:=pr v (aQ hv);have il:=(az.mp hv).1;refine ϗ _ _ (cL λM1 k1=>?_);have ZS:U6 Y J Z v:=by
   refine wt v ?_;rw[TA.et]at hv ⊢;cases i with
   | zero=>exact .inl (bi hv).symm
   | succ j=>
     have Yp:tl[j]?=some v:=hv;have vt:=aQ Yp;have vr:=TA.or.ne vt;refine .inr ⟨W.1,W.2,vr,?_⟩;have au:=After.up (A:=tl.take (j+1)) (B:=tl.drop (j+1)) (S:=[r]) (by rw[b8];exact TA.or.af) v (by rw[cz,Yp];exact aW _ (.head _));have pd:=(R.up v W.1 W.2 vr).2.2;rw[List.take_succ_cons];rcases au with y|y
     .rw[aI.mp y];exact .head _
     .rw[cz,Yp]at y;rcases aY.mp y with y|y
      .exact .tail _ y
      .have:d v=v:=aI.mp y;rw[this]at pd
       lia
  obtain⟨q0,h0,n0,w1,w2,w3⟩:=ZS;obtain⟨hb,I,i0,cy,cS⟩:=jj v h0 n0 W.1 W.2 w3;walk_at "";have dg:=ϵ.k (H:=Y) (k:=Sum.inl v) ew;rw[w1]at dg;refine⟨_,dg,k1 _ _ (cL λM2 k2=>?_)⟩;have cf:(b6 m.toNat)[v.toNat]?=some v:=by rw[fN (by lia),br W.1]
  obtain⟨ϻ,Xn,Wh⟩:=tf TA.kp cf;have an:(bO m C r d f r).take (i+1)=(bO m C r d f r).take i++[v]:=by rw[cz,hv];rfl
  have a7:∀(O:d2)(H6:Hp),δ H H6->H6 lc=some (.lst (O.map V.int))->H6 M=some (.dK Z)->(∀q x,Y q=some (.tup x)->H6 q=some (.tup x))->O.length=m.toNat->(∀u,0<=u->u<m->(u∈(bO m C r d f r).take (i+1)->(kd m C r d u=[]->∃(h:Nat)(n:Int),O.getD u.toNat 0=h/\J u h n)/\(kd m C r d u≠[]->O.getD u.toNat 0=0))/\(u∉(bO m C r d f r).take (i+1)->O.getD u.toNat 0=0))->M2 [some (V.ref o),some (V.int z),some (V.int G),some (V.ref lc),some (V.ref M),some (V.int v),some (V.ref q0)] H6:=by
   intro O H6 s6 cl aS tp cc cn;refine k2 _ _ ?_;have e6:=tp _ _ w2;walk_at "";refine⟨.inr (.inr (.inl ⟨rfl,.inl ⟨_,aS⟩⟩)),WZ e6 rfl (WZ e6 rfl ?_)⟩;refine⟨o,p,t,m,ps,C,r,d,f,tl,ld,lw,lb,lk,lr,kl,rv,v,n0,h0,I,rfl,TA.same s6,W,hb,i0,cy,λl H7 a8 nu aC ie am nl s7 hd=>?_⟩;obtain⟨L,dm,a1⟩:=hd;have a2:=s7 _ _ aS;have cs:M≠l:=λy=>by rw[<-y,aS]at nl;cases nl
   have ml:L.length=aC.length:=Paired.length a1;have al:aC.length<=24:=by
    have h1:=congrArg List.length am;rw[aa]at h1;have h2:(kd m C r d v).length<=24:=zt g
    lia
   have kp:∀q x,H7 q=some (.tup x)->upd H7 M (HO.dK (jS Z L)) q=some (.tup x):=λq x e=>by rw[aR (gU e a2 (by intro y;cases y))];exact e
   refine⟨M,l,Z,L,rfl,rfl,a2,dm,cs,cm (by lia),hN _ _ ⟨(s6.trans s7).put bd _,O,_,_,_,by rw[aR ai];exact s7 _ _ cl,ay,cc,?_,λu hu=>?_,cn,rfl⟩⟩
   .have:=oW L Z
    lia
   .obtain⟨pm1,pm2⟩:=MI a1;rcases BZ L Z (.inl u)with⟨kv,k1',k2',k3'⟩|⟨k1',k2'⟩
    .obtain⟨x,hx,x1,q1,x2,x3⟩:=pm1 kv k1';have xu:x.1=u:=(by rw[x1]at k2';exact Sum.inl.inj k2');exact⟨q1,x.2.1,x.2.2,by rw[k3',x2],kp _ _ x3,xu▸cS a8 nu aC ie x hx⟩
    .have old:u=r\/(0<=u/\u<m/\u≠r/\d u∈(bO m C r d f r).take i):=by
      rcases hu with y|⟨y1,y2,y3,y4⟩
      .exact .inl y
      .rw[an]at y4;rcases aY.mp y4 with y4|y4
       .exact .inr ⟨y1,y2,y3,y4⟩
       .have pu:d u=v:=aI.mp y4;have uk:u∈kd m C r d v:=(bw g R W.1 W.2).mpr ⟨⟨y1,y2⟩,y3,pu⟩;rw[<-am]at uk;obtain⟨x,hx,e⟩:=aP.mp uk;obtain⟨kv,YC,c2,_⟩:=pm2 x hx;exact absurd (by rw[c2,e]) (k1' kv YC)
     obtain⟨q1,c5,cx,o1,o2,o3⟩:=wt u old;exact⟨q1,c5,cx,by rw[k2'];exact o1,kp _ _ (s7 _ _ (tp _ _ o2)),o3⟩
  walk_at "";refine⟨T.Tally,dx,_,s5 _ _ ob,T.cW,T.rz,_,pT _ _ _ _ _ _,Υ (s5 _ _ TA.hk) (cT W.1 (by rw[aA,Xn];rfl)) ?_⟩;have vn:v∉(bO m C r d f r).take i:=λy=>by
   obtain⟨j,hj,ej⟩:=jP y;rw[bq]at hj;rw[List.getElem_take]at ej;have:=(fS (show j<(bO m C r d f r).length by lia) nd).mp (show(bO m C r d f r)[j]?=(bO m C r d f r)[i]? by rw[hv,ao (by lia),ej])
   lia
  have v1:v∈(bO m C r d f r).take (i+1):=by rw[an];exact aW _ (.head _)
  have un:∀u,u≠v->(u∈(bO m C r d f r).take (i+1)↔u∈(bO m C r d f r).take i):=λu nu=>by
   rw[an];exact⟨λy=>(aY.mp y).elim id λy=>absurd (aI.mp y) nu,λy=>bo _ y⟩
  by_cases c:kd m C r d v=[]
  .refine⟨false,.inl ⟨_,ξ.of (s5 _ _ Wh),by rw[c];rfl⟩,?_⟩;rw[aj rfl];refine WZ w2 rfl (wC ex W.1 (by rw[aa];lia) ?_);rw[<-gX];refine a7 (xs.set v.toNat h0) _ (s5.put ci _) ay (by rw[aR (Ne.symm ai)];exact ew) (λq x e=>by rw[aR (gU e ex (by intro y;cases y))];exact e) (by rw[eR];exact xl) λu u0 u1=>?_;rw[zL _ _ _ _ (by lia)];by_cases cu:u=v
   .subst cu;rw[aj rfl];exact⟨λ_=>⟨λ_=>⟨h0,n0,rfl,w3⟩,λy=>absurd c y⟩,λy=>absurd v1 y⟩
   .rw[ag (by lia),un u cu];exact pr5 u u0 u1
  .refine⟨true,.inl ⟨_,ξ.of (s5 _ _ Wh),by cases e:kd m C r d v with|nil=>exact absurd e c|cons a b=>rfl⟩,?_⟩;rw[ag (by decide)];refine a7 xs Y s5 ex ew (λ_ _ e=>e) xl λu u0 u1=>?_;by_cases cu:u=v
   .subst cu;exact⟨λ_=>⟨λy=>absurd y c,λ_=>(pr5 u u0 u1).2 vn⟩,λy=>absurd v1 y⟩
   .rw[un u cu];exact pr5 u u0 u1
 .rintro BB σ Y ϗ ⟨s5,xs,Z,v5,v6,ex,ew,xl,kl5,wt,pr5,rfl⟩;rw[aa,bx]at pr5;refine ϗ _ _ (h3 _ _ ?_);walk_at "";refine⟨_,.inl ⟨ξ.of ex,λl nl=>q l xs _ (by lia) (λu u0 u1=>(pr5 u u0 u1).1 (pn u u0 u1)) (s5.free nl) (s5.trans (δ.new _ nl)) ay⟩⟩
theorem Au{m:Int}{b:hH}{r:Int}{a:d3}{c:fz}(g:Good m b)(R:ζ m b r a c)(k:Int)(e:0<=k)(d:k<m)(f:k≠r):(cK b a k:Int)=tup b a k:=br (by have:=(fV g R e d f).1;lia)
theorem VG{m:Int}{f:hH}{r:Int}{c:d3}{e:fz}{s:d2}(g:Good m f)(R:ζ m f r c e)(O:Order m r c s){v:Int}{z:Nat}(t:0<=v)(u:v<m)(E:ο m f r c e v*((z:Int)+1)<=2^64):wz m f r c e s v z (λ_ j _ y=>j<=z/\∀x∈y,ο m f r c e x.1*((x.2.1:Int)+1)<=2^64):=by
 intro i k j N y B M G D Q ⟨_,I⟩ J H _ _ _ _;have L:=(eZ g R t u).1;obtain⟨A,C,F⟩:=(bw g R t u).mp (aQ D);have o:∀a:Nat,a<=z->ο m f r c e v*((a:Int)+1)<=2^64:=λa h=>bE (cj (by lia) (by lia)) E;have q:∀x∈(kd m f r c v).drop (i+1),x∈kd m f r c v:=λx h=>b5 h;have l:∀x∈kd m f r c v,0<=x/\x<m:=λx h=>((bw g R t u).mp h).1;have b:=Jc (fr:=ϝ m f r c e s) (be:=Ϩ m f r c e s) g R O (Au g R) (x:=64) t u (λx h=>IK g R O (Au g R) _ (l x h).1 (l x h).2 (ap _)) q (o (j-B) (by lia));have p:=pH (fr:=ϝ m f r c e s) (be:=Ϩ m f r c e s) (ws:=λk g=>iD m f r c e s k (τ (cK f c k) g)) (ks:=(kd m f r c v).drop (i+1)) (λx h n=>sO g R _ (l x (q x h)).1 (l x (q x h)).2 (ap _) _) (j-B);have d:=sK (λk=>ϐ m f r c e k+1) (kd m f r c v) (i+1);rw[gc g R t u]at d;have dl:=md g R t u;have Ο:=g.Ο;rw[H.val];refine⟨by unfold iD at p ⊢;lia,Int.lt_of_le_of_lt b (by
  rw[show(2:Int)^9000=2^8999*2 from Int.pow_succ ..];have:=zH (a:=64*(((kd m f r c v).drop (i+1)).map λk=>ϐ m f r c e k+1).sum) (b:=8999) (by lia);have:=lP 8999
  lia),by lia,λx hx=>?_⟩
 rcases aY.mp hx with hx|hx
 .exact I x hx
 .rw[aI.mp hx];have:=Cg g R O A.1 A.2 C (Au g R k A.1 A.2 C) B;rw[F]at this;exact bE this (o B (by lia))
def RkI(m:Int)(c:hH)(r:Int)(a:d3)(b:fz)(e:d2)(v:Int)(z:Nat)(h:Int)(i d:Nat)(j:Int)(f:g8):Prop:=d<=z/\0<=j/\j<ς (ϝ m c r a b e) (Ϩ m c r a b e) (λk g=>iD m c r a b e k (τ (cK c a k) g)) ((kd m c r a v).drop i) d/\∃ch:List (Int×Nat×Int),f=ch.map (λx=>(x.1,τ (cK c a x.1) x.2.1,x.2.2))/\(∀x∈ch,x.2.1<=z/\0<=x.2.2/\x.2.2<iD m c r a b e x.1 (τ (cK c a x.1) x.2.1))/\∀l,Rk (ϝ m c r a b e) (Ϩ m c r a b e) (λk g=>iD m c r a b e k (τ (cK c a k) g)) ((kd m c r a v).drop i) d l j->Rk (ϝ m c r a b e) (Ϩ m c r a b e) (λk g=>iD m c r a b e k (τ (cK c a k) g)) (kd m c r a v) z (ch++l) h
theorem Vt{m:Int}{e:hH}{r:Int}{a:d3}{d:fz}{l:d2}(g:Good m e)(R:ζ m e r a d)(O:Order m r a l){v o:Int}{z:Nat}(C:0<=v)(D:v<m)(hz:ο m e r a d v*((z:Int)+1)<=2^64):wz m e r a d l v z (RkI m e r a d l v z o):=by
 intro i k j nu U n Y A u L ⟨_,n0,W,ch,ea,T,P⟩ H B J G ge I;have y:∀v,0<=v->v<m->v≠r->1<=cK e a v/\cK e a v<=1000000:=λx x0 V xr=>by
  have:=fV g R x0 V xr;unfold cK
  lia
 have S:∀k,ϝ m e r a d l k=true->Ϩ m e r a d l k=false:=λk h=>by
  unfold ϝ at h;unfold Ϩ;rw[ce]at h;have:=bN h.2;exact bA this
 have hw:∀x∈kd m e r a v,∀i,1<=(λk g=>iD m e r a d l k (τ (cK e a k) g)) x i:=λx hx i=>by
  have F:=((bw g R C D).mp hx).1;exact sO g R _ F.1 F.2 (ap _) _
 have s:=λ(q:Nat)(M:q<=j+1)=>IW (fr:=ϝ m e r a d l) (be:=Ϩ m e r a d l) (c:=cK e a) g R y C D u B J M;obtain⟨Z,a2,⟨N,a4⟩,Q⟩:=Rk.go u hw P n0 W H (λ_ b=>G b) (λf b=>ge b f) (λf=>by
  have t:=s n (by lia);have p:=s (n+1) (by lia);unfold lE at t p;rw[aj f,aj f]at t p;have:=I (S k f) f;rw[t,p]at this;exact this)
 have E:=VG g R O C D hz i k j nu [] n Y A u L ⟨L,λx hx=>(by cases hx)⟩ H B J G ge I;refine⟨E.1,E.2.1,?_⟩;rw[B.val,s n (by lia)];exact⟨by lia,Z,a2,ch++[(k,n,_)],by rw[ea,aw];rfl,λx hx=>by
  rcases aY.mp hx with hx|hx
  .exact T x hx
  .rw[aI.mp hx];exact⟨show n<=z by lia,N,a4⟩,Q⟩
theorem VP{m:Int}{c:hH}{r:Int}{a:d3}{b:fz}{p:d2}(g:Good m c)(R:ζ m c r a b)(O:Order m r a p){n u:fz}{o:d3}(N:ϳ m c r a b (ϝ m c r a b p) (Ϩ m c r a b p) (cK c a) n u o){v:Int}(j:0<=v)(l:v<m)(z:ο m c r a b v*((n v:Int)+1)<=2^64):∃I:Nat->Nat->Int->List (Int×Nat×Int)->Prop,I 0 (n v) (o v) []/\wz m c r a b p v (n v) I/\∀f s i,I (kd m c r a v).length f s i->∀x∈i,x.2.1=n x.1/\x.2.2=o x.1/\ο m c r a b x.1*((x.2.1:Int)+1)<=2^64:=by
 have bd:=N.bd g R j l;rw[jF g R j l]at bd;refine⟨RkI m c r a b p v (n v) (o v),⟨ap _,bd.1,bd.2,[],rfl,λx t=>(by cases t),λF h=>h⟩,Vt g R O j l z,?_⟩;rintro f s i ⟨_,E,y,ch,rfl,_,P⟩ x t;rw[f9]at y P;have:s=0:=by have:s<1:=y;lia
 subst this;have h:=P [] (.nil _);rw[bH]at h;have e:ch=(kd m c r a v).map λk=>(k,u k,o k):=h.inj (uC g R j l) (N.at_ v j l) rfl;subst e;rw[cZ]at t;obtain⟨k,B,rfl⟩:=aP.mp t;obtain⟨d,q,C⟩:=(bw g R j l).mp B;have A:=(N.kid g R d.1 d.2 q).2.1;have w:=Cg g R O d.1 d.2 q (Au g R k d.1 d.2 q) (u k);rw[C]at w A;have D:=(eZ g R j l).1;exact⟨(N.up k d.1 d.2 q).symm,rfl,bE w (bE (cj (by lia) (by lia)) z)⟩
def yT(T:Txt K X):Sp:=λj H Q E=>E8 λ(p t:Addr)(m:Int)(n:gg)(d:hH)(r w e:Int)=>j=[.ref p,.int r,.int w,.int e]/\χ T.Web H p m t n d/\w<=10^60/\-(10^60)<=w/\(0<=r->r<m->1<=w->∃a b,ζ m d r a b/\(gE m d r a (dD m d r a b) w+1<=1000000000000->∀f,Order m r a f->bO m d r a b r=r::f->((0<=e/\e<iD m d r a b f r (w-1).toNat)->∀(l:Addr)(g:d2)(h k:fz)(i:d3)(c:Hp),ϳ m d r a b (ϝ m d r a b f) (Ϩ m d r a b f) (cK d a) h k i->(h r:Int)=w-1->i r=e->(g.length:Int)=m->(∀v,0<=v->v<m->g.getD v.toNat 0=if kd m d r a v=[]then(h v:Int)else 0)->H l=none->δ H c->c l=some (.tup (g.map V.int))->Q (.ref l) c)/\(¬(0<=e/\e<iD m d r a b f r (w-1).toNat)->∀c,δ H c->E (.ref T.NoNumber) none c))/\(1000000000000<gE m d r a (dD m d r a b) w+1->∀c,δ H c->E (.ref T.TooMany) none c))/\(¬(0<=r/\r<m)->∀c,δ H c->E (.ref T.NoPlace) none c)/\(0<=r->r<m->w<1->∀c,δ H c->E (.ref T.BadWish) none c)
abbrev nX:Stmt:=top 53
theorem HU:η ["web","r","wanted","number","tally"] ["web","r","wanted","number"] (aK nX):=.of
theorem rO:Ϝ (aK nX) "Tally":=.of (by kernel_rfl)
theorem pR:Ϝ (aK nX) "NoNumber":=.of (by kernel_rfl)
abbrev ti(P w base)(T:Txt K X):=Cb P w K X base "check_told" kI ["web","r","wanted"] 10 (rN T)
theorem HE(T:Txt K X)(hq:cg (Ε P w)){ι:Addr}{eE:FuncData}(gH:Ye K "__init__" "Tally.__init__" eU ι eE)(ou:Binds K eE ["self","web","r"] [])(oh:Mk K T.Tally ι)(Β:ϓ P w K X base (Ε P w) 10 ι eE ["self","web","r"] (lV T))(my:ti P w base T)(uf:Cb P w K X base "laying_at" qU ["tally","held","number"] 9 (xD T))(lg:lN P w base T):Ok P w K X base "worst_at" nX ["web","r","wanted","number"] 12 (yT T):=λ_ _ D=>by
 refine D.F.W0 HU (by walk_at "v") λΑ A al s H vs Q E hr h=>?_;obtain⟨p,t,m,ps,i,r,w,y,rfl,W,w2,w0,k,e,e'⟩:=h;have g:=W.go;refine⟨_,(aD (dz (ϡ my hr dW (ah (ε 0) (ah (ε 1) (ah (ε 2) aB))))) (aD (Δ 4 (xN oh Β (hr.mono (by decide)) rO.g T.Dl ou .nil dW (ah (ε 0) (ah (ε 1) aB)) (hdb:=rO.d))) (aD (eK (kK (zS vS pY aU (ε 3) (ϡ lg hr dW (ah (ε 4) (ah (ε 1) (ah (bn iB (ε 2) aU) aB)))))) (aO (py T.rY rfl qL pR.g T.BN (ah tD aB) (hdb:=pR.d))) dy) (aO (bR (ϡ uf hr dW (ah (ε 4) (ah (bn iB (ε 2) aU) (ah (ε 3) aB))))))))),?_⟩;walk_at "s";walk_at "";refine⟨p,t,m,ps,i,r,w,rfl,W,w2,w0,λq B w1=>?_,e,e'⟩;obtain⟨a,f,R,k1,k2⟩:=k q B w1;refine⟨a,f,R,λcb U s1=>?_,k2⟩;dsimp only;intro x Z hx ab ne;have ac:upd U Z (.own x) x=none:=by rw[aR ne.symm];exact hx
 have s0:δ U (upd (upd U Z (.own x)) x (.ins T.Tally Z [])):=(δ.new _ ab).trans (δ.new _ ac);refine⟨x,Z,p,t,m,ps,i,r,rfl,ay,(W.same s1).same s0,⟨q,B⟩,a,f,R,λC ld lw lb lk lr kl rv H2 TA kp=>⟨rfl,?_⟩⟩;have s2:δ U H2:=λb o e=>kp b o (s0 b o e) (cq e hx);have N:=s1.trans s2;obtain⟨k3,k4⟩:=k1 cb C TA.or TA.et;obtain⟨n,rfl⟩:∃n:Nat,w=((n+1:Nat):Int):=⟨(w-1).toNat,by lia⟩;have O:((n+1:Nat):Int)-1=(n:Int):=by lia
 have top:=RK g R q B w1;have W1:=(eZ g R q B).1;have nb:(n:Int)+1<=2^64:=vz W1 (by lia) (b:=2^64) (by rw[show(n:Int)+1=((n+1:Nat):Int)from rfl];lia);rw[O,bJ]at k3 k4;rw[O];have M:∀S,δ H S->¬(0<=y/\y<iD m i r a f C r n)->[V.str (Str.ofString "no worst laying has this number")].length<=sizeLine/\E (Value.ref T.NoNumber) none S:=λS s' h=>⟨cm (by simp),k4 h S s'⟩;by_cases I:0<=y
 .rw[aj I];obtain⟨_,lp,ϱ,h1,h2,h3,h4⟩:=TA.ϛ r ⟨q,B⟩;obtain⟨sr,es⟩:=vI (kd m i r a r);rw[es]at h4;obtain⟨ZX,ob⟩:=TA.ob;have XR:=jF (fr:=ϝ m i r a f C) (be:=Ϩ m i r a f C) (c:=cK i a) g R q B;cases h4 with
  | cons e he=>
    obtain⟨cs,G,c2⟩:=e;have c3:=c2.le (b':=15000) (tE (by have:=gc g R q B;have:=md g R q B;have:=g.Ο;lia));have cl:=c3.len;refine⟨x,ZX,lr,lp,_,_,rv,_,r,cs,n,rfl,ob,oM _ _ _ _ _ _,TA.hr,q,h1,h3,G,by lia,hJ (k:=64) (by lia) (by decide),λc hc=>hJ (c3.bt c hc) (by decide),λj hj=>Cm (x:=64) (by lia) (by lia),λH3 Y=>?_⟩;have ew:Τ cs n 0=iD m i r a f C r n:=by
     rw[c3.val];unfold iD;rw[XR]
    rw[ew];refine⟨_,rfl,?_⟩;by_cases G:y<iD m i r a f C r n
    .rw[ag (by lia)];obtain⟨cn,gv,Xv,NS,en,eb⟩:=ϳ.ex (fr:=ϝ m i r a f C) (be:=Ϩ m i r a f C) (c:=cK i a) g R q B I G;refine⟨x,p,t,m,ps,i,r,a,f,C,ld,lw,lb,lk,lr,kl,rv,y,n,λu h nu=>h=cn u/\nu=Xv u/\ο m i r a f u*((h:Int)+1)<=2^64,rfl,TA.same Y,⟨q,B⟩,⟨en.symm,eb.symm,(show ο m i r a f r*((n+1:Nat):Int)<=2^64 by lia)⟩,?_,λl xs H4 xl xv nl s4 el=>k3 ⟨I,G⟩ l xs cn gv Xv H4 NS (by lia) eb xl (λv J L=>?_) (N.free (Y.free nl)) (N.trans (Y.trans s4)) el⟩
     .rintro v h nu J L ⟨rfl,rfl,hw⟩;exact⟨vz (eZ g R J L).1 (by lia) hw,VP g R TA.or NS J L hw⟩
     .split
      .rename_i kz
       obtain⟨h,nu,O,rfl,_⟩:=(xv v J L).1 kz;exact O
      .rename_i kz
       exact(xv v J L).2 kz
    .rw[aj G];exact M _ (N.trans Y) λz=>G z.2
 .rw[ag I];exact M _ N λz=>I z.1
def wc(T:Txt K X):Sp:=λg H Q _=>E7 λ(p t:Addr)(m:Int)(f:gg)(c:hH)(r:Int)(n:Nat)=>g=[.ref p,.int r,.int (n+1:Nat)]/\χ T.Web H p m t f c/\(0<=r/\r<m)/\n+1<=2^4000/\∃a b,ζ m c r a b/\∀d e,Order m r a d->bO m c r a b r=r::d->δ H e->Q (.int (iD m c r a b d r n)) e
abbrev nS:Stmt:=top 52
theorem Ec:η ["web","r","wanted"] ["web","r","wanted"] (aK nS):=.of
theorem qj:Ϝ (aK nS) "Tally":=.of (by kernel_rfl)
theorem Eo(T:Txt K X)(y:cg (Ε P w)){B:Addr}{J:FuncData}(gH:Ye K "__init__" "Tally.__init__" eU B J)(U:Binds K J ["self","web","r"] [])(oh:Mk K T.Tally B)(Β:ϓ P w K X base (Ε P w) 10 B J ["self","web","r"] (lV T))(kt:oT P w base T)(lg:lN P w base T):Ok P w K X base "worst_many" nS ["web","r","wanted"] 12 (wc T):=λ_ _ D=>by
 refine D.F.Ϙ Ec (by walk_at "v") λΑ A I s H vs Q E hr h=>?_;obtain⟨p,t,m,O,l,r,n,rfl,W,f,nb,a,i,R,k⟩:=h;have g:=W.go;refine⟨_,(aD (dz (Ν kt hr y (ah (ε 0) (ah (ε 1) (ah (ε 2) aB))))) (aO (bR (Ν lg hr y (ah (xN oh Β (hr.mono (by decide)) qj.g T.Dl U .nil (tN y) (ah (ε 0) (ah (ε 1) aB)) (hdb:=qj.d)) (ah (ε 1) (ah (bn iB (ε 2) aU) aB))))))),?_⟩;walk_at "s";walk_at "";refine⟨p,t,m,O,l,r,((n+1:Nat):Int),rfl,W,λ_ _ _=>?_,λz=>absurd f z,λ_ _ z=>absurd z (by lia)⟩;dsimp only;intro x q N u ne;have v:upd H q (.own x) x=none:=by rw[aR ne.symm];exact N
 have M:δ H (upd (upd H q (.own x)) x (.ins T.Tally q [])):=(δ.new _ u).trans (δ.new _ v);refine⟨x,q,p,t,m,O,l,r,rfl,ay,W.same M,f,a,i,R,λG ld lw lb lk lr kl Y H2 TA kp=>⟨rfl,?_⟩⟩;have s2:δ H H2:=λb o e=>kp b o (M b o e) (cq e N);obtain⟨_,lp,ϱ,h1,h2,h3,L⟩:=TA.ϛ r f;obtain⟨sr,es⟩:=vI (kd m l r a r);rw[es]at L;obtain⟨S,ob⟩:=TA.ob;have Z:=jF (fr:=ϝ m l r a i G) (be:=Ϩ m l r a i G) (c:=cK l a) g R f.1 f.2;have V:((n+1:Nat):Int)-1=(n:Int):=by lia
 have e4:(2:Nat)^4000<=2^4000:=ap _;cases L with
 | cons e he=>
   obtain⟨cs,c1,c2⟩:=e;have C:=c2.le (b':=15000) (tE (by have:=gc g R f.1 f.2;have:=md g R f.1 f.2;have:=g.Ο;lia));have cl:=C.len;rw[V];refine⟨x,S,lr,lp,_,_,Y,_,r,cs,n,rfl,ob,oM _ _ _ _ _ _,TA.hr,f.1,h1,h3,c1,by lia,hJ (k:=4000) (by lia) (by decide),λc hc=>hJ (C.bt c hc) (by decide),λj hj=>Cm (x:=4000) nb (by lia),λH3 s3=>?_⟩;rw[C.val];have:=k G H3 TA.or TA.et (s2.trans s3);unfold iD at this;rw[Z]at this;exact this
theorem Jy{m:Int}{b:hH}{r:Int}{a:d3}{c:fz}(g:Good m b)(R:ζ m b r a c)(k:Int)(e:0<=k)(d:k<m)(f:k≠r):1<=cK b a k/\cK b a k<=1000000:=by
 have:=fV g R e d f;unfold cK
 lia
def rQ(T:Txt K X):Sp:=λs H Q _=>E23 λ(o p t:Addr)(m:Int)(A:gg)(c:hH)(r:Int)(a:d3)(b:fz)(e:d2)(ld B y q n:Addr)(x:gg)(z:List V)(v:Int)(j i:Addr)(d f:d2)(h:Int)=>s=[.ref o,.int v,.ref j,.ref i]/\ϖ T.Web T.Tally H o p t m A c r a b e ld B y q n x z (λv=>0<=v/\v<m)/\(0<=v/\v<m)/\H j=some (.lst (d.map V.int))/\H i=some (.lst (f.map V.int))/\(d.length:Int)=m/\(f.length:Int)=m/\(∀u,0<=u->u<m->0<=d.getD u.toNat 0)/\d.getD v.toNat 0+1<=2^45/\((kd m c r a v).map λk=>d.getD k.toNat 0/tup c a k).sum<=d.getD v.toNat 0/\(∀u,0<=u->u<m->(f.getD u.toNat 0).natAbs<=2^(50000+600*ϐ m c r a b u))/\Rk (ϝ m c r a b e) (Ϩ m c r a b e) (λk g=>iD m c r a b e k (τ (cK c a k) g)) (kd m c r a v) (d.getD v.toNat 0).toNat ((kd m c r a v).map λk=>(k,(d.getD k.toNat 0/tup c a k).toNat,f.getD k.toNat 0)) h/\∀(l:Hp),h.natAbs<=2^(50000+600*ϐ m c r a b v)->δ H l->Q (.int h) l
abbrev ig:Stmt:=top 69
theorem lX:η ["tally","place","held","numbers","number","left","at","kid","given"] ["tally","place","held","numbers"] (aK ig):=.of
theorem nR:Zq (aK ig) "number":=.of (by kernel_rfl)
theorem ug:Zq (aK ig) "left":=.of (by kernel_rfl)
theorem rA:Ϝ (aK ig) "enumerate":=.of (by kernel_rfl)
theorem yg(T:Txt K X)(hq:cg (Ε P w))(kD:jm P w base T)(dA:ky P w base T)(kY:td P w base T):Ok P w K X base "number_beneath" ig ["tally","place","held","numbers"] 8 (rQ T):=λ_ _ D=>by
 refine D.F.Ϙ lX (by walk_at "v") λΑ A bt s H vs Q E hr h=>?_;obtain⟨o,p,t,m,ps,B,r,a,G,tl,ld,lw,lb,lk,lr,kl,rv,v,lh,ln,J,ns,WD,rfl,TA,I,eh,en,hl,nl,h0,hv,a4,nb,bl,q⟩:=h;have hu:=rR hr;have g:=TA.web.go;have R:=TA.rt;have dp:(kd m B r a v).length<=24:=zt g;refine⟨_,(aD (Δ 4 aU) (aD (Δ 5 (Ι bL (ε 2) (ε 1))) (aD (fm PassesOwn.never rfl (xW true rA.g T.enumerate (Ι bL (dB (ε 0) rfl) (ε 1))) (kN (n:=2) rfl (cA (ϒ 6) (cA (ϒ 7) iL))) (aD (Δ 8 (bn gO (Ι bL (ε 2) (ε 7)) (Ν kD hr hq (ah (dB (ε 0) rfl) (ah (ε 7) (ah (ε 1) aB)))))) (aD (sW (i:=4) lX.nd rfl (Or.inl nR.l) (Ν kY hr hq (ah (ε 0) (ah (ε 1) (ah (ε 6) (ah (ε 5) (ah (ε 8) aB)))))) xz) (aD (sW (i:=5) lX.nd rfl (Or.inl ug.l) (ε 8) GD) (aO (sW (i:=4) lX.nd rfl (Or.inl nR.l) (bn pD (Ι bL (ε 3) (ε 7)) (Ν dA hr hq (ah (Ι bL (mM bL (dB (ε 0) rfl) (ε 1) (λ_ _=>rfl)) (bn eT (ε 6) aU)) (ah (ε 5) aB)))) xz)))))) (aO (bR (ε 4)))))),?_⟩;walk_at "s";refine cL λN1 h1=>?_;walk_at "";refine h1 _ _ (cL λN2 h2=>?_);walk_at "";refine Υ eh (WC I.1 (by lia)) (h2 _ _ (cL λN3 h3=>?_));walk_at "";obtain⟨dx,ob⟩:=TA.ob;have a3:(b6 m.toNat)[v.toNat]?=some v:=by rw[fN (by lia),br I.1]
 obtain⟨ϻ,Xn,Wh⟩:=tf TA.kp a3;refine⟨T.Tally,dx,_,ob,T.cW,T.rz,_,pT _ _ _ _ _ _,Υ TA.hk (cT I.1 (by rw[aA,Xn];rfl)) ⟨ϻ,rfl,⟨_,ξ.of Wh⟩,?_⟩⟩;refine zp (K:=K) (c:=true) (xs:=(kd m B r a v).map V.int) (λi σ Y=>δ H Y/\E5 λ(Z left:Int)(v6 v7 v8:Option V)=>left=J.getD v.toNat 0-(((kd m B r a v).take i).map λk=>J.getD k.toNat 0/tup B a k).sum/\Z.natAbs<=i*2^(50000+600*ϐ m B r a G v-590)/\(∃nr,Rk (ϝ m B r a G tl) (Ϩ m B r a G tl) (λk g=>iD m B r a G tl k (τ (cK B a k) g)) ((kd m B r a v).drop i) left.toNat (((kd m B r a v).drop i).map λk=>(k,(J.getD k.toNat 0/tup B a k).toNat,ns.getD k.toNat 0)) nr/\WD=Z+nr)/\σ=[some (V.ref o),some (V.int v),some (V.ref lh),some (V.ref ln),some (V.int Z),some (V.int left),v6,v7,v8]) ⟨δ.refl _,0,_,_,_,_,(nO _).symm,bj _,⟨WD,bl,(cR _).symm⟩,rfl⟩ (λi σ Y y=>ξ.of (y.1 _ _ Wh)) ?_ ?_
 .rintro i x σ Y q' N hN hx ⟨s2,Z,left,v6,v7,v8,el,nn,⟨nr,rk,ack⟩,rfl⟩ nq;obtain⟨k,hk,rfl⟩:=List.μ hx;have il:=(az.mp hk).1;have s3:=s2.trans (δ.new (HO.tup [V.int (i:Int),V.int k]) nq);have aS:upd Y q' (HO.tup [V.int (i:Int),V.int k]) q'=some (.tup [V.int (i:Int),V.int k]):=ay;walk_at "";refine⟨_,Ξ.of aS,rfl,_,_,rfl,_,_,rfl,rfl,?_⟩;generalize upd Y q' (HO.tup [V.int (i:Int),V.int k])=H3 at s3 ⊢;have U:=TA.same s3;obtain⟨b1,bp⟩:=U.ob;obtain⟨b0,lp,Zc,Wc,Wd,cs,csk,C,c1,c2⟩:=U.co I hk;obtain⟨k1,k2,k3⟩:=(bw g R I.1 I.2).mp (aQ hk);have et:tup B a k=(cK B a k:Int):=by
   unfold tup;rw[k3,C.tl]
   rfl
  have ee:=C.c2.1;have cd:=C.c2.2;have ts:=F8 (f:=λk=>J.getD k.toNat 0/tup B a k) hk;have f0:∀u∈kd m B r a v,0<=J.getD u.toNat 0/tup B a u:=λu h=>by
   obtain⟨L,u2,u3⟩:=(bw g R I.1 I.2).mp h;exact ik (h0 u L.1 L.2) (by have:=(fV g R L.1 L.2 u2).1;lia)
  have WD:(((kd m B r a v).take (i+1)).map λk=>J.getD k.toNat 0/tup B a k).sum<=J.getD v.toNat 0:=by
   refine bE ?_ a4;have e:((kd m B r a v).map λk=>J.getD k.toNat 0/tup B a k).sum=(((kd m B r a v).take (i+1)).map λk=>J.getD k.toNat 0/tup B a k).sum+(((kd m B r a v).drop (i+1)).map λk=>J.getD k.toNat 0/tup B a k).sum:=(by rw[<-c9,<-aw,b8]);have:=Ca (f:=λk=>J.getD k.toNat 0/tup B a k) (l:=(kd m B r a v).drop (i+1)) λu h=>f0 u (b5 h)
   lia
  have t0:=Ca (f:=λk=>J.getD k.toNat 0/tup B a k) (l:=(kd m B r a v).take i) λu h=>f0 u (fU h);have fk:=f0 k (aQ hk);refine Υ (s3 _ _ eh) (WC k1.1 (by lia)) ⟨T.Tally,b1,_,bp,T.cW,T.RW,_,pJ _ _ _ _ _ _,p,t,m,ps,B,k,v,rfl,U.web,λc' _ _ _ _ YJ=>?_,λno=>absurd ⟨k1,I⟩ no,λ_ _ _ _ YJ=>absurd (C.tl.symm.trans YJ) (by intro z;cases z)⟩;have:c'=(cK B a k:Int):=bi (YJ.symm.trans C.tl);subst this;refine⟨_,rfl,_,rfl,⟨by lia,by lia⟩,?_⟩;rw[<-et];rw[ck il,bi ((ao il).symm.trans hk),aq]at rk;obtain⟨_,aC,S,ZJ⟩:=rk.Yj;generalize hg:J.getD k.toNat 0/tup B a k=gz at ts fk S ZJ ⊢;obtain⟨M,rfl⟩:∃M:Nat,gz=M:=⟨gz.toNat,by lia⟩;generalize hw:(((kd m B r a v).take i).map λk=>J.getD k.toNat 0/tup B a k).sum=S0 at ts el t0;rw[ts]at WD;obtain⟨O,rfl⟩:∃O:Nat,left=O:=⟨left.toNat,by lia⟩;rw[bJ,bJ]at S ZJ;obtain⟨lf,bS⟩:∃lf:Nat,(O:Int)-(M:Int)=lf:=⟨O-M,by lia⟩;have ad:O-M=lf:=by lia
  have bv:=IW (fr:=ϝ m B r a G tl) (be:=Ϩ m B r a G tl) (c:=cK B a) g R (Jy g R) I.1 I.2 hk c1 c2 (left:=O) (g:=M) (by lia);refine⟨o,p,t,lk,b0,lr,lp,Zc,Wc,Wd,m,ps,B,v,k,(O:Int),cK B a k,i,cs,csk,_,_,M,rfl,C,by lia,by lia,by lia,by lia,λH5 s5=>⟨_,rfl,?_⟩⟩;have ae:=s3.trans s5;have C5:=C.same s5;obtain⟨bk,bs,a2,db,eg,Z2⟩:=C5.ob;obtain⟨er,a1,cS,r1,r2,r3,r4,r5,r6⟩:=C5.re;have gl:ϲ a1 ((i:Int)+1)=some (.ref Zc):=cT (by lia) (by rw[show((i:Int)+1).toNat=i+1 by lia];exact r4);refine Υ (ae _ _ en) (WC k1.1 (by lia)) ⟨T.Tally,bk,bs,a2,T.cW,T.ϴ,_,Z2,Υ r1 (cT I.1 r2) ⟨_,rfl,Υ r3 gl ?_⟩⟩;rw[bS];have a0:=C.cl.1;refine⟨Zc,cs,(lf:Int),rfl,ξ.of C5.ed,by lia,by lia,hJ (k:=65) (by lia) (by decide),Bi C.cb.1,λj hj=>uE (by lia) (by lia) (by lia),λH6 s6=>?_⟩;rw[pB,c1.val];have wk:=Rj (m:=m.toNat) (cs:=cs) (csk:=csk) (c:=cK B a k) (z:=(O:Int)) (g:=M) (by have:=g.Ο;lia) (by lia) (by lia) (by lia) cd a0 C.cl.2 C.cb.1 C.cb.2;have wo:=(ya (fr:=ϝ m B r a G tl) (be:=Ϩ m B r a G tl) (W:=iD m B r a G tl) (c:=cK B a) (d:=ϐ m B r a G) (ks:=(kd m B r a v).drop (i+1)) (λu h=>by
   obtain⟨L,u2,u3⟩:=(bw g R I.1 I.2).mp (b5 h);exact Bd g R (Jy g R) _ L.1 L.2 (ap _)) λu h=>by
   obtain⟨L,u2,u3⟩:=(bw g R I.1 I.2).mp (b5 h);exact Jy g R u L.1 L.2 u2).2 45 lf (by lia)
  have d1:=sK (λk=>ϐ m B r a G k+1) (kd m B r a v) i;have a7:(kd m B r a v)[i]=k:=bi ((ao il).symm.trans hk);rw[gc g R I.1 I.2,ck il,a7,aq,aN]at d1;have dl:=md g R I.1 I.2;have Ο:=g.Ο;obtain⟨mo,a8⟩:=Rv (b:=if ϝ m B r a G tl k=true then Τ (ϩ (ϰ m.toNat (Ϲ cs csk (cK B a k) (O:Int)))) M 0 else 0) nn (by
   split
   .exact wk
   .exact bj _) (nb k k1.1 k1.2) wo d1 (by lia)
  exact⟨_,rfl,_,rfl,mo,hN _ _ ⟨ae.trans s6,_,_,_,_,_,by lia,a8,⟨aC,by rw[bJ,<-ad];exact S,by rw[bv,ack,ZJ,ad];unfold iD;lia⟩,rfl⟩⟩
 .rintro σ Y ⟨s2,Z,left,v6,v7,v8,el,nn,⟨nr,rk,ack⟩,rfl⟩;rw[aa]at nn rk;rw[f9]at rk;have:Z=WD:=by rw[ack,rk.dO,lF]
  subst this;refine h3 _ _ ?_;walk_at "";refine q Y (aL nn (aL (cY _ (show _<=2^5 by lia)) ?_)) s2;rw[<-eO];exact bB (by decide) (by lia)
def wT(T:Txt K X):Sp:=λn H Q _=>E22 λ(o p t:Addr)(m:Int)(z:gg)(c:hH)(r:Int)(a:d3)(b:fz)(e:d2)(ld A s l j:Addr)(q:gg)(x:List V)(f:Addr)(d:d2)(i y:fz)(h:d3)=>n=[.ref o,.ref f]/\ϖ T.Web T.Tally H o p t m z c r a b e ld A s l j q x (λv=>0<=v/\v<m)/\(0<=r/\r<m)/\H f=some (.lst (d.map V.int))/\(d.length:Int)=m/\(∀u,0<=u->u<m->0<=d.getD u.toNat 0/\d.getD u.toNat 0+1<=2^45/\((kd m c r a u).map λk=>d.getD k.toNat 0/tup c a k).sum<=d.getD u.toNat 0)/\ϳ m c r a b (ϝ m c r a b e) (Ϩ m c r a b e) (cK c a) i y h/\(∀u,0<=u->u<m->d.getD u.toNat 0=i u)/\∀(g:Hp),δ H g->Q (.int (h r)) g
abbrev oN:Stmt:=top 68
theorem Fk:η ["tally","held","numbers","place"] ["tally","held"] (aK oN):=.of
theorem uY:Ϝ (aK oN) "reversed":=.of (by kernel_rfl)
theorem EZ(T:Txt K X)(hq:cg (Ε P w))(oY:Cb P w K X base "number_beneath" ig ["tally","place","held","numbers"] 8 (rQ T)):Ok P w K X base "number_of" oN ["tally","held"] 9 (wT T):=λ_ _ D=>by
 refine D.F.Ϙ Fk (by walk_at "v") λΑ A ae s H vs Q E hr h=>?_;obtain⟨o,p,t,m,ps,f,r,a,b,tl,ld,lw,lb,lk,lr,kl,rv,lh,hs,cn,gv,j,rfl,TA,rm,eh,hl,hh,NS,J,q⟩:=h;have n:=rR hr;have g:=TA.web.go;have R:=TA.rt;have m1:=g.m1;have Ο:=g.Ο;refine⟨_,(aD (Δ 2 (bn sG (eD (ah aU aB)) (dB (dB (ε 0) rfl) rfl))) (aD (fm PassesOwn.never rfl (sR uY.g T.reversed (dB (ε 0) rfl)) (ϒ 3) (aO (nI (Ν oY hr hq (ah (ε 0) (ah (ε 3) (ah (ε 1) (ah (ε 2) aB))))) (rf (ε 2) (ε 3) mO)))) (aO (bR (Ι bL (ε 2) (mM bL (dB (ε 0) rfl) aU (λ_ _=>rfl))))))),?_⟩;walk_at "s";refine cL λN1 h1=>?_;walk_at "";obtain⟨dx,ob⟩:=TA.ob;obtain⟨dw,wb⟩:=TA.web.ob;refine⟨cm (by simp),λO ai=>?_⟩;have I:=δ.new (HO.lst [V.int 0]) ai;have e0:upd H O (HO.lst [V.int 0]) O=some (.lst [V.int 0]):=ay;generalize upd H O (HO.lst [V.int 0])=H0 at I e0 ⊢;refine⟨T.Tally,dx,_,I _ _ ob,T.cW,T.RW,_,pJ _ _ _ _ _ _,p,rfl,T.Web,dw,_,I _ _ wb,T.lI,T.ϕ,_,jY _ _,O,m,_,rfl,rfl,e0,by lia,by lia,cm (by show 1*m.toNat<=100000;lia),λG Y5=>h1 _ _ (cL λN2 h2=>?_)⟩;rw[Lh,<-iw];have M:=I.trans (δ.new (HO.lst ((List.replicate m.toNat (0:Int)).map V.int)) Y5);have e1:upd H0 G (HO.lst ((List.replicate m.toNat (0:Int)).map V.int)) G=some (.lst ((List.replicate m.toNat (0:Int)).map V.int)):=ay;have Y:=I.free Y5;generalize upd H0 G (HO.lst ((List.replicate m.toNat (0:Int)).map V.int))=H1 at M e1 ⊢;walk_at "";refine⟨T.Tally,dx,_,M _ _ ob,T.cW,T.uL,_,qg _ _ _ _ _ _,?_⟩;refine⟨ld,rfl,_,ξ.of (M _ _ TA.hd),?_⟩;have pr:∀u∈bO m f r a b r,0<=u/\u<m:=λu n=>by
  rw[TA.et]at n;rcases ax.mp n with rfl|y
  .exact rm
  .exact TA.or.Χ u y
 refine qz (K:=K) (xs:=(bO m f r a b r).map V.int) (λi S C=>δ H C/\∃(l:d2)(v3:Option V),C G=some (.lst (l.map V.int))/\(l.length:Int)=m/\(∀u,0<=u->u<m->(l.getD u.toNat 0).natAbs<=2^(50000+600*ϐ m f r a b u))/\(∀u∈(bO m f r a b r).reverse.take i,l.getD u.toNat 0=j u)/\S=[some (V.ref o),some (V.ref lh),some (V.ref G),v3]) ⟨M,_,none,e1,by rw[cV];lia,λu _ _=>?_,λu n=>(by cases n),rfl⟩ (λi S C _ z=>ξ.of (z.1 _ _ TA.hd)) ?_ ?_
 .rw[aX,fD];split<;>exact bj _
 .rintro i x S C N hN hx ⟨s5,l,v3,e5,nl,nb,dn,rfl⟩;rw[<-d9]at hx;obtain⟨v,hv,rfl⟩:=List.μ hx;have d:=pr v (dJ.mp (aQ hv));have W:∀k∈kd m f r a v,k∈(bO m f r a b r).reverse.take i:=by
   have L:=hv;rw[TA.et]at L ⊢;exact Mc g R TA.or L d.1 d.2
  have eF:((kd m f r a v).map λk=>(k,(hs.getD k.toNat 0/tup f a k).toNat,l.getD k.toNat 0))=(kd m f r a v).map λk=>(k,gv k,j k):=bZ λk hk=>by
   obtain⟨B,k2,k3⟩:=(bw g R d.1 d.2).mp hk;have t2:=(fV g R B.1 B.2 k2).1;have e:=CY (c:=cK f a k) (i:=gv k) (by unfold cK;lia);rw[<-NS.up k B.1 B.2 k2,show((cK f a k:Nat):Int)=tup f a k from br (by lia)]at e;rw[dn k (W k hk),J k B.1 B.2,e,Jf t2,bJ]
  walk_at "";refine⟨o,p,t,m,ps,f,r,a,b,tl,ld,lw,lb,lk,lr,kl,rv,v,lh,G,hs,l,j v,rfl,TA.same s5,d,s5 _ _ eh,e5,hl,nl,λu U Z=>(hh u U Z).1,(hh v d.1 d.2).2.1,(hh v d.1 d.2).2.2,nb,by rw[eF,J v d.1 d.2];exact NS.at_ v d.1 d.2,λH6 xb s6=>?_⟩;refine wC (s6 _ _ e5) d.1 (by rw[aa];lia) (hN _ _ ⟨(s5.trans s6).put Y _,l.set v.toNat (j v),_,by rw[ay,<-gX],by rw[eR];exact nl,λu U Z=>?_,λu n=>?_,rfl⟩)
  .rw[zL _ _ _ _ (by lia)];by_cases c:u=v
   .rw[c,aj rfl];exact xb
   .rw[ag (by lia)];exact nb u U Z
  .rw[zL _ _ _ _ (by lia)];by_cases c:u=v
   .rw[c,aj rfl]
   .rw[cz,hv]at n;have U:=(pr u (dJ.mp ((aY.mp n).elim fU λy=>absurd (aI.mp y) c))).1;rw[ag (by lia)];exact dn u ((aY.mp n).resolve_right λy=>c (aI.mp y))
 .rintro S C ⟨s5,l,v3,e5,nl,nb,dn,rfl⟩;refine h2 _ _ ?_;walk_at "";have gd:ϲ ((bO m f r a b r).map V.int) 0=some (V.int r):=by
   rw[TA.et];exact cT (b9 0) rfl
  exact⟨T.Tally,dx,_,s5 _ _ ob,T.cW,T.uL,_,qg _ _ _ _ _ _,Υ (s5 _ _ TA.hd) gd (Υ e5 (WC rm.1 (by lia)) (by rw[dn r (by rw[aa,<-bc,bx,dJ,TA.et];exact .head _)];exact q C s5))⟩
def tU(T:Txt K X):Sp:=λk H Q E=>E10 λ(p a t:Addr)(c:Bool)(m:Int)(n:gg)(e:hH)(g:d2)(r w:Int)=>k=[.ref p,.int r,.int w,.ref a]/\χ T.Web H p m t n e/\Ϫ K c H a (g.map V.int)/\g.length<=1000/\w<=10^60/\-(10^60)<=w/\(0<=r->r<m->1<=w->∃b d,ζ m e r b d/\(1000000000000<gE m e r b (dD m e r b d) w+1->∀f,δ H f->E (.ref T.TooMany) none f)/\(gE m e r b (dD m e r b d) w+1<=1000000000000->(fT m g=false->∀f,δ H f->E (.ref T.BadLaying) none f)/\(fT m g=true->((g.sum=gE m e r b (dD m e r b d) w/\Φ m e r b d (λv=>g.getD v.toNat 0) (Η e b) r<w)->∀h,Order m r b h->bO m e r b d r=r::h->E3 λ(j l:fz)(i:d3)=>ϳ m e r b d (ϝ m e r b d h) (Ϩ m e r b d h) (cK e b) j l i/\(∀u,0<=u->u<m->Φ m e r b d (λv=>g.getD v.toNat 0) (Η e b) u=j u)/\∀(f:Hp),δ H f->Q (.int (i r)) f)/\(¬(g.sum=gE m e r b (dD m e r b d) w/\Φ m e r b d (λv=>g.getD v.toNat 0) (Η e b) r<w)->∀f,δ H f->E (.ref T.NoNumber) none f))))/\(¬(0<=r/\r<m)->∀f,δ H f->E (.ref T.NoPlace) none f)/\(0<=r->r<m->w<1->∀f,δ H f->E (.ref T.BadWish) none f)
abbrev kC:Stmt:=top 54
theorem Bb:η ["web","r","wanted","laying"] ["web","r","wanted","laying"] (aK kC):=.of
theorem nP:Ϝ (aK kC) "NoNumber":=.of (by kernel_rfl)
theorem pI:Ϝ (aK kC) "Tally":=.of (by kernel_rfl)
abbrev t4(P w base)(T:Txt K X):=Cb P w K X base "is_worst" pM ["web","r","wanted","laying"] 10 (uz T)
theorem AG(T:Txt K X)(hq:cg (Ε P w)){ι:Addr}{eE:FuncData}(gH:Ye K "__init__" "Tally.__init__" eU ι eE)(ou:Binds K eE ["self","web","r"] [])(oh:Mk K T.Tally ι)(Β:ϓ P w K X base (Ε P w) 10 ι eE ["self","web","r"] (lV T))(my:ti P w base T)(oB:p5 P w base T)(om:t4 P w base T)(uj:Cb P w K X base "number_of" oN ["tally","held"] 9 (wT T)):Ok P w K X base "worst_number" kC ["web","r","wanted","laying"] 12 (tU T):=λ_ _ D=>by
 refine D.F.W0 Bb (by walk_at "v") λΑ A ae s H vs Q E J h=>?_;obtain⟨p,a,t,c,m,L,j,n,r,w,rfl,W,ha,hl,w2,w0,k,e,e'⟩:=h;have g:=W.go;refine⟨_,(aD (dz (ϡ my J dW (ah (ε 0) (ah (ε 1) (ah (ε 2) aB))))) (aD (eK (kK (mq (ϡ om J dW (ah (ε 0) (ah (ε 1) (ah (ε 2) (ah (ε 3) aB))))))) (aO (py T.rY rfl qL nP.g T.BN (ah tD aB) (hdb:=nP.d))) dy) (aO (bR (ϡ uj J dW (ah (xN oh Β (J.mono (by decide)) pI.g T.Dl ou .nil dW (ah (ε 0) (ah (ε 1) aB)) (hdb:=pI.d)) (ah (ϡ oB J dW (ah (ε 0) (ah (ε 3) (ah (ε 1) aB)))) aB))))))),?_⟩;walk_at "s";walk_at "";refine⟨p,t,m,L,j,r,w,rfl,W,w2,w0,λG I w1=>?_,e,e'⟩;obtain⟨f,i,R,k2,N⟩:=k G I w1;refine⟨f,i,R,λcb H1 O=>?_,k2⟩;obtain⟨k3,k4⟩:=N cb;refine⟨p,a,t,c,m,L,j,n,r,w,rfl,W.same O,δ.WX O ha,hl,w2,w0,λ_ _ _=>⟨f,i,R,λfi C s2=>⟨_,rfl,?_⟩,λfi C s2=>k3 fi C (O.trans s2)⟩,λz=>absurd ⟨G,I⟩ z,λ_ _ z=>absurd z (by lia)⟩;obtain⟨k5,k6⟩:=k4 fi;have U:=O.trans s2;by_cases M:n.sum=gE m j r f (dD m j r f i) w/\Φ m j r f i (λv=>n.getD v.toNat 0) (Η j f) r<w
 .rw[bh M.1,bh M.2,ag (by decide)];intro x S hx V ne;have Y:upd C S (.own x) x=none:=by rw[aR ne.symm];exact hx
  have s0:δ C (upd (upd C S (.own x)) x (.ins T.Tally S [])):=(δ.new _ V).trans (δ.new _ Y);refine⟨x,S,p,t,m,L,j,r,rfl,ay,(W.same U).same s0,⟨G,I⟩,f,i,R,λtl ld lw lb lk lr kl rv H3 TA kp=>⟨rfl,?_⟩⟩;have s3:δ C H3:=λb o e=>kp b o (s0 b o e) (cq e hx);have Y1:=U.trans s3;have x0:=ML fi;refine⟨p,a,t,c,m,L,j,n,r,rfl,W.same Y1,δ.WX Y1 ha,hl,λ_ _ _=>⟨f,i,R,λl H4 nl s4 el=>?_⟩,(λz=>by rw[fi]at z;cases z),λ_ z=>absurd ⟨G,I⟩ z⟩;have ad:((qF m j r f i (λv=>n.getD v.toNat 0) (Η j f)).length:Int)=m:=by
   have:=g.m1;unfold qF;rw[aa,b7]
   lia
  have Z:∀v:Int,0<=n.getD v.toNat 0/\n.getD v.toNat 0<=1000000000000:=λv=>by
   rw[List.getD];cases e:n[v.toNat]? with
   | none=>exact⟨b9 _,(by decide:(0:Int)<=1000000000000)⟩
   | some y=>
     have h1:=x0 y (aQ e);have h2:=Dc x0 (aQ e);exact⟨h1,show y<=_ by lia⟩
  obtain⟨cn,gv,nb,NS,ec,kq⟩:=k5 M tl TA.or TA.et;refine⟨x,p,t,m,L,j,r,f,i,tl,ld,lw,lb,lk,lr,kl,rv,l,_,cn,gv,nb,rfl,TA.same s4,⟨G,I⟩,el,ad,λu B q=>?_,NS,λu B q=>by rw[qC B q];exact ec u B q,λH5 s5=>kq H5 (Y1.trans (s4.trans s5))⟩;have d:=md g R B q;have Ο:=g.Ο;have ZT:=Ii g R Z _ u rfl B q;rw[qC B q];refine⟨wY g (λv=>(Z v).1) u,by lia,?_⟩;rw[nL g R B q];have h1:=(Z u).1;have e:((kd m j r f u).map λk=>(qF m j r f i (λv=>n.getD v.toNat 0) (Η j f)).getD k.toNat 0/tup j f k).sum=((bQ m j (front r f u) u).map λc=>Η j f c (Φ m j r f i (λv=>n.getD v.toNat 0) (Η j f) c)).sum:=qy λk hk=>by
   obtain⟨N,_,_⟩:=(bw g R B q).mp hk;rw[qC N.1 N.2]
   rfl
  rw[e]
  lia
 .rw[show(decide (n.sum=gE m j r f (dD m j r f i) w)&&decide (Φ m j r f i (λv=>n.getD v.toNat 0) (Η j f) r<w))=false by
   rw[<-Bool.decide_and];exact bA M]
  exact⟨cm (by simp),k6 M _ U⟩
theorem Cq{b:hH}{N:Int}{par:d3}(c:1<=N)(h:∀x∈b,x.t<=N/\x.u<=N)(v:Int):tup b par v<=N:=by
 unfold tup;cases hk:cP b v (par v)with
 | none=>exact c
 | some k=>
   show k<=N;unfold cP at hk;obtain⟨x,d,a⟩:=List.exists_of_findSome?_eq_some hk;have:=h x d;unfold iW at a;split at a
   .injection a with a;lia
   .split at a
    .injection a with a;lia
    .cases a
theorem RZ{m r w:Int}{d:hH}{a:d3}{b:fz}{p n:Int->Bool}{c:fz}{u:d2}(B:Ϛ m d r a b u p n c)(g:Good m d)(R:ζ m d r a b)(h:0<=r)(l:r<m)(f k:d2)(s:YB m d r a b w f)(q:YB m d r a b w k)(e:XM m d r a b f=XM m d r a b k):f=k:=by
 obtain⟨i,v⟩:=s.num B g R h l;obtain⟨j,t⟩:=q.num B g R h l;have o:=v.order B g R h l t;exact o.2.1.mpr (o.2.2.mp e)
theorem R5{m r w:Int}{l:hH}{j:d3}{k:fz}{p o:Int->Bool}{c:fz}{E:d2}(B:Ϛ m l r j k E p o c)(g:Good m l)(R:ζ m l r j k)(q:0<=r)(t:r<m)(H:wy m l r j k p o c r (w-1).toNat<64)(n:List (List Int))(y:n.Nodup)(A:∀d∈n,YB m l r j k w d):n.length<64:=by
 have v:∀d,∃i,d∈n->Num m l r j k p o c w d i:=λd=>by
  by_cases h:d∈n
  .obtain⟨i,u⟩:=(A d h).num B g R q t;exact⟨i,λ_=>u⟩
  .exact⟨0,λz=>absurd z h⟩
 obtain⟨f,s⟩:∃f:List Int->Int,∀d∈n,Num m l r j k p o c w d (f d):=⟨λd=>(v d).choose,λd h=>(v d).choose_spec h⟩;have F:(n.map f).Nodup:=by
  show List.Pairwise _ (List.map _ _);rw[fP];exact y.imp_of_mem λ{a b} ha hb ne e=>ne (((s a ha).order B g R q t (s b hb)).2.1.mpr e)
 have le:=pf F (l':=b6 (wy m l r j k p o c r (w-1).toNat).toNat) λi u=>by
  obtain⟨d,C,rfl⟩:=aP.mp u;obtain⟨_,D,I,J,N,G,x,_⟩:=s d C;have:=N.bd g R q t;rw[show D r=(w-1).toNat by lia,x]at this;exact dN.mpr ⟨this.1,by lia⟩
 rw[aa,b7]at le
 lia
def EH(K:f5):Sp:=λc H Q _=>∃(a:Addr)(b:d2),c=[.ref a]/\ξ K H a (b.map V.int)/\b.length<=63/\∀d,Q (.bl true) d
def Vm(T:Txt K X):Sp:=EH K
abbrev ow:Stmt:=top 84
theorem TD:η ["script","numbers","many","roads","tolls","r","order","wanted","web","held","due","found","number","laying","told","place","piled"] ["script"] (aK ow):=.of
theorem BD:Ϝ (aK ow) "Web":=.of (by kernel_rfl)
theorem wx:Ϝ (aK ow) "range":=.of (by kernel_rfl)
theorem sP:Ϝ (aK ow) "tuple":=.of (by kernel_rfl)
theorem SO(T:Txt K X)(U:cg (Ε P w)){f:Addr}{fd:FuncData}(D:Df K X "law" ow ["script"] f fd){υ:Addr}{qd:FuncData}(og:Ye K "__init__" "Web.__init__" jd υ qd)(JB:Binds K qd ["self","many","roads"] [])(Ko:Mk K T.Web υ)(eQ:ϓ P w K X base (Ε P w) 3 υ qd ["self","many","roads"] (qf T))(vq:Cb P w K X base "_law_down" mQ ["many","tolls","r"] 1 (yP T))(wV:Cb P w K X base "_law_due" rq ["many","tolls","order","wanted","held"] 2 (Bp T))(rL:Cb P w K X base "_law_numbers" mX ["script","many"] 2 (uU T))(ut:Cb P w K X base "_law_small" qT ["numbers"] 3 (xo T))(ux:Cb P w K X base "_law_tolls" qO ["roads"] 1 (xn T))(ko:Cb P w K X base "_law_whole" m6 ["found"] 1 (wA T))(mT:p6 P w base T)(om:t4 P w base T)(vy:Cb P w K X base "worst_at" nX ["web","r","wanted","number"] 12 (yT T))(sY:Cb P w K X base "worst_many" nS ["web","r","wanted"] 12 (wc T))(qI:Cb P w K X base "worst_number" kC ["web","r","wanted","laying"] 12 (tU T)):ϓ P w K X base (Ε P w) 13 f fd ["script"] (Vm T):=by
 refine D.F.Ϙ TD (by walk_at "v") λΑ A fb s H vs Q E S h=>?_;obtain⟨a,ns,rfl,ha,hn,k⟩:=h;have hv:=S.units;have hu:=rR S;refine⟨_,(aD (Δ 1 (Ν rL S U (ah (ε 0) (ah aU aB)))) (aD (nI (Ν ut S U (ah (ε 1) aB)) (kN (n:=2) rfl (cA (ϒ 2) (cA (ϒ 3) iL)))) (aD (Δ 4 (Ν ux S U (ah (ε 3) aB))) (aD (Δ 5 (bn fQ (Ι bL (ε 1) aU) (ε 2))) (aD (Δ 6 (Ν vq S U (ah (ε 2) (ah (ε 4) (ah (ε 5) aB))))) (aD (Δ 7 (bn eT aU (bn fQ (Ι bL (ε 1) aU) (Ι bL (eD (ah aU (ah aU aB))) (Y8 wu T.int (ah (m8 jX (ε 2) aU (mV _)) aB)))))) (aD (Δ 8 (xN Ko eQ (S.mono (by decide)) BD.g T.Vz JB .nil (tN U) (ah (ε 2) (ah (Y8 me T.list (ah (ε 3) aB)) aB)) (hdb:=BD.d))) (aD (Δ 9 (bn iB (Ν mT S U (ah (ε 8) (ah (ε 5) (ah (ε 7) aB)))) aU)) (aD (eK (PW.pt (BS (Ϻ pY (ε 9) aU) (wI (Ϻ Q8 (ε 9) aU)))) (aO (bR rV)) dy) (aD (Δ 10 (Ν wV S U (ah (ε 2) (ah (ε 4) (ah (ε 6) (ah (ε 7) (ah (ε 9) aB))))))) (aD (Δ 11 (Ν sY S U (ah (ε 8) (ah (ε 5) (ah (ε 7) aB))))) (aD (eK (PW.pt (BS (kK (mq (Ν ko S U (ah (ε 11) aB)))) (wI (Ϻ sj (ε 11) (W4 kG T.len (ah (ε 10) aB)))))) (aO (bR rV)) dy) (aD (fm PassesOwn.never rfl (iP wx.g T.range (ah (ε 11) aB)) (ϒ 12) (aD (Δ 13 (Ν vy S U (ah (ε 8) (ah (ε 5) (ah (ε 7) (ah (ε 12) aB)))))) (aD (eK (PW.pt (BS (kK (mq (W4 uq T.isinstance (ah (ε 13) (ah (Co (v:=.ty "tuple") sP.g T.tuple Fo rfl (hn:=sP.n) (hd:=sP.d)) aB))))) (wI (Ϻ (Md hv) (Y8 me T.list (ah (ε 13) aB)) (Ι bL (ε 10) (ε 12)))))) (aO (bR rV)) dy) (aD (eK (kK (mq (W4 (Ga rfl) T.all (ah (gW rfl (tj (Nc:=["held_there"]) 1 (by decide +kernel) (by decide +kernel) rfl (by decide +kernel) rfl) (uT (ε 13)) (λ_ _ _ _=>(fj (i:=0) (show(["held_there"]:gy).Nodup from by decide +kernel) rfl (Or.inl rfl))) (λ_ _ _ _=>jh) (λ_ _ _ _=>(qD ko.G (S.mono (by decide)) (by rfl) ko.D.m ko.D.F.kp ko.D.b .nil (tN U) (ah (pv 0) aB)))) aB)))) (aO (bR rV)) dy) (aD (Δ 14 (Ν qI S U (ah (ε 8) (ah (ε 5) (ah (ε 7) (ah (Y8 me T.list (ah (Ι bL (ε 10) (ε 12)) aB)) aB)))))) (aO (eK (PW.pt (BS (kK (mq (Ν ko S U (ah (ε 14) aB)))) (wI (Ϻ sj (ε 14) (ε 12))))) (aO (bR rV)) dy))))))) (aD (fm PassesOwn.never rfl (iP wx.g T.range (ah (ε 2) aB)) (ϒ 15) (aD (Δ 16 (bn sG (eD (ah aU aB)) (ε 2))) (aD (nI (ε 9) (rf (ε 16) (ε 15) mO)) (aO (eK (Ct sj (Ν om S U (ah (ε 8) (ah (ε 5) (ah (ε 7) (ah (ε 16) aB))))) (m8 (Uu hv) (ε 16) (ε 10) (by with_unfolding_all rfl)) (mV _)) (aO (bR rV)) dy))))) (aO (bR rV)))))))))))))))),?_⟩;walk_at "s";refine cL λN1 h1=>?_;walk_at "";refine⟨a,ns,30,rfl,ha,by decide,by decide,λln nu H1 n1 s1 en ct=>h1 _ _ (cL λN2 h2=>?_)⟩;obtain⟨n0,nu,rfl⟩:∃n0 X0,nu=n0::X0:=by
  cases nu with
  | nil=>simp at ct
  | cons x y=>exact⟨x,y,rfl⟩
 rw[aF]at ct;walk_at "";refine⟨ln,n0,nu,rfl,en,by lia,by lia,λt l m ps o H2 nt nl s2 et el ro g m4 sm=>?_⟩;have m1:=g.m1;have WQ:=s1.trans s2;refine⟨t,rfl,_,Ξ.of et,rfl,_,_,rfl,_,_,rfl,rfl,h2 _ _ (cL λN3 h3=>?_)⟩;walk_at "";refine⟨l,ps,m,o,rfl,el,ro,g,λd H3 nd s3 ta=>h3 _ _ (cL λN4 h4=>?_)⟩;have bv:=s2.trans s3;have L:=WQ.trans s3;walk_at "";refine Υ (bv _ _ en) (WC (by decide) (by rw[aF];lia)) ⟨_,rfl,by lia,?_⟩;have I:=dG ((n0::nu).getD (25:Int).toNat 0) (show m≠0 by lia);have J:=cN ((n0::nu).getD (25:Int).toNat 0) (show 0<m by lia);generalize (n0::nu).getD (25:Int).toNat 0%m=r at I J ⊢;obtain⟨par,e,R⟩:=B0 g I J;refine h4 _ _ (cL λN5 h5=>?_);walk_at "";refine⟨d,o,m,r,rfl,ta,g,⟨I,J⟩,par,e,R,λlo qs tl H4 no s4 eo pa O=>h5 _ _ (cL λN6 h6=>?_)⟩;have db:=L.trans s4;have cS:=ta.same s4;have f0:=O.XE I J;have cW:=(s3.trans s4) _ _ el;have cs:=ν.same (s3.trans s4) ro;have c2:=(bv.trans s4) _ _ en;clear h1 h2 h3 h4 h5 WQ L bv s2 s3 s4 s1 en et el ro;walk_at "";refine Υ c2 (WC (by decide) (by rw[aF];lia)) ⟨cm (by simp),λpw ZW=>.inr ?_⟩;obtain⟨dd,c0,dx⟩:∃dd:Int,ϲ [V.int 3,V.int 2] (if m=4 then 1 else 0)=some (.int dd)/\(m=4/\dd=2\/m<=3/\dd=3):=by
  by_cases c:m=4
  .exact⟨2,by rw[aj c];rfl,.inl ⟨c,rfl⟩⟩
  .exact⟨3,by rw[ag c];rfl,.inr ⟨by lia,rfl⟩⟩
 have s5:=δ.new (HO.lst [V.int 3,V.int 2]) ZW;refine Υ ay c0 ⟨_,rfl,_,rfl,by lia,h6 _ _ (cL λN7 h7=>?_)⟩;have w0:=dG ((n0::nu).getD (26:Int).toNat 0) (show dd≠0 by lia);have w1:=cN ((n0::nu).getD (26:Int).toNat 0) (show 0<dd by lia);generalize (n0::nu).getD (26:Int).toNat 0%dd=w' at w0 w1 ⊢;obtain⟨w,ew⟩:∃w,w=1+w':=⟨_,rfl⟩;rw[<-ew];have w3:1<=w:=by lia
 have w4:w<=dd:=by lia
 generalize upd H4 pw (HO.lst [V.int 3,V.int 2])=H5 at s5 ⊢;have dg:=db.trans s5;have c3:=cS.same s5;have cx:=s5 _ _ eo;have cf:=Μ.same s5 pa;have c4:=s5 _ _ cW;have dk:=ν.same s5 cs;clear h6 db s5 cS eo pa cW cs c2 c0 ew w0 w1 ZW;walk_at "";refine⟨_,.inl (ξ.of c4),λq nq=>?_⟩;have s8:=δ.new (.lst (ps.map V.ref)) nq;refine Ug T (c:=true) (ξ.of ay) (ν.same s8 dk) g λx tw H8 hx fw Z W=>h7 _ _ (cL λN8 h8=>?_);have ad:=s8.trans Z;have ij:=dg.trans ad;have cl:=c3.same ad;have c5:=ad _ _ cx;have dt:=Μ.same ad cf;clear h7 dg s8 Z ad c3 cx cf c4 dk nq hx fw;have am:w<=10^60:=bE (show w<=3 by lia) (by decide);walk_at "";refine⟨x,tw,m,ps,o,r,w,rfl,W,am,by lia,λ_ _ _=>⟨par,e,R,λH9 Z=>⟨_,rfl,h8 _ _ (cL λN9 h9=>?_)⟩⟩,λz=>absurd ⟨I,J⟩ z,λ_ _ z=>absurd z (by lia)⟩;obtain⟨Y,et,Or⟩:∃Y,bO m o r par e r=r::Y/\Order m r par Y:=L8 g R I J;have B:Ϛ m o r par e Y (ϝ m o r par e Y) (Ϩ m o r par e Y) (cK o par):=Ϛ.mk et Or (λ_=>rfl) (λ_=>rfl) λ_=>rfl;have aS:=Lr g R I J et Or w3 (by
  rcases dx with⟨a,b⟩|⟨a,b⟩
  .exact .inr ⟨a,by lia,λv _ _ _=>Cq (by decide) (λx hx=>(sm x hx).2.2 a) v⟩
  .exact .inl ⟨a,by lia,λv _ _ _=>Cq (by decide) (λx hx=>⟨(sm x hx).1,(sm x hx).2.1⟩) v⟩)
 obtain⟨h,eh⟩:∃h,h=gE m o r par (dD m o r par e) w:=⟨_,rfl⟩;rw[<-eh]at aS ⊢;rw[show h+1-1=h by lia];have ZT:=B.ZT g R I J (n:=(w-1).toNat) (by
  rcases dx with⟨a,b⟩|⟨a,b⟩
  .refine .inr ⟨a,by lia,λk=>?_⟩;unfold cK;have:=Cq (par:=par) (show(1:Int)<=2 by decide) (λx hx=>(sm x hx).2.2 a) k
   lia
  .exact .inl ⟨a,by lia⟩)
 walk_at "";rw[ag (by lia),ag (by lia)];refine h9 _ _ (cL λix ci=>?_);have dK:=cl.same Z;have du:=Z _ _ c5;have co:=Μ.same Z dt;have W9:=W.same Z;clear h8 h9 cl c5 dt W Z;walk_at "";refine⟨d,lo,qs,o,tl,m,r,w,h,par,e,rfl,dK,g,R,du,co,O,f0,⟨I,J⟩,m4,aS.1,aS.2,eh,RZ B g R I J,R5 B g R I J ZT,λld pd ds hM jf dp ed ls bt c1=>ci _ _ (cL λjs dr=>?_)⟩;obtain⟨dl,dn⟩:=RL B g R I J w3 bt c1;have bp:=W9.same dp;clear ci dK du co W9 dp c1;walk_at "";obtain⟨n,e6⟩:∃n:Nat,w=((n+1:Nat):Int):=⟨(w-1).toNat,by lia⟩;have en:(w-1).toNat=n:=by lia
 refine⟨x,tw,m,ps,o,r,n,by rw[e6],bp,⟨I,J⟩,aL (show n+1<=10^60 by lia) (by decide),par,e,R,λeH ef e7 an al=>dr _ _ (cL λie e5=>?_)⟩;have tt:Y=eH:=(d6 (et.symm.trans an)).2;subst tt;obtain⟨C,eC⟩:∃C,C=iD m o r par e Y r n:=⟨_,rfl⟩;rw[<-eC];rw[en]at dl ZT;have dl:(ds.length:Int)=C:=dl.trans eC.symm;have cp:=bp.same al;have bm:=al _ _ ed;have b2:=Κ.same al ls;clear dr bp al ed ls an e7;have pl:pd.length=ds.length:=Paired.length b2;walk_at "";refine⟨_,rfl,_,rfl,?_⟩;rw[ag (by decide)];refine⟨_,.inl (ξ.of bm),?_⟩;rw[ag (by rw[aa];lia)];refine e5 _ _ (cL λi2 fs=>?_);walk_at "";refine⟨by lia,by lia,?_⟩;refine vO (lo:=0) (λi σ ae=>δ ef ae/\E3 λ(au aC a2:Option V)=>σ=[some (V.ref a),some (V.ref ln),some (V.int m),some (V.ref l),some (V.ref d),some (V.int r),some (V.ref lo),some (V.int w),some (V.ref x),some (V.int h),some (V.ref ld),some (V.int C),au,aC,a2,none,none]) ⟨δ.refl _,_,_,_,rfl⟩ ?_ ?_
 .rintro i σ ae N BB ϗ hN hi ⟨WQ,au,aC,a2,rfl⟩;have dO:=cp.same WQ;have eb:=WQ _ _ bm;have fv:=Κ.same WQ b2;refine ϗ _ _ (cL λM1 k1=>?_);rw[show(0:Int)+(i:Int)=(i:Int) by lia];walk_at "";obtain⟨q,xs,_,g1,g2,g3⟩:=fv.get (i:=i) (x:=V.ref (pd.getD i 0)) (by rw[aA,aX,ao (by lia)];rfl);have nx:=dn i xs g2;obtain⟨⟨xl,x0,ep,xg⟩,_⟩:=nx.about B g R I J;obtain⟨_,cn,gv,nb,NS,fc,ee,xv⟩:=id nx;have SP:=NS.adP g R Or (λ_=>rfl) (λ_=>rfl) λ_=>rfl;rw[fc]at SP;have eg:=SP.Φ g R xv;have fg:=DH xl x0;have gq:∀{H':Hp},δ ae H'->∀{Q':VK},Q' (V.ref q) H'->zq K (.ref ld) (.int i) H' Q':=λ{_} s' {_} q'=>Υ (s' _ _ eb) (cT (by lia) (v:=V.ref q) (by rw[bJ,aA,g1];rfl)) q';refine⟨x,tw,m,ps,o,r,w,i,rfl,dO,am,by lia,λ_ _ _=>⟨par,e,R,λ_ a8 O' an=>?_,λz=>absurd z (by lia)⟩,λz=>absurd ⟨I,J⟩ z,λ_ _ z=>absurd z (by lia)⟩;have tt:Y=a8:=(d6 (et.symm.trans an)).2;subst tt;rw[en,<-eC];refine⟨λ_ lt ys em eS e0 M eG e9 eL yl yv hC L a9=>k1 _ _ (cL λM2 k2=>?_),λz=>absurd ⟨by lia,by lia⟩ z⟩;have ny:Num m o r par e (ϝ m o r par e Y) (Ϩ m o r par e Y) (cK o par) w ys i:=⟨yl,em,eS,e0,eG,e9,eL,yv⟩;have ez:ys=xs:=(ny.order B g R I J nx).2.1.mpr rfl;subst ez;walk_at "";refine⟨_,_,_,true,rfl,.tup a9,λcv h=>by cases h;rfl,_,rfl,?_⟩;rw[ag (by decide)];refine⟨_,.inr (Ξ.of a9),λl6 cu=>?_⟩;have s6:=L.trans (δ.new (.lst (ys.map V.int)) cu);refine gq s6 (O8 ay (s6 _ _ g3) ⟨_,rfl,?_⟩);rw[ag (by decide)];have ca:=δ.new (.lst (ys.map V.int)) cu _ _ a9;generalize upd M l6 (.lst (ys.map V.int))=av at s6 ca ⊢;refine k2 _ _ (cL λM3 k3=>?_);clear k1 k2;walk_at "";refine⟨⟨_,Ξ.of ca⟩,λlb dA=>?_⟩;refine lO (K:=K) (c:=false) (a:=lt) (xs:=ys.map V.int) (λj zs σ H8=>δ av H8/\H8 lb=some (.lst zs)/\zs=(List.replicate j true).map V.bl/\∃v0,σ=[v0]) ⟨δ.new _ dA,ay,rfl,_,rfl⟩ (λj zs σ H8 _ ⟨z,_⟩=>Ξ.of (z _ _ ca)) ?_ ?_
  .rintro j y zs σ H8 N' Y4 hj ⟨s8,e8,rfl,v0,rfl⟩;obtain⟨u,hu,rfl⟩:=List.μ hj;have il:=(az.mp hu).1;walk_at "";refine⟨_,rfl,?_⟩;exact⟨e8,d4 (by rw[aa,cV];lia),Y4 _ _ _ ⟨s8.put dA _,ay,by rw[List.replicate_succ',aw];rfl,_,rfl⟩⟩
  .rintro zs σ H8 ⟨s8,e8,rfl,v0,rfl⟩;refine⟨lb,rfl,_,ξ.of e8,?_⟩;rw[show(List.replicate (ys.map V.int).length true).all id=true by rw[dQ];intro x hx;exact iC hx,ag (by decide)];refine k3 _ _ (cL λM4 k4=>?_);have be:=s6.trans s8;walk_at "";refine gq be ⟨_,rfl,_,.inl (ξ.of (be _ _ g3)),λl9 ej=>?_⟩;have Z:=be.trans (δ.new (.lst (ys.map V.int)) ej);have dm:upd H8 l9 (.lst (ys.map V.int)) l9=some (.lst (ys.map V.int)):=ay;generalize upd H8 l9 (.lst (ys.map V.int))=hQ at Z dm ⊢;refine⟨x,l9,tw,true,m,ps,o,ys,r,w,rfl,dO.same Z,ξ.of dm,by lia,am,by lia,λ_ _ _=>⟨par,e,R,λz=>absurd z (by lia),λ_=>⟨λz=>(by rw[fg]at z;cases z),λ_=>⟨λ_ a8 O' fk=>?_,λz=>absurd ⟨ep,xg⟩ z⟩⟩⟩,λz=>absurd ⟨I,J⟩ z,λ_ _ z=>absurd z (by lia)⟩;have tt:Y=a8:=(d6 (et.symm.trans fk)).2;subst tt;refine⟨cn,gv,nb,NS,λu u0 u1=>eg _ u rfl u0 u1,λey aT=>k4 _ _ ?_⟩;walk_at "";refine⟨_,rfl,_,rfl,?_⟩;rw[ag (by decide),ee,ag λz=>z rfl];exact hN _ _ ⟨WQ.trans (Z.trans aT),_,_,_,rfl⟩
 .rintro BB σ ae ϗ ⟨WQ,au,aC,a2,rfl⟩;refine ϗ _ _ (fs _ _ (cL λi8 eu=>?_));walk_at "";refine⟨by lia,by lia,?_⟩;refine vO (lo:=0) (λi σ M=>δ ae M/\∃(b3 bd:Option V),σ=[some (V.ref a),some (V.ref ln),some (V.int m),some (V.ref l),some (V.ref d),some (V.int r),some (V.ref lo),some (V.int w),some (V.ref x),some (V.int h),some (V.ref ld),some (V.int C),au,aC,a2,b3,bd]) ⟨δ.refl _,_,_,rfl⟩ ?_ ?_
  .rintro i σ M N BB ϗ hN hi ⟨L,b3,bd,rfl⟩;have bS:=WQ.trans L;have ec:=cp.same bS;have ei:=bS _ _ bm;have eF:=Κ.same bS b2;refine ϗ _ _ (cL λM1 k1=>?_);rw[show(0:Int)+(i:Int)=(i:Int) by lia];walk_at "";refine⟨by decide,λp np=>?_⟩;have v1:=δ.new (.lst [V.int 0]) np;refine⟨p,m,[V.int 0],rfl,rfl,ay,by lia,by lia,cm (by simp;lia),λp2 cr=>?_⟩;rw[zy,<-Rs];have v2:=v1.trans (δ.new (.lst ((YV m).map V.int)) cr);have e2:upd (upd M p (.lst [V.int 0])) p2 (.lst ((YV m).map V.int)) p2=some (.lst ((YV m).map V.int)):=ay;have fp:=v1.free cr;generalize upd (upd M p (.lst [V.int 0])) p2 (.lst ((YV m).map V.int))=av at v2 e2 ⊢;have zl:((YV m).length:Int)=m:=(by unfold YV;rw[cV];lia);refine k1 _ _ (cL λM2 k2=>?_);walk_at "";refine wC e2 (by lia) (by rw[aa];lia) (k2 _ _ ?_);have v3:=v2.put fp (.lst (((YV m).map V.int).set (i:Int).toNat (V.int h)));obtain⟨xs,ex⟩:∃xs,xs=(YV m).set (i:Int).toNat h:=⟨_,rfl⟩;have e3:upd av p2 (.lst (((YV m).map V.int).set (i:Int).toNat (V.int h))) p2=some (.lst (xs.map V.int)):=(by rw[ay,ex,gX]);have xl:(xs.length:Int)=m:=(by rw[ex,eR];exact zl);have x0:∀z∈xs,0<=z:=λz hz=>by
    rw[ex]at hz;rcases kJ hz with hz|hz
    .unfold YV at hz;rw[iC hz]
     lia
    .rw[hz];exact aS.1
   generalize upd av p2 (.lst (((YV m).map V.int).set (i:Int).toNat (V.int h)))=hP at v3 e3 ⊢;walk_at "";refine⟨x,p2,tw,true,m,ps,o,xs,r,w,rfl,ec.same v3,ξ.of e3,by lia,am,by lia,λ_ _ _=>⟨par,e,R,λ_ ey aT=>?_,λz=>(by rw[DH xl x0]at z;cases z)⟩,λz=>absurd ⟨I,J⟩ z,λ_ _ z=>absurd z (by lia)⟩;have bs:=v3.trans aT;refine⟨ld,p2,pd,ds,xs,rfl,rfl,bs _ _ ei,zb (λq z hz h=>⟨h,?_⟩) (Κ.same bs eF),aT _ _ e3,rfl,?_⟩
   .have:=((bt z).mp hz).1
    lia
   have eq:(decide (xs.sum=gE m o r par (dD m o r par e) w)&&decide (Φ m o r par e (λv=>xs.getD v.toNat 0) (Η o par) r<w))=decide (xs∈ds):=by
    rw[dX,ce,fK,fK,fK,bt];exact⟨λ⟨a,b⟩=>⟨xl,x0,a,b⟩,λ⟨_,_,a,b⟩=>⟨a,b⟩⟩
   rw[ag (λz=>z (congrArg V.bl eq))];exact hN _ _ ⟨L.trans bs,_,_,rfl⟩
  .rintro BB σ M ϗ ⟨L,b3,bd,rfl⟩;refine ϗ _ _ (eu _ _ ?_);walk_at "";exact k M
end
theorem Wb:cg CX0:=λ_ _ _ _ _ h=>h
structure FI(K:f5)(x:Str)(st:Stmt)(f:Addr)(fd:FuncData):Prop where
 a:PySem.W.nsIn K mainGlobals x=some (some (.ref f))
 F:Ye K x x st f fd
theorem fi{K:f5}{x:Str}{st:Stmt}{f:Addr}{j:Value}{i g:Option Addr}{m:Array (Option Value)}{kV b h d e:Value}(a:PySem.W.nsIn K mainGlobals x=some (some (.ref f)):=by k_is)(l:K.lookup f=some ⟨j,i,.func (PySem.W.fnOf x x (ja st) (ip st) (aK st) .none kV b h g d e),m⟩:=by k_is)(c:PySem.W.codeIn K d x=true:=by k_is)(k:PySem.W.keepIn K (.ref f)=true:=by k_is):FI K x st f (PySem.W.fnOf x x (ja st) (ip st) (aK st) .none kV b h g d e):=⟨a,AB (st:=st) l c k⟩
theorem FI.df1{K:f5}{h:Heap}{m:gw}{x:Str}{st:Stmt}{f:Addr}{l:FuncData}(y:FI K x st f l)(X:K.In h)(G:h.Ns mainGlobals m)(k:gy)(p:k.length=1:=by rfl)(q:∀(kV j o:Value) (r:Option Addr) (s n i:Value),bindArgs (PySem.W.fnOf x x (ja st) (ip st) (aK st) .none kV j o r s n) ⟨[i],[]⟩=pure (k.zip [i]):=by intros;rfl):Df K m x st k f l:=⟨y.F,bT X G y.a,y.F.binds λa b c d e g t z=>by obtain⟨i,rfl⟩:=us1 (z.trans p);exact q a b c d e g i⟩
theorem FI.Wx{K:f5}{h:Heap}{n:gw}{x:Str}{st:Stmt}{f:Addr}{m:FuncData}(y:FI K x st f m)(X:K.In h)(G:h.Ns mainGlobals n)(l:gy)(q:l.length=2:=by rfl)(r:∀(kV k p:Value) (s:Option Addr) (t o i j:Value),bindArgs (PySem.W.fnOf x x (ja st) (ip st) (aK st) .none kV k p s t o) ⟨[i,j],[]⟩=pure (l.zip [i,j]):=by intros;rfl):Df K n x st l f m:=⟨y.F,bT X G y.a,y.F.binds λa b c d e g u z=>by obtain⟨i,j,rfl⟩:=us2 (z.trans q);exact r a b c d e g i j⟩
theorem FI.Yl{K:f5}{h:Heap}{o:gw}{x:Str}{st:Stmt}{f:Addr}{n:FuncData}(y:FI K x st f n)(X:K.In h)(G:h.Ns mainGlobals o)(m:gy)(r:m.length=3:=by rfl)(s:∀(kV l q:Value) (t:Option Addr) (u p i k j:Value),bindArgs (PySem.W.fnOf x x (ja st) (ip st) (aK st) .none kV l q t u p) ⟨[i,k,j],[]⟩=pure (m.zip [i,k,j]):=by intros;rfl):Df K o x st m f n:=⟨y.F,bT X G y.a,y.F.binds λa b c d e g v z=>by obtain⟨i,k,j,rfl⟩:=us3 (z.trans r);exact s a b c d e g i k j⟩
theorem FI.ZK{K:f5}{h:Heap}{p:gw}{x:Str}{st:Stmt}{f:Addr}{o:FuncData}(y:FI K x st f o)(X:K.In h)(G:h.Ns mainGlobals p)(n:gy)(s:n.length=4:=by rfl)(t:∀(kV m r:Value) (u:Option Addr) (v q i k j l:Value),bindArgs (PySem.W.fnOf x x (ja st) (ip st) (aK st) .none kV m r u v q) ⟨[i,k,j,l],[]⟩=pure (n.zip [i,k,j,l]):=by intros;rfl):Df K p x st n f o:=⟨y.F,bT X G y.a,y.F.binds λa b c d e g w z=>by obtain⟨i,k,j,l,rfl⟩:=us4 (z.trans s);exact t a b c d e g i k j l⟩
theorem FI.df5{K:f5}{h:Heap}{q:gw}{x:Str}{st:Stmt}{f:Addr}{p:FuncData}(y:FI K x st f p)(X:K.In h)(G:h.Ns mainGlobals q)(o:gy)(t:o.length=5:=by rfl)(u:∀(kV n s:Value) (v:Option Addr) (w r i k j l m:Value),bindArgs (PySem.W.fnOf x x (ja st) (ip st) (aK st) .none kV n s v w r) ⟨[i,k,j,l,m],[]⟩=pure (o.zip [i,k,j,l,m]):=by intros;rfl):Df K q x st o f p:=⟨y.F,bT X G y.a,y.F.binds λa b c d e g A z=>by obtain⟨i,k,j,l,m,rfl⟩:=us5 (z.trans t);exact u a b c d e g i k j l m⟩
theorem all_mk{l:PySem.W.OpenLaw}{w:World}{K:f5}{h:Heap}{d:gw}{x:Addr}{xi:Addr}{H:Addr}{Z:Addr}{E:Addr}{wW:Addr}{C:Addr}{b:Addr}{a:Addr}{B6 JG Gh Gc CI Ep Hy Ez Fn Vb RU Ts P8 Tv RI JA AE LO ED KZ Cj Nb HL QC K8 LM Gj JQ K4 EF J7 AO LL Kg Hr Ed KC MB HK HG Ce Kb P4 HX Hq KI Ue Re JX F5 PJ Ea Ki Em Es Hv J9 Gr zh Hu CP:Addr}{AH HZ Ev EC Ag CH FQ CW Ef Sh Ph RB Mz Ri OO Ho zC JW C2 GX BO JF EO LU Ht Ke Eg GQ G8 Dd Hx zZ K5 HN F4 Cs HM Kq GO FX Bj Hb Mv EM Gy Hi Rm Og Hf Ee Lw CJ HS Cy Cv Fp HW Eb yi FJ Bk:FuncData}{k:Addr}{Wi AX:Option Addr}{BK:Array (Option Value)}{Wj AA BA Bs tX An:Value}{i:Addr}{lT yA:Option Addr}{yB:Array (Option Value)}{nE yj yh yz rP yy:Value}{r:Addr}{J LA:Option Addr}{SG:Array (Option Value)}{Y L5 LP Mr t Mw:Value}{WR:Tok}{Xo:Tok}{XT:Tok}{Wy:Tok}(X:K.In h)(G:h.Ns mainGlobals d)(B:d "law"=some (.ref x))(Kp:PySem.W.nsIn K mainGlobals "NoPlace"=some (some (.ref xi)))(Mn:PySem.W.nsIn K mainGlobals "NoRoad"=some (some (.ref H)))(GH:PySem.W.nsIn K mainGlobals "BadLaying"=some (some (.ref Z)))(KL:PySem.W.nsIn K mainGlobals "BadWish"=some (some (.ref E)))(Kl:PySem.W.nsIn K mainGlobals "TooMany"=some (some (.ref wW)))(HQ:PySem.W.nsIn K mainGlobals "NoNumber"=some (some (.ref C)))(Td:PySem.W.nsIn K mainGlobals "Web"=some (some (.ref b)))(Ny:PySem.W.nsIn K mainGlobals "Tally"=some (some (.ref a)))(wG:pX K xi)(zR:pX K H)(uu:pX K Z)(xJ:pX K E)(wE:pX K wW)(rY:pX K C)(Cc:FI K "check_counts" lY B6 AH)(KH:FI K "is_place" p8 JG HZ)(Gv:FI K "check_ends" p7 Gh Ev)(ER:FI K "other_ends" nQ Gc EC)(CT:FI K "check_joined" oj CI Ag)(EA:FI K "check_tolls" kX Ep CH)(CQ:PySem.W.findIn K (.ref b) "__init__"=some (some (.ref k)))(Dr:PySem.W.isFn K (.ref k)=true)(B8:K.lookup k=some ⟨Wj,Wi,.func (PySem.W.fnOf "__init__" "Web.__init__" (ja jd) (ip jd) (aK jd) .none AA BA Bs AX tX An),BK⟩)(CA:PySem.W.codeIn K tX "Web.__init__"=true)(Cw:PySem.W.keepIn K (.ref k)=true)(Hl:FI K "_law_tolls" qO Hy FQ)(El:FI K "check_place" iQ Ez CW)(EN:FI K "neighbours" pS Fn Ef)(T6:FI K "kids" uZ Vb Sh)(R9:FI K "ahead" sC RU Ph)(SX:FI K "down" uQ Ts RB)(OS:FI K "inward" mR P8 Mz)(TU:FI K "toll" p9 Tv Ri)(R8:FI K "borne" uM RI OO)(Lc:FI K "is_heavy" pU JA Ho)(AI:FI K "least_weights" jE AE zC)(Ly:FI K "bearers" qZ LO JW)(EE:FI K "differences" jQ ED C2)(J8:FI K "value_at" ic KZ GX)(Dm:FI K "first_values" mD Cj BO)(LY:FI K "is_free" pG Nb JF)(G1:FI K "parted_at" oO HL EO)(Ql:FI K "parted" sV QC LU)(Ku:FI K "held_for" pO K8 Ht)(Lk:FI K "ways_of" pC LM Ke)(Gg:FI K "ways_given" nG Gj Eg)(JE:FI K "rests_of" jq JQ GQ)(zz:PySem.W.findIn K (.ref a) "__init__"=some (some (.ref i)))(zx:PySem.W.isFn K (.ref i)=true)(zT:K.lookup i=some ⟨nE,lT,.func (PySem.W.fnOf "__init__" "Tally.__init__" (ja eU) (ip eU) (aK eU) .none yj yh yz yA rP yy),yB⟩)(zj:PySem.W.codeIn K rP "Tally.__init__"=true)(Ab:PySem.W.keepIn K (.ref i)=true)(JC:FI K "_law_down" mQ K4 G8)(Ey:FI K "_law_layings" kZ EF Dd)(KG:FI K "_law_load" pV J7 Hx)(BF:FI K "_law_rows_down" lG AO zZ)(MQ:FI K "_law_due" rq LL K5)(Ks:FI K "_law_cell" sf Kg HN)(He:FI K "_law_mixed" qX Hr F4)(D5:FI K "_law_numbers" mX Ed Cs)(Li:FI K "_law_toll" rT KC HM)(Ls:FI K "_law_web" q8 MB Kq)(G7:FI K "_law_small" qT HK GO)(HC:FI K "_law_whole" m6 HG FX)(Ck:FI K "check_wanted" ku Ce Bj)(KJ:FI K "bound_by" pK Kb Hb)(Np:FI K "enough" qK P4 Mv)(HF:FI K "is_filled" qQ HX EM)(Hj:FI K "laying_of" nc Hq Gy)(K2:FI K "gathered" pP KI Hi)(Tc:FI K "most" BH Ue Rm)(Sd:FI K "total" xS Re Og)(KU:FI K "is_worst" pM JX Hf)(FH:FI K "check_told" kI F5 Ee)(Od:FI K "course" qr PJ Lw)(D9:FI K "last_within" oV Ea CJ)(J4:FI K "given_by" si Ki HS)(Eh:FI K "ways_before" mW Em Cy)(Ex:FI K "handed_down" jN Es Cv)(HY:FI K "laying_at" qU Hv Fp)(K7:FI K "worst_at" nX J9 HW)(GA:FI K "worst_many" nS Gr Eb)(zO:FI K "number_beneath" ig zh yi)(GR:FI K "number_of" oN Hu FJ)(Dj:FI K "worst_number" kC CP Bk)(Q6:PySem.W.nsIn K mainGlobals "law"=some (some (.ref r)))(Vv:K.lookup r=some ⟨Y,J,.func (PySem.W.fnOf "law" "law" (ja ow) (ip ow) (aK ow) .none L5 LP Mr LA t Mw),SG⟩)(Vu:PySem.W.codeIn K t "law"=true)(VB:PySem.W.keepIn K (.ref r)=true)(UP:PySem.W.plainGet K b Str.empty=true)(Uo:PySem.W.hasDictIn K b=true)(Ve:PySem.W.plainOver K b=true)(Ur:PySem.W.findIn K (.ref b) "__setattr__"=some (some (.builtin "object.__setattr__")))(S5:PySem.W.makesIn K b=true)(UE:PySem.W.keepIn K (.ref b)=true)(Ym:PySem.W.findIn K (.ref b) "many"=some none)(XU:PySem.W.findIn K (.ref b) "roads"=some none)(PF:PySem.W.plainGet K a Str.empty=true)(OJ:PySem.W.hasDictIn K a=true)(Oy:PySem.W.plainOver K a=true)(Qv:PySem.W.findIn K (.ref a) "__setattr__"=some (some (.builtin "object.__setattr__")))(Qx:PySem.W.makesIn K a=true)(Pn:PySem.W.keepIn K (.ref a)=true)(XW:PySem.W.findIn K (.ref a) "web"=some none)(Xp:PySem.W.findIn K (.ref a) "down"=some none)(Wk:PySem.W.findIn K (.ref a) "weights"=some none)(Wl:PySem.W.findIn K (.ref a) "bearers"=some none)(Xq:PySem.W.findIn K (.ref a) "kids"=some none)(WT:PySem.W.findIn K (.ref a) "rests"=some none)(q:PySem.W.nsIn K mainGlobals "range"=some none)(O:PySem.W.nsIn K mainGlobals "zip"=some none)(N:PySem.W.nsIn K mainGlobals "len"=some none)(Xr:PySem.W.nsIn K mainGlobals "isinstance"=some none)(V:PySem.W.nsIn K mainGlobals "all"=some none)(o:PySem.W.nsIn K mainGlobals "int"=some none)(D:PySem.W.nsIn K mainGlobals "bool"=some none)(ae:PySem.W.nsIn K mainGlobals "tuple"=some none)(L:PySem.W.nsIn K mainGlobals "list"=some none)(Yn:PySem.W.nsIn K mainGlobals "reversed"=some none)(ZL:PySem.W.nsIn K mainGlobals "sorted"=some none)(I:PySem.W.nsIn K mainGlobals "min"=some none)(ai:PySem.W.nsIn K mainGlobals "max"=some none)(XX:PySem.W.nsIn K mainGlobals "enumerate"=some none)(p:PySem.W.nsIn K mainGlobals "sum"=some none)(R:PySem.W.nsIn K mainGlobals "str"=some none)(z:PySem.W.nsIn K mainGlobals "set"=some none)(WU:PySem.W.nsIn K mainGlobals "MOST_PLACES"=some (some (.int 24 WR)))(Xs:PySem.W.nsIn K mainGlobals "LEAST_TOLL"=some (some (.int 2 Xo)))(XY:PySem.W.nsIn K mainGlobals "MOST_TOLL"=some (some (.int 1000000 XT)))(Wz:PySem.W.nsIn K mainGlobals "MOST_PEBBLES"=some (some (.int 1000000000000 Wy))):∃fd:FuncData,(∀(s:Shared)(v:Value),BindsTo s fd ⟨[v],[]⟩ [("script",v)])/\∀base:Heap,K.In base->base.Ns mainGlobals d->ϓ l.prog w K d base (Ε l.prog w) 13 x fd ["script"] (EH K):=by
 have e:=B.symm.trans (bT X G Q6);cases e
 let T:Txt K d:=⟨xi,bT X G Kp,H,bT X G Mn,Z,bT X G GH,E,bT X G KL,wW,bT X G Kl,C,bT X G HQ,b,bT X G Td,a,bT X G Ny,wG,zR,uu,xJ,wE,rY,PySem.W.mg_none_of X G q,PySem.W.mg_none_of X G O,PySem.W.mg_none_of X G N,PySem.W.mg_none_of X G Xr,PySem.W.mg_none_of X G V,PySem.W.mg_none_of X G o,PySem.W.mg_none_of X G D,PySem.W.mg_none_of X G ae,PySem.W.mg_none_of X G L,PySem.W.mg_none_of X G Yn,PySem.W.mg_none_of X G ZL,PySem.W.mg_none_of X G I,PySem.W.mg_none_of X G ai,PySem.W.mg_none_of X G XX,PySem.W.mg_none_of X G p,PySem.W.mg_none_of X G R,PySem.W.mg_none_of X G z,⟨_,bT X G WU⟩,⟨_,bT X G Xs⟩,⟨_,bT X G XY⟩,⟨_,bT X G Wz⟩,⟨UP,Uo,Ve,Ur⟩,Ym,XU,⟨PF,OJ,Oy,Qv⟩,XW,Xp,Wk,Wl,Xq,WT⟩
 have uK:=Cc.Wx X G ["many","roads"];have Ak:=KH.Wx X G ["many","number"];have wK:=Gv.Wx X G ["many","road"];have xE:=ER.Wx X G ["roads","place"];have uH:=CT.Wx X G ["many","roads"];have we:=EA.df1 X G ["road"];have og:=AB (st:=jd) B8 CA Cw;have JB:=og.binds (ps:=["self","many","roads"]) λ_ _ _ _ _ _ us f=>by obtain⟨u0,u1,u2,rfl⟩:=us3 f;rfl
 have y6:=Hl.df1 X G ["roads"];have vW:=El.Wx X G ["web","number"];have xH:=EN.Wx X G ["web","a"];have LF:=T6.Yl X G ["web","place","front"];have IT:=R9.Wx X G ["web","r"];have MS:=SX.Wx X G ["web","r"];have FZ:=OS.Wx X G ["web","r"];have L7:=TU.Yl X G ["web","a","b"];have Iz:=R8.ZK X G ["web","weights","place","front"];have BI:=Lc.ZK X G ["web","weights","place","front"];have tR:=AI.Wx X G ["web","r"];have DL:=Ly.Wx X G ["web","r"];have wm:=EE.df1 X G ["values"];have BM:=J8.Wx X G ["found","at"];have uN:=Dm.Wx X G ["found","many"];have DZ:=LY.Yl X G ["tally","place","kid"];have yE:=G1.Yl X G ["one","other","at"];have Fv:=Ql.Wx X G ["one","other"];have BC:=Ku.ZK X G ["tally","place","kid","given"];have DF:=Lk.Yl X G ["tally","place","held"];have xG:=Gg.ZK X G ["tally","place","kid","given"];have Bz:=JE.Wx X G ["tally","place"];have g:=AB (st:=eU) zT zj Ab;have S:=g.binds (ps:=["self","web","r"]) λ_ _ _ _ _ _ us f=>by obtain⟨u0,u1,u2,rfl⟩:=us3 f;rfl
 have Bw:=JC.Yl X G ["many","tolls","r"];have vT:=Ey.Wx X G ["many","held"];have Bt:=KG.Yl X G ["tolls","order","laying"];have t9:=BF.df1 X G ["order"];have DP:=MQ.df5 X G ["many","tolls","order","wanted","held"];have AK:=Ks.Wx X G ["script","k"];have yY:=He.Wx X G ["cell","k"];have vV:=D5.Wx X G ["script","many"];have AR:=Li.df1 X G ["rest"];have DY:=Ls.df1 X G ["numbers"];have yJ:=G7.df1 X G ["numbers"];have yH:=HC.df1 X G ["found"];have uA:=Ck.Yl X G ["web","r","wanted"];have Aj:=KJ.ZK X G ["web","r","wanted","weights"];have Go:=Np.Yl X G ["web","r","wanted"];have yU:=HF.Wx X G ["web","numbers"];have yM:=Hj.Wx X G ["web","numbers"];have BU:=K2.Yl X G ["web","laying","r"];have MP:=Tc.Yl X G ["web","laying","r"];have Ia:=Sd.df1 X G ["numbers"];have AF:=KU.ZK X G ["web","r","wanted","laying"];have wH:=FH.Yl X G ["web","r","wanted"];have Gd:=Od.ZK X G ["tally","place","at","left"];have vY:=D9.Yl X G ["before","top","number"];have BP:=J4.df5 X G ["tally","place","at","left","number"];have wf:=Eh.df5 X G ["tally","place","at","left","given"];have wg:=Ex.ZK X G ["tally","place","held","number"];have yZ:=HY.Yl X G ["tally","held","number"];have AN:=K7.ZK X G ["web","r","wanted","number"];have xB:=GA.Yl X G ["web","r","wanted"];have sH:=zO.ZK X G ["tally","place","held","numbers"];have yF:=GR.Wx X G ["tally","held"];have uI:=Dj.ZK X G ["web","r","wanted","laying"];have Q9:=AB (st:=ow) Vv Vu VB;have VE:=Q9.binds (ps:=["script"]) λ_ _ _ _ _ _ us f=>by obtain⟨u0,rfl⟩:=us1 f;rfl
 have VI:Df K d "law" ow ["script"] x _:=⟨Q9,bT X G Q6,VE⟩;refine⟨PySem.W.fnOf "law" "law" (ja ow) (ip ow) (aK ow) .none L5 LP Mr LA t Mw,λs v=>.of_eq rfl,λbase _ _=>?_⟩;have Ko:Mk K T.Web k:=⟨S5,CQ,Dr,UE⟩;have U:Mk K T.Tally i:=⟨Qx,zz,zx,Pn⟩;have qv:=cb uK (Bo (P:=l.prog) (w:=w) (base:=base) T bW _ _ uK);have mL:=cb Ak (HB (P:=l.prog) (w:=w) (base:=base) T bW _ _ Ak);have sM:=cb wK (Ew T bW mL _ _ wK);have mh:=cb xE (D4 (P:=l.prog) (w:=w) (base:=base) T bW _ _ xE);have qo:=cb uH (AW T bW mh _ _ uH);have rF:=cb we (CD (P:=l.prog) (w:=w) (base:=base) T bW _ _ we);have eQ:=BR (P:=l.prog) (w:=w) (base:=base) T bW og qv sM qo rF;have ux:=cb y6 (GF (P:=l.prog) (w:=w) (base:=base) T bW _ _ y6);have n:=cb vW (CS T bW mL _ _ vW);have sS:=cb xH (Ej T bW n mh _ _ xH);have Q:=cb LF (Sc T bW sS _ _ LF);have y:=cb IT (NJ T bW n Q _ _ IT);have uW:=cb MS (R4 T bW y Q _ _ MS);have m:=cb FZ (Lp T bW y uW _ _ FZ);have j:=cb L7 (RO T bW n _ _ L7);have sD:=cb Iz (Oh T bW j _ _ Iz);have nY:=cb BI (Hw T bW sD _ _ BI);have A:=cb tR (zJ T bW sD m _ _ tR);have xL:=cb DL (JN T bW m nY A _ _ DL);have jL:=cb wm (Ch (P:=l.prog) (w:=w) (base:=base) T bW _ _ wm);have c:=cb BM (Hm (P:=l.prog) (w:=w) (base:=base) T bW _ _ BM);have qm:=cb uN (Bm T bW c _ _ uN);have M:=cb DZ (KS T bW nY _ _ DZ);have ng:=cb yE (Gi (P:=l.prog) (w:=w) (base:=base) T bW _ _ yE);have zc:=cb Fv (Lv T bW ng _ _ Fv);have n9:=cb BC (G0 T bW j _ _ BC);have u:=cb DF (KO T bW c _ _ DF);have iH:=cb xG (Er T bW n9 u _ _ xG);have vf:=cb Bz (HJ T bW jL qm M zc iH _ _ Bz);have F:=yf (P:=l.prog) (w:=w) (base:=base) T bW g y xL uW Q A vf;have vq:=cb Bw (HA (P:=l.prog) (w:=w) (base:=base) T bW _ _ Bw);have rJ:=cb vT (C7 (P:=l.prog) (w:=w) (base:=base) T bW _ _ vT);have vR:=cb Bt (GS (P:=l.prog) (w:=w) (base:=base) T bW _ _ Bt);have qb:=cb t9 (zk (P:=l.prog) (w:=w) (base:=base) T bW _ _ t9);have wV:=cb DP (KB T bW rJ vR qb _ _ DP);have se:=cb AK (G2 (P:=l.prog) (w:=w) (base:=base) T bW _ _ AK);have qV:=cb yY (Fg (P:=l.prog) (w:=w) (base:=base) T bW _ _ yY);have rL:=cb vV (CG T bW se qV _ _ vV);have sg:=cb AR (Hh (P:=l.prog) (w:=w) (base:=base) T bW _ _ AR);have wM:=cb DY (Jz T bW sg _ _ DY);have ut:=cb yJ (FB T bW wM _ _ yJ);have ko:=cb yH (FE (P:=l.prog) (w:=w) (base:=base) T bW _ _ yH);have kt:=cb uA (AU T bW n _ _ uA);have ve:=cb Aj (GV T bW kt m j _ _ Aj);have mT:=cb Go (Mm T bW ve A _ _ Go);have uw:=cb yU (F3 (P:=l.prog) (w:=w) (base:=base) T bW _ _ yU);have m7:=cb yM (EY T bW uw _ _ yM);have oB:=cb BU (HV T bW m m7 j _ _ BU);have GB:=cb MP (RQ T bW oB _ _ MP);have Dq:=cb Ia (QH (P:=l.prog) (w:=w) (base:=base) T bW _ _ Ia);have om:=cb AF (GW T bW mT m7 GB Dq _ _ AF);have my:=cb wH (EB T bW mT _ _ wH);have qA:=cb Gd (MY T bW jL c iH _ _ Gd);have rB:=cb vY (CV T bW c _ _ vY);have vJ:=cb BP (HH T bW qA M rB _ _ BP);have kY:=cb wf (B4 T bW qA M c _ _ wf);have rK:=cb wg (CF T bW vJ n9 c kY _ _ wg);have uf:=cb yZ (Gp T bW rK _ _ yZ);have vy:=cb AN (HE T bW g S U F my uf u _ _ AN);have sY:=cb xB (Eo T bW g S U F kt u _ _ xB);have oY:=cb sH (yg T bW j c kY _ _ sH);have uj:=cb yF (EZ T bW oY _ _ yF);have qI:=cb uI (AG T bW g S U F my oB om uj _ _ uI);have VC:=SO (P:=l.prog) (w:=w) (base:=base) T bW VI og JB Ko eQ vq wV rL ut ux ko mT om vy sY qI;exact VC
theorem walk{l:PySem.W.OpenLaw}{q:Program}{c:gy}{o:(Str->Option Value)->Heap->Prop}{i:World->Heap->Prop}{d:DefRec}{K:Params->PySem.W.Frag}(t:l.most=some 63)(g:d.params.defaults=[])(p:∀(w:World) (h:Heap),i w h->(K w.params).In h)(F:∀(w:World) (e:gw) (m:Addr) (h:Heap),(K w.params).In h->h.Ns mainGlobals e->e d.name=some (.ref m)->∃j:FuncData,(∀(s:Shared) (u:Value),BindsTo s j ⟨[u],[]⟩ [("script",u)])/\∀b:Heap,(K w.params).In b->b.Ns mainGlobals e->ϓ l.prog w (K w.params) e b (Ε l.prog w) 13 m j ["script"] (EH (K w.params))):PySem.W.WalkO q c o i l.row.toRowW d [] (λf r=>PySem.call f r):=L2.Z8 (n:=63) (k:=13) (x:="script") (CX:=λw=>(Ε l.prog w)) (sp:=λw=>EH (K w.params)) t (by decide) g ⟨rfl,by decide,by decide⟩ p F (λ_ _ a y v _ A=>⟨a,y,rfl,A,v,λ_=>rfl⟩) λ_ _ _ _ _ z=>bW _ _ _ _ _ z
end Pk
open L2
open PySem PySem.W PyProof.Rows
set_option maxRecDepth 100000 in
set_option maxHeartbeats 0 in
theorem PySem.Challenge.cw_pebbletoll_k44_counted_by_trying_holds : PySem.Challenge.rw_pebbletoll_k44_counted_by_trying.Holds := by
 w_on;refine PySem.W.holds_law Hd.ws λaqB=>?_
 refine PySem.W.holds_open (q:=Hd.qq) (loose:=[]) (Xt:=(λs=>PySem.W.xlAt Hd.qq [] s&&PySem.W.recOk (PySem.W.RowW.records (PySem.W.OpenRow.toRowW (PySem.Challenge.rw_pebbletoll_k44_counted_by_trying).row)) s)) (XP:=PySem.W.XL Hd.qq []) (Yf:=PySem.W.Hook.obs (PySem.W.kHook Hd.KK Hd.ZM Hd.Ϥ)) (Ya:=PySem.W.Hook.val (PySem.W.kHook Hd.KK Hd.ZM Hd.Ϥ)) (YP:=PySem.W.Hook.says (PySem.W.kHook Hd.KK Hd.ZM Hd.Ϥ)) (N:=8472) Hd.left (PySem.W.Hook.of (PySem.W.kHook Hd.KK Hd.ZM Hd.Ϥ)) (PySem.W.Hook.keeps (PySem.W.kHook Hd.KK Hd.ZM Hd.Ϥ)) (λs e=>PySem.W.xl_of s (nD.mp e).1) PySem.W.XL.keeps (by rfl) (by rfl) (by rfl) (λs e=>PySem.W.recFacts_of (nD.mp e).2) (by rfl) (by assumption) (by decide +kernel) ⟨rfl,rfl,rfl,rfl,rfl,by decide +kernel⟩ ?hw ?hc
 (case hw=>w_witness2)
 k_fill
 refine Pk.walk (l:=PySem.Challenge.rw_pebbletoll_k44_counted_by_trying) rfl rfl (λw h Y=>PySem.W.kIn_of Y) ?F
 case F=>
  intro w mg fa h KX G hmg;refine' Pk.all_mk KX G hmg ?_ ?_ ?_ ?_ ?_ ?_ ?_ ?_ ?_ ?_ ?_ ?_ ?_ ?_ ?_ ?_ ?_ ?_ ?_ ?_ ?_ ?_ ?_ ?_ ?_ ?_ ?_ ?_ ?_ ?_ ?_ ?_ ?_ ?_ ?_ ?_ ?_ ?_ ?_ ?_ ?_ ?_ ?_ ?_ ?_ ?_ ?_ ?_ ?_ ?_ ?_ ?_ ?_ ?_ ?_ ?_ ?_ ?_ ?_ ?_ ?_ ?_ ?_ ?_ ?_ ?_ ?_ ?_ ?_ ?_ ?_ ?_ ?_ ?_ ?_ ?_ ?_ ?_ ?_ ?_ ?_ ?_ ?_ ?_ ?_ ?_ ?_ ?_ ?_ ?_ ?_ ?_ ?_ ?_ ?_ ?_ ?_ ?_ ?_ ?_ ?_ ?_ ?_ ?_ ?_ ?_ ?_ ?_ ?_ ?_ ?_ ?_ ?_ ?_ ?_ ?_ ?_ ?_ ?_ ?_ ?_ ?_ ?_ ?_ ?_ ?_ ?_ ?_ ?_ ?_
  any_goals first|exact RM _ _ _ _ _ _ _ _ _ _ _ _ _ _ _ _ (by k_is) (by rfl) (by kernel_rfl) (by k_is) (by kernel_rfl)|exact Pk.fi|k_is
#print axioms PySem.Challenge.cw_pebbletoll_k44_counted_by_trying_holds