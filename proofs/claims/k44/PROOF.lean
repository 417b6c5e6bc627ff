import PyProof.Rows.All
import Wide.All
import OpenK.AllK
import Wide.FinOn
import Lean
import PyProof.EqAt
import PyProof.EqKinds
import PyProof.TupleCall
import PyProof.P3Eq
import PyProof.NeData
import PyProof.FitsBits
import PyProof.ZipIter
import PyProof.TupleIter
import KE.KRevIter
import PyProof.TupleOfGen
import PyProof.ListRange
import KE.KIsAll
import PyProof.ExcArgsOwn
import OpenK.KDescr
import PyProof.StationsW
import PyProof.ExcBaseAll.ValueError
import OpenK.KOwn
import PyProof.RulesAs
import PyProof.RulesDel
import PyProof.Rows.SortWalk
import PyProof.CompUse
import KE.KDictSum
import PyProof.WalkInts
import KE.KSortTup
import PyProof.Rows.TupDisplay
import KE.KIntText
import PyProof.JoinWalk
import PyProof.ExcInit
import PyProof.ExcClass2
import KE.KRevSl
import KE.KSetAt
import PyProof.DictUpdate
import PySem.Challenge.RW_pebbletoll_k44_counted_by_trying
set_option Elab.async false
set_option linter.all false
set_option maxRecDepth 100000
def fZ:=@Array.getD_eq_getD_getElem?
def f7:=@Array.getElem?_eq_some_iff
def nK:=@Array.length_toList
def kU:=@Array.perm_iff_toList_perm
def b9:=@Bool.and_eq_true
def nC:=@Bool.and_eq_true_iff
def dU:=@Bool.eq_iff_iff
def iZ:=@Bool.false_and
def dI:=@Bool.false_eq_true
def bz:=@Bool.false_ne_true
def nh:=@Bool.false_or
def fX:=@Bool.not_eq_true'
def i9:=@Bool.true_and
def kK:=@PySem.Calls.Name_function_global
def gF:=@PySem.Calls.spliced_cons
def gQ:=@PySem.Calls.spliced_nil
def jT:=@PySem.F.args_tuple_iterator_next_1
def kh:=@PySem.F.entry_tuple_iterator_next
def f6:=@PySem.F.slot_tuple_iterator_next
def jF:=@PySem.F.slot_zip_next
def ar:=@PySem.Heap.get?_push_of_some
def bf:=@PySem.Heap.get?_push_size
def dz:=@PySem.Heap.get?_update_other
def eZ:=@PySem.Heap.get?_update_self
def aH:=@PySem.Heap.lt_size
def df:=@PySem.Heap.size_push
def nS:=@Int.add_comm
def eE:=@Int.add_mul
def ja:=@Int.add_mul_ediv_right
def lq:=@Int.add_zero
def jf:=@Int.ediv_eq_zero_of_lt
def ip:=@Int.ediv_nonneg
def mF:=@Int.emod_add_mul_ediv
def cR:=@Int.emod_lt_of_pos
def dH:=@Int.emod_nonneg
def kJ:=@Int.fdiv_eq_ediv_of_nonneg
def lF:=@Int.le_of_lt
def ce:=@Int.le_refl
def bE:=@Int.le_trans
def cM:=@Int.mul_add
def gc:=@Int.mul_assoc
def fE:=@Int.mul_comm
def mJ:=@Int.mul_ediv_add_emod
def de:=@Int.mul_le_mul
def cj:=@Int.mul_le_mul_of_nonneg_left
def bu:=@Int.mul_le_mul_of_nonneg_right
def cX:=@Int.mul_nonneg
def iL:=@Int.mul_one
def gS:=@Int.mul_sub
def lC:=@Int.mul_zero
def iR:=@Int.natAbs_add_le
def jW:=@Int.natAbs_mul
def kI:=@Int.natAbs_natCast
def dG:=@Int.natCast_add
def fj:=@Int.natCast_mul
def jI:=@Int.natCast_sub
def oG:=@Int.neg_mul
def dP:=@Int.one_mul
def lW:=@Int.pow_add
def nJ:=@Int.sub_zero
def bJ:=@Int.toNat_natCast
def br:=@Int.toNat_of_nonneg
def cQ:=@Int.zero_add
def gU:=@List.Perm.append_left
def mw:=@List.Perm.append_right
def iJ:=@List.Perm.refl
def dX:=@List.all_eq_true
def nj:=@List.any_cons
def lP:=@List.any_eq_true
def bX:=@List.append_assoc
def bH:=@List.append_nil
def eX:=@List.concat_eq_append
def d8:=@List.cons.inj
def fH:=@List.cons_append
def jJ:=@List.drop_append_of_le_length
def ck:=@List.drop_eq_getElem_cons
def mz:=@List.drop_eq_nil_of_le
def f9:=@List.drop_length
def mC:=@List.drop_of_length_le
def nA:=@List.drop_succ_cons
def kg:=@List.drop_zero
def gG:=@List.eq_nil_iff_forall_not_mem
def eY:=@List.eq_nil_or_concat
def iE:=@List.eq_of_mem_replicate
def lJ:=@List.ext_getElem
def eA:=@List.ext_getElem?
def iw:=@List.filterMap_cons
def b4:=@List.filter_append
def hV:=@List.filter_cons
def dF:=@List.filter_cons_of_neg
def eJ:=@List.filter_cons_of_pos
def jH:=@List.filter_nil
def gA:=@List.find?_cons
def jA:=@List.findSome?_append
def ke:=@List.findSome?_cons
def fK:=@List.flatMap_append
def bC:=@List.flatMap_cons
def fx:=@List.flatten_cons
def lY:=@List.forIn_cons
def aX:=@List.getD_eq_getElem?_getD
def dh:=@List.getElem?_append_left
def c8:=@List.getElem?_append_right
def iC:=@List.getElem?_cons_succ
def ao:=@List.getElem?_eq_getElem
def bI:=@List.getElem?_eq_none
def az:=@List.getElem?_eq_some_iff
def fS:=@List.getElem?_inj
def aA:=@List.getElem?_map
def cJ:=@List.getElem?_of_mem
def fA:=@List.getElem?_range
def fF:=@List.getElem?_replicate
def cC:=@List.getElem?_reverse
def dY:=@List.getElem?_set_ne
def gC:=@List.getElem?_set_self
def iA:=@List.getElem?_take_of_lt
def lU:=@List.getElem_cons_drop
def iW:=@List.getElem_map
def dj:=@List.getElem_mem
def jQ:=@List.getElem_of_mem
def jv:=@List.getLast?_append
def kE:=@List.getLast?_eq_none_iff
def aE:=@List.length_append
def aF:=@List.length_cons
def fu:=@List.length_drop
def lA:=@List.length_eq_zero_iff
def cB:=@List.length_filter_le
def aa:=@List.length_map
def dW:=@List.length_nil
def bD:=@List.length_range
def cU:=@List.length_replicate
def bc:=@List.length_reverse
def eO:=@List.length_set
def bq:=@List.length_take
def lO:=@List.length_zip
def cH:=@List.lookup_cons
def aw:=@List.map_append
def bZ:=@List.map_congr_left
def aq:=@List.map_cons
def jZ:=@List.map_drop
def mZ:=@List.map_eq_nil_iff
def cZ:=@List.map_map
def d6:=@List.map_nil
def iu:=@List.map_replicate
def d9:=@List.map_reverse
def gX:=@List.map_set
def mT:=@List.map_take
def aY:=@List.mem_append
def bo:=@List.mem_append_left
def aW:=@List.mem_append_right
def ax:=@List.mem_cons
def aG:=@List.mem_cons_of_mem
def aJ:=@List.mem_cons_self
def mH:=@List.mem_erase_of_ne
def bG:=@List.mem_filter
def dJ:=@List.mem_flatMap
def aP:=@List.mem_map
def dL:=@List.mem_nil_iff
def aQ:=@List.mem_of_getElem?
def jB:=@List.mem_of_getLast?
def b5:=@List.mem_of_mem_drop
def fU:=@List.mem_of_mem_take
def kL:=@List.mem_or_eq_of_mem_set
def bU:=@List.mem_range
def dM:=@List.mem_reverse
def aI:=@List.mem_singleton
def f8:=@List.nil_append
def dC:=@List.nodup_append
def bg:=@List.nodup_cons
def mh:=@List.nodup_nil
def hG:=@List.of_mem_zip
def fY:=@List.pairwise_iff_getElem
def fP:=@List.pairwise_map
def ms:=@List.perm_append_comm
def hJ:=@List.perm_append_singleton
def da:=@List.range_succ
def cw:=@List.replicate_succ
def ic:=@List.reverse_append
def dZ:=@List.reverse_cons
def jt:=@List.reverse_reverse
def lS:=@List.reverse_singleton
def lZ:=@List.singleton_append
def aM:=@List.size_toArray
def c7:=@List.sum_append
def aN:=@List.sum_cons
def cA:=@List.take_add_one
def b8:=@List.take_append_drop
def bx:=@List.take_length
def dc:=@List.take_of_length_le
def bK:=@List.take_succ
def fh:=@List.take_zero
def gB:=@Nat.add_le_add
def eT:=@Nat.add_mul
def iT:=@Nat.le_add_right
def kQ:=@Nat.le_of_eq
def iX:=@Nat.le_of_lt
def ap:=@Nat.le_refl
def fD:=@Nat.le_succ
def aL:=@Nat.le_trans
def cW:=@Nat.lt_irrefl
def gm:=@Nat.lt_of_le_of_lt
def aZ:=@Nat.lt_of_lt_of_le
def gH:=@Nat.lt_succ_of_lt
def fW:=@Nat.lt_succ_self
def iB:=@Nat.lt_trichotomy
def nR:=@Nat.mul_add
def g6:=@Nat.mul_comm
def bP:=@Nat.mul_le_mul
def jM:=@Nat.mul_le_mul_left
def cY:=@Nat.mul_le_mul_right
def eW:=@Nat.ne_of_gt
def aV:=@Nat.ne_of_lt
def jk:=@Nat.not_lt_zero
def jC:=@Nat.one_mul
def eR:=@Nat.pow_add
def fy:=@Nat.pow_le_pow_left
def bB:=@Nat.pow_le_pow_right
def mI:=@Nat.pow_lt_pow_right
def nI:=@Nat.pow_mul
def eV:=@Nat.pow_succ
def d7:=@Nat.sub_self
def gW:=@Nat.sub_zero
def kO:=@Nat.succ.inj
def iY:=@Nat.zero_add
def bj:=@Nat.zero_le
def eM:=@PySem.Obj.data_mapFields
def gN:=@PySem.Obj.isFreed_of_fields
def ft:=@Option.isSome_iff_exists
def gI:=@Option.isSome_map
def eI:=@Option.map_eq_some_iff
def jq:=@Option.map_some
def bi:=@Option.some.inj
def cG:=@PyProof.Rows.callWith_type1
def iz:=@PySem.F.slot_list_insert
def lR:=@PySem.W.cellsFrom_some
def c9:=@PySem.W.kia_one
def bT:=@PySem.W.mg_of
def dE:=@PySem.mem_of_lookup
def gR:=@beq_iff_eq
def kT:=@PySem.codeAny_mono
def kW:=@decide_eq_decide
def bA:=@decide_eq_false
def bh:=@decide_eq_true
def bM:=@decide_eq_true_eq
def fJ:=@decide_eq_true_iff
def ag:=@if_neg
def aj:=@if_pos
def bN:=@of_decide_eq_true
def ir:=@PySem.wpAny_Call_Name_kw
def ak:=@PySem.wpAny_bind
def gP:=@PySem.wpAny_call_entry
def ji:=@PySem.wpAny_execs_nil
def cD:=@PySem.wpAny_field
def gL:=@PySem.wpAny_holding
def ga:=@PySem.wpAny_ite_split
def lH:=@PySem.wpAny_letGo
def g9:=@PySem.wpAny_loadPart'
def di:=@PySem.wpAny_mono
def gJ:=@PySem.wpAny_newObj_type
def jX:=@PySem.wpAny_onRaise
def fG:=@PySem.wpAny_passesOwn
def ba:=@PySem.wpAny_pure
def iK:=@PySem.wpAny_pyIter_list
def jD:=@PySem.wpAny_pyIter_revIter
def kb:=@PySem.wpAny_pyIter_tuple
def d4:=@PySem.wpAny_seqItems
def im:=@PySem.wpAny_setField
def fI:=@PySem.wpAny_setField_rec
def lK:=@PySem.wpAny_specialOf
def jY:=@PySem.wpAny_standAt
def cP:=@PySem.wpAny_truthy_bool
def ju:=@PySem.wpAny_updateSeq_pair
namespace Hd
open PySem
def top(i:Nat):Stmt:=PySem.Challenge.pw_pebbletoll_k44_counted_by_trying.main.body.getD i (.Pass ⟨0,0,0,0⟩)
def inC(s:Stmt)(j:Nat):Stmt:=match s with
 | .ClassDef _ _ _ b _ _ _ _ _ _ _=>b.getD j (.Pass ⟨0,0,0,0⟩)
 | _=>.Pass ⟨0,0,0,0⟩
def kA(s:Stmt):Arguments:=match s with
 | .FunctionDef _ a _ _ _ _ _ _ _ _=>a
 | _=>{ posonlyargs:=[],args:=[],vararg:=none,kwonlyargs:=[],kw_defaults:=[],kwarg:=none,defaults:=[] }
def kB(s:Stmt):List Stmt:=match s with
 | .FunctionDef _ _ b _ _ _ _ _ _ _=>b
 | _=>[]
def kS(s:Stmt):Scope:=match s with
 | .FunctionDef _ _ _ _ _ _ sc _ _ _=>sc
 | _=>{ kind:=.function,names:=[],isGenerator:=false,isCoroutine:=false }
theorem ws:(PySem.Challenge.rw_pebbletoll_k44_counted_by_trying).wellSaid=true:=by kernel_rfl
open PySem.W PySem.Calls PyProof.Rows
def en(P:Params)(s:Str)(t:Tok)(v:Value):DictEntry:=.mk (PyData.keyHash P s) (.str s t) v
def cO(a b:Str)(k u g:Tok)(q n c l o:Int)(d:Value)(r:Bool)(m:Int)(i e f p t:Value)(h j:Int)(s:Tok):Obj:=.mk (.type "code") none (.fields #[.str a k,.str b u,.str "/claim/cut.py" g,.int q 0,.int n 0,.int c 0,.int l 0,.int o 0,d,.bool r,.int m 0,i,e,f,p,t,.int h 0,.int j 0,.str "/claim/cut.py" s]) #[]
def fR(a b:Str)(s:Stmt):Obj:=.mk .none none (.func (.mk a b (kA s) (.stmts (kB s)) (kS s) 0 [] .none .none .none .none none .none .none 0)) #[]
def fO(a b:Str)(s:Stmt)(c d:Value):Obj:=.mk (.type "function") none (.func (PySem.W.fnOf a b (kA s) (kB s) (kS s) .none .none .none c none d .none)) #[]
def tO(a:Array Value):Obj:=.mk (.type "tuple") none (.seq a 0) #[]
def fr(a:Str)(s:Stmt):Obj:=fR a a s
def fo(a:Str)(s:Stmt)(b c:Value):Obj:=fO a a s b c
def cF(a:Str)(t:Nat)(i j k:Int)(n q:Nat):Obj:=cO a a t (t+1) (t+2) i j 0 0 k (.ref n) true 181 (.ref (n+1)) .none (.ref (n+2)) (.ref (n+3)) (.ref (n+4)) q i (q+1)
def sT(t:Nat):List Str->List Value
 | []=>[]
 | s::l=>.str s t::sT (t+1) l
def tS(t:Nat)(l:List Str):Obj:=tO (sT t l).toArray
def tF:List (Int×Nat)->List Value
 | []=>[]
 | (i,a)::l=>.int i 0::.int 0 0::.ref a::tF l
def x0:Obj:=(tO #[])
def x1:Obj:=(.mk .none none (.fields #[]) #[])
def x2:Obj:=(cO "<module>" "<module>" 182 183 184 1 0 0 0 0 (.ref 11) false 181 (.ref 12) .none .none .none .none 185 1 186)
def x3:Obj:=(.mk (.type "frame") none .plain #[(some (.ref 13)),(some (.ref 3)),(some (.ref 3)),none,(some (.str "__main__" 164)),none,(some (.ref 0))])
noncomputable def ha(P:Params):Heap:=.mk (.mk (boot_o_0 P::boot_o_1 P::boot_o_2 P::boot_o_3 P::boot_o_4 P::boot_o_5 P::boot_o_6 P::boot_o_7 P::boot_o_8 P::boot_o_9 P::boot_o_10 P::x0::x1::x2::x3::[])) (.mk [] [] [] 0 [] [] false #[] [] 0 false false false 0 [2000,10,10] false 0 true [] [] 0 false)
noncomputable def hb(P:Params):Heap:=ha P
abbrev st0:List Stmt:=[top 0,top 1,top 2,top 3,top 4,top 5,top 6,top 7,top 8,top 9,top 10,top 11,top 12,top 13,top 14]
abbrev st1:List Stmt:=[top 15,top 16,top 17,top 18,top 19,top 20,top 21,top 22,top 23,top 24,top 25,top 26,top 27,top 28,top 29,top 30,top 31,top 32,top 33,top 34,top 35,top 36,top 37,top 38,top 39,top 40,top 41,top 42,top 43,top 44,top 45,top 46,top 47,top 48,top 49,top 50,top 51,top 52,top 53,top 54,top 55,top 56,top 57,top 58,top 59,top 60,top 61,top 62,top 63,top 64,top 65,top 66,top 67,top 68,top 69,top 70,top 71,top 72,top 73,top 74,top 75,top 76,top 77]
abbrev YJ:List Stmt:=[top 78,top 79,top 80,top 81,top 82,top 83,top 84]
abbrev bb:List Stmt:=st0++(st1++(YJ++([])))
def env:Env:={ scope:=PySem.Challenge.pw_pebbletoll_k44_counted_by_trying.main.scope,locals:=mainNs,globals:=mainNs,cells:=[],code:=(.ref 13),frame:=some 14 }
abbrev cE:Code:=.body bb env
theorem VT(w:World)(os:OsState):topGo treeTable PySem.Challenge.pw_pebbletoll_k44_counted_by_trying w 11 (some (.ref 6)) 12 (Shared.mk (boot_heap w.params) (.mk []) boot_drawn boot_toks os) (topStub PySem.Challenge.pw_pebbletoll_k44_counted_by_trying)=some ((Shared.mk (ha w.params) (.mk []) (.mk 0 0 0 0) 187 os),Thread.mk (denote treeTable cE) cE (.mk 0 0 0 0) [topFrame (.mk 0 0 0 0)]):=by kernel_rfl
theorem Wa(w:World)(os:OsState):segRun treeTable PySem.Challenge.pw_pebbletoll_k44_counted_by_trying w 11 (some (.ref 6)) 1 1 (Shared.mk (ha w.params) (.mk []) (.mk 0 0 0 0) 187 os) (blockOf bb env cE (.mk 0 0 0 0) [topFrame (.mk 0 0 0 0)])=some (.next,(Shared.mk (hb w.params) (.mk []) (.mk 0 0 0 0) 187 os),cE,(.mk 0 0 0 0)):=by kernel_rfl
def x4(P:Params):Obj:=(.mk (.type "dict") none (.dict #[(en P "__name__" 165 (.str "pebbletoll.webs" 319)),(en P "__doc__" 166 .none),(en P "__package__" 167 .none),(en P "__loader__" 168 (.builtin "__main__.__loader__#opaque")),(en P "__spec__" 169 .none),(en P "__annotations__" 170 (.ref 6)),(en P "__builtins__" 171 (.ref 4)),(en P "__file__" 173 (.str "/claim/cut.py" 172)),(en P "__cached__" 174 .none),(en P "TollError" 206 (.ref 24)),(en P "BadWeb" 222 (.ref 37)),(en P "NoPlace" 238 (.ref 49)),(en P "NoRoad" 254 (.ref 61)),(en P "BadLaying" 270 (.ref 73)),(en P "BadWish" 286 (.ref 85)),(en P "TooMany" 302 (.ref 97)),(en P "NoNumber" 318 (.ref 109)),(en P "MOST_PLACES" 322 (.int 24 321)),(en P "LEAST_TOLL" 324 (.int 2 323)),(en P "MOST_TOLL" 326 (.int 1000000 325)),(en P "Web" 354 (.ref 126)),(en P "toll" 367 (.ref 137))] 22) #[])
def x5:Obj:=(.mk .none none (.fields (tF [(2,20),(4,33),(6,45),(8,57),(10,69),(12,81),(14,93),(16,105),(22,117),(33,136)]).toArray) #[])
def x6:Obj:=(tO #[(.type "ValueError")])
def x7:Obj:=(.mk (.type "builtin_function_or_method") none (.fields #[(.builtin "type.__prepare__"),(.type "type")]) #[])
def x8(P:Params):Obj:=(.mk (.type "dict") none (.dict #[(en P "__module__" 196 (.str "pebbletoll.errors" 187)),(en P "__qualname__" 198 (.str "TollError" 197)),(en P "__firstlineno__" 200 (.int 2 199)),(en P "__static_attributes__" 201 (.ref 22))] 4) #[])
def x9:Obj:=(cO "TollError" "TollError" 191 192 193 2 0 0 0 0 (.ref 18) false 181 (.ref 19) .none .none .none .none 194 2 195)
def x10:Obj:=(.mk (.type "frame") none .plain #[(some (.ref 20)),(some (.ref 3)),(some (.ref 17)),none,(some (.str "pebbletoll.errors" 187)),none,(some (.ref 0))])
def x11(P:Params):Obj:=(.mk (.type "dict") none (.dict #[(en P "__module__" 196 (.str "pebbletoll.errors" 187)),(en P "__firstlineno__" 200 (.int 2 199)),(en P "__static_attributes__" 201 (.ref 22)),(en P "__weakref__" 203 (.ref 25)),(en P "__doc__" 204 .none)] 3) #[])
def x12:Obj:=(.mk (.type "type") none (.cls (.mk "TollError" [(.type "ValueError")] [(.ref 24),(.type "ValueError"),(.type "Exception"),(.type "BaseException"),(.type "object")] 23 "TollError" true [] [(.ref 37),(.ref 49),(.ref 61),(.ref 73),(.ref 85),(.ref 97),(.ref 109)] false none false)) #[(some (.ref 15)),none,(some (.str "TollError" 189)),(some (.str "TollError" 197)),(some (.builtin "ValueError.__new__")),(some (.bool true))])
def x13:Obj:=(.mk (.type "getset_descriptor") none (.fields #[(.str "__weakref__" 202),(.ref 24),(.builtin "ExceptionGroup.__weakref__"),.none]) #[])
def x14:Obj:=(.mk (.type "super") none (.fields #[(.ref 24),(.ref 24),(.ref 24)]) #[])
def x15:Obj:=(.mk (.type "builtin_function_or_method") none (.fields #[(.builtin "object.__init_subclass__"),(.ref 24)]) #[])
def WH:Obj:=(tO #[(.ref 24)])
def x17(P:Params):Obj:=(.mk (.type "dict") none (.dict #[(en P "__module__" 214 (.str "pebbletoll.errors" 187)),(en P "__qualname__" 216 (.str "BadWeb" 215)),(en P "__firstlineno__" 218 (.int 4 217)),(en P "__static_attributes__" 219 (.ref 35))] 4) #[])
def x18:Obj:=(cO "BadWeb" "BadWeb" 209 210 211 4 0 0 0 0 (.ref 31) false 181 (.ref 32) .none .none .none .none 212 4 213)
def x19:Obj:=(.mk (.type "frame") none .plain #[(some (.ref 33)),(some (.ref 3)),(some (.ref 30)),none,(some (.str "pebbletoll.errors" 187)),none,(some (.ref 0))])
def x20(P:Params):Obj:=(.mk (.type "dict") none (.dict #[(en P "__module__" 214 (.str "pebbletoll.errors" 187)),(en P "__firstlineno__" 218 (.int 4 217)),(en P "__static_attributes__" 219 (.ref 35)),(en P "__doc__" 220 .none)] 2) #[])
def x21:Obj:=(.mk (.type "type") none (.cls (.mk "BadWeb" [(.ref 24)] [(.ref 37),(.ref 24),(.type "ValueError"),(.type "Exception"),(.type "BaseException"),(.type "object")] 36 "BadWeb" true [] [] false none false)) #[(some (.ref 28)),none,(some (.str "BadWeb" 207)),(some (.str "BadWeb" 215)),(some (.builtin "ValueError.__new__")),(some (.bool true))])
def x22:Obj:=(.mk (.type "super") none (.fields #[(.ref 37),(.ref 37),(.ref 37)]) #[])
def x23:Obj:=(.mk (.type "builtin_function_or_method") none (.fields #[(.builtin "object.__init_subclass__"),(.ref 37)]) #[])
def x24(P:Params):Obj:=(.mk (.type "dict") none (.dict #[(en P "__module__" 230 (.str "pebbletoll.errors" 187)),(en P "__qualname__" 232 (.str "NoPlace" 231)),(en P "__firstlineno__" 234 (.int 6 233)),(en P "__static_attributes__" 235 (.ref 47))] 4) #[])
def x25:Obj:=(cO "NoPlace" "NoPlace" 225 226 227 6 0 0 0 0 (.ref 43) false 181 (.ref 44) .none .none .none .none 228 6 229)
def x26:Obj:=(.mk (.type "frame") none .plain #[(some (.ref 45)),(some (.ref 3)),(some (.ref 42)),none,(some (.str "pebbletoll.errors" 187)),none,(some (.ref 0))])
def x27(P:Params):Obj:=(.mk (.type "dict") none (.dict #[(en P "__module__" 230 (.str "pebbletoll.errors" 187)),(en P "__firstlineno__" 234 (.int 6 233)),(en P "__static_attributes__" 235 (.ref 47)),(en P "__doc__" 236 .none)] 2) #[])
def x28:Obj:=(.mk (.type "type") none (.cls (.mk "NoPlace" [(.ref 24)] [(.ref 49),(.ref 24),(.type "ValueError"),(.type "Exception"),(.type "BaseException"),(.type "object")] 48 "NoPlace" true [] [] false none false)) #[(some (.ref 40)),none,(some (.str "NoPlace" 223)),(some (.str "NoPlace" 231)),(some (.builtin "ValueError.__new__")),(some (.bool true))])
def x29:Obj:=(.mk (.type "super") none (.fields #[(.ref 49),(.ref 49),(.ref 49)]) #[])
def x30:Obj:=(.mk (.type "builtin_function_or_method") none (.fields #[(.builtin "object.__init_subclass__"),(.ref 49)]) #[])
def x31(P:Params):Obj:=(.mk (.type "dict") none (.dict #[(en P "__module__" 246 (.str "pebbletoll.errors" 187)),(en P "__qualname__" 248 (.str "NoRoad" 247)),(en P "__firstlineno__" 250 (.int 8 249)),(en P "__static_attributes__" 251 (.ref 59))] 4) #[])
def x32:Obj:=(cO "NoRoad" "NoRoad" 241 242 243 8 0 0 0 0 (.ref 55) false 181 (.ref 56) .none .none .none .none 244 8 245)
def x33:Obj:=(.mk (.type "frame") none .plain #[(some (.ref 57)),(some (.ref 3)),(some (.ref 54)),none,(some (.str "pebbletoll.errors" 187)),none,(some (.ref 0))])
def x34(P:Params):Obj:=(.mk (.type "dict") none (.dict #[(en P "__module__" 246 (.str "pebbletoll.errors" 187)),(en P "__firstlineno__" 250 (.int 8 249)),(en P "__static_attributes__" 251 (.ref 59)),(en P "__doc__" 252 .none)] 2) #[])
def x35:Obj:=(.mk (.type "type") none (.cls (.mk "NoRoad" [(.ref 24)] [(.ref 61),(.ref 24),(.type "ValueError"),(.type "Exception"),(.type "BaseException"),(.type "object")] 60 "NoRoad" true [] [] false none false)) #[(some (.ref 52)),none,(some (.str "NoRoad" 239)),(some (.str "NoRoad" 247)),(some (.builtin "ValueError.__new__")),(some (.bool true))])
def x36:Obj:=(.mk (.type "super") none (.fields #[(.ref 61),(.ref 61),(.ref 61)]) #[])
def x37:Obj:=(.mk (.type "builtin_function_or_method") none (.fields #[(.builtin "object.__init_subclass__"),(.ref 61)]) #[])
def x38(P:Params):Obj:=(.mk (.type "dict") none (.dict #[(en P "__module__" 262 (.str "pebbletoll.errors" 187)),(en P "__qualname__" 264 (.str "BadLaying" 263)),(en P "__firstlineno__" 266 (.int 10 265)),(en P "__static_attributes__" 267 (.ref 71))] 4) #[])
def x39:Obj:=(cO "BadLaying" "BadLaying" 257 258 259 10 0 0 0 0 (.ref 67) false 181 (.ref 68) .none .none .none .none 260 10 261)
def x40:Obj:=(.mk (.type "frame") none .plain #[(some (.ref 69)),(some (.ref 3)),(some (.ref 66)),none,(some (.str "pebbletoll.errors" 187)),none,(some (.ref 0))])
def x41(P:Params):Obj:=(.mk (.type "dict") none (.dict #[(en P "__module__" 262 (.str "pebbletoll.errors" 187)),(en P "__firstlineno__" 266 (.int 10 265)),(en P "__static_attributes__" 267 (.ref 71)),(en P "__doc__" 268 .none)] 2) #[])
def x42:Obj:=(.mk (.type "type") none (.cls (.mk "BadLaying" [(.ref 24)] [(.ref 73),(.ref 24),(.type "ValueError"),(.type "Exception"),(.type "BaseException"),(.type "object")] 72 "BadLaying" true [] [] false none false)) #[(some (.ref 64)),none,(some (.str "BadLaying" 255)),(some (.str "BadLaying" 263)),(some (.builtin "ValueError.__new__")),(some (.bool true))])
def x43:Obj:=(.mk (.type "super") none (.fields #[(.ref 73),(.ref 73),(.ref 73)]) #[])
def x44:Obj:=(.mk (.type "builtin_function_or_method") none (.fields #[(.builtin "object.__init_subclass__"),(.ref 73)]) #[])
def x45(P:Params):Obj:=(.mk (.type "dict") none (.dict #[(en P "__module__" 278 (.str "pebbletoll.errors" 187)),(en P "__qualname__" 280 (.str "BadWish" 279)),(en P "__firstlineno__" 282 (.int 12 281)),(en P "__static_attributes__" 283 (.ref 83))] 4) #[])
def x46:Obj:=(cO "BadWish" "BadWish" 273 274 275 12 0 0 0 0 (.ref 79) false 181 (.ref 80) .none .none .none .none 276 12 277)
def x47:Obj:=(.mk (.type "frame") none .plain #[(some (.ref 81)),(some (.ref 3)),(some (.ref 78)),none,(some (.str "pebbletoll.errors" 187)),none,(some (.ref 0))])
def x48(P:Params):Obj:=(.mk (.type "dict") none (.dict #[(en P "__module__" 278 (.str "pebbletoll.errors" 187)),(en P "__firstlineno__" 282 (.int 12 281)),(en P "__static_attributes__" 283 (.ref 83)),(en P "__doc__" 284 .none)] 2) #[])
def x49:Obj:=(.mk (.type "type") none (.cls (.mk "BadWish" [(.ref 24)] [(.ref 85),(.ref 24),(.type "ValueError"),(.type "Exception"),(.type "BaseException"),(.type "object")] 84 "BadWish" true [] [] false none false)) #[(some (.ref 76)),none,(some (.str "BadWish" 271)),(some (.str "BadWish" 279)),(some (.builtin "ValueError.__new__")),(some (.bool true))])
def x50:Obj:=(.mk (.type "super") none (.fields #[(.ref 85),(.ref 85),(.ref 85)]) #[])
def x51:Obj:=(.mk (.type "builtin_function_or_method") none (.fields #[(.builtin "object.__init_subclass__"),(.ref 85)]) #[])
def x52(P:Params):Obj:=(.mk (.type "dict") none (.dict #[(en P "__module__" 294 (.str "pebbletoll.errors" 187)),(en P "__qualname__" 296 (.str "TooMany" 295)),(en P "__firstlineno__" 298 (.int 14 297)),(en P "__static_attributes__" 299 (.ref 95))] 4) #[])
def x53:Obj:=(cO "TooMany" "TooMany" 289 290 291 14 0 0 0 0 (.ref 91) false 181 (.ref 92) .none .none .none .none 292 14 293)
def x54:Obj:=(.mk (.type "frame") none .plain #[(some (.ref 93)),(some (.ref 3)),(some (.ref 90)),none,(some (.str "pebbletoll.errors" 187)),none,(some (.ref 0))])
def x55(P:Params):Obj:=(.mk (.type "dict") none (.dict #[(en P "__module__" 294 (.str "pebbletoll.errors" 187)),(en P "__firstlineno__" 298 (.int 14 297)),(en P "__static_attributes__" 299 (.ref 95)),(en P "__doc__" 300 .none)] 2) #[])
def x56:Obj:=(.mk (.type "type") none (.cls (.mk "TooMany" [(.ref 24)] [(.ref 97),(.ref 24),(.type "ValueError"),(.type "Exception"),(.type "BaseException"),(.type "object")] 96 "TooMany" true [] [] false none false)) #[(some (.ref 88)),none,(some (.str "TooMany" 287)),(some (.str "TooMany" 295)),(some (.builtin "ValueError.__new__")),(some (.bool true))])
def x57:Obj:=(.mk (.type "super") none (.fields #[(.ref 97),(.ref 97),(.ref 97)]) #[])
def x58:Obj:=(.mk (.type "builtin_function_or_method") none (.fields #[(.builtin "object.__init_subclass__"),(.ref 97)]) #[])
def x59(P:Params):Obj:=(.mk (.type "dict") none (.dict #[(en P "__module__" 310 (.str "pebbletoll.errors" 187)),(en P "__qualname__" 312 (.str "NoNumber" 311)),(en P "__firstlineno__" 314 (.int 16 313)),(en P "__static_attributes__" 315 (.ref 107))] 4) #[])
def x60:Obj:=(cO "NoNumber" "NoNumber" 305 306 307 16 0 0 0 0 (.ref 103) false 181 (.ref 104) .none .none .none .none 308 16 309)
def x61:Obj:=(.mk (.type "frame") none .plain #[(some (.ref 105)),(some (.ref 3)),(some (.ref 102)),none,(some (.str "pebbletoll.errors" 187)),none,(some (.ref 0))])
def x62(P:Params):Obj:=(.mk (.type "dict") none (.dict #[(en P "__module__" 310 (.str "pebbletoll.errors" 187)),(en P "__firstlineno__" 314 (.int 16 313)),(en P "__static_attributes__" 315 (.ref 107)),(en P "__doc__" 316 .none)] 2) #[])
def x63:Obj:=(.mk (.type "type") none (.cls (.mk "NoNumber" [(.ref 24)] [(.ref 109),(.ref 24),(.type "ValueError"),(.type "Exception"),(.type "BaseException"),(.type "object")] 108 "NoNumber" true [] [] false none false)) #[(some (.ref 100)),none,(some (.str "NoNumber" 303)),(some (.str "NoNumber" 311)),(some (.builtin "ValueError.__new__")),(some (.bool true))])
def x64:Obj:=(.mk (.type "super") none (.fields #[(.ref 109),(.ref 109),(.ref 109)]) #[])
def x65:Obj:=(.mk (.type "builtin_function_or_method") none (.fields #[(.builtin "object.__init_subclass__"),(.ref 109)]) #[])
def x66(P:Params):Obj:=(.mk (.type "dict") none (.dict #[(en P "__module__" 334 (.str "pebbletoll.webs" 319)),(en P "__qualname__" 336 (.str "Web" 335)),(en P "__firstlineno__" 338 (.int 22 337)),(en P "__init__" 344 (.ref 123)),(en P "__static_attributes__" 347 (.ref 124))] 5) #[])
def x67:Obj:=(.mk .none none (.fields #[(.int 24 0),(.int 4 0),(.ref 122)]) #[])
def x68:Obj:=(cO "Web" "Web" 329 330 331 22 0 0 0 0 (.ref 115) false 181 (.ref 116) .none .none .none .none 332 22 333)
def x69:Obj:=(.mk (.type "frame") none .plain #[(some (.ref 117)),(some (.ref 3)),(some (.ref 114)),none,(some (.str "pebbletoll.webs" 319)),none,(some (.ref 0))])
def x70:Obj:=(fR "__init__" "Web.__init__" (inC (top 13) 0))
def x71:Obj:=(cO "__init__" "Web.__init__" 339 340 341 24 3 0 0 3 (.ref 119) true 181 (.ref 120) .none .none .none (.ref 121) 342 24 343)
def x72:Obj:=(fO "__init__" "Web.__init__" (inC (top 13) 0) (.str "pebbletoll.webs" 319) (.ref 122))
def x73:Obj:=(tS 345 ["many","roads"])
def x74(P:Params):Obj:=(.mk (.type "dict") none (.dict #[(en P "__module__" 334 (.str "pebbletoll.webs" 319)),(en P "__firstlineno__" 338 (.int 22 337)),(en P "__init__" 344 (.ref 123)),(en P "__static_attributes__" 347 (.ref 124)),(en P "__dict__" 349 (.ref 127)),(en P "__weakref__" 351 (.ref 128)),(en P "__doc__" 352 .none)] 4) #[])
def x75:Obj:=(.mk (.type "type") none (.cls (.mk "Web" [(.type "object")] [(.ref 126),(.type "object")] 125 "Web" true [] [] false none false)) #[none,none,(some (.str "Web" 327)),(some (.str "Web" 335)),(some (.builtin "object.__new__")),(some (.bool true))])
def x76:Obj:=(.mk (.type "getset_descriptor") none (.fields #[(.str "__dict__" 348),(.ref 126),(.builtin "function.__dict__"),(.builtin "function.__dict__#set")]) #[])
def x77:Obj:=(.mk (.type "getset_descriptor") none (.fields #[(.str "__weakref__" 350),(.ref 126),(.builtin "ExceptionGroup.__weakref__"),.none]) #[])
def x78:Obj:=(.mk (.type "super") none (.fields #[(.ref 126),(.ref 126),(.ref 126)]) #[])
def x79:Obj:=(.mk (.type "builtin_function_or_method") none (.fields #[(.builtin "object.__init_subclass__"),(.ref 126)]) #[])
def x80:Obj:=(tS 358 ["web","a","b","one","other","there","back"])
def x81:Obj:=(fr "toll" (top 14))
def x82:Obj:=(cF "toll" 355 33 3 3 131 365)
def x83:Obj:=(fo "toll" (top 14) (.str "pebbletoll.webs" 319) (.ref 136))
noncomputable def h0(P:Params):Heap:=.mk (.mk (boot_o_0 P::boot_o_1 P::boot_o_2 P::x4 P::boot_o_4 P::boot_o_5 P::boot_o_6 P::boot_o_7 P::boot_o_8 P::boot_o_9 P::boot_o_10 P::x0::x5::x2::x3::x6::x7::x8 P::x0::x1::x9::x10::x0::x11 P::x12::x13::x14::x15::WH::x7::x17 P::x0::x1::x18::x19::x0::x20 P::x21::x22::x23::WH::x7::x24 P::x0::x1::x25::x26::x0::x27 P::x28::x29::x30::WH::x7::x31 P::x0::x1::x32::x33::x0::x34 P::x35::x36::x37::WH::x7::x38 P::x0::x1::x39::x40::x0::x41 P::x42::x43::x44::WH::x7::x45 P::x0::x1::x46::x47::x0::x48 P::x49::x50::x51::WH::x7::x52 P::x0::x1::x53::x54::x0::x55 P::x56::x57::x58::WH::x7::x59 P::x0::x1::x60::x61::x0::x62 P::x63::x64::x65::x0::x7::x66 P::x0::x67::x68::x69::x0::x1::x70::x71::x72::x73::x74 P::x75::x76::x77::x78::x79::x0::x1::x80::x0::x81::x82::x83::[])) (.mk [] [] [] 0 [] [] false #[] [] 0 false false false 0 [2000,10,10] false 0 true [] [] 0 false)
theorem V2(w:World)(os:OsState):segRun treeTable PySem.Challenge.pw_pebbletoll_k44_counted_by_trying w 11 (some (.ref 6)) 1 1977 (Shared.mk (hb w.params) (.mk []) (.mk 0 0 0 0) 187 os) (piecesOf st0 env cE (.mk 0 0 0 0) [topFrame (.mk 0 0 0 0)])=some (.next,(Shared.mk (h0 w.params) (.mk []) (.mk 0 0 0 0) 368 os),cE,(.mk 33 0 41 50)):=by kernel_rfl
def x84(P:Params):Obj:=(.mk (.type "dict") none (.dict #[(en P "__name__" 165 (.str "law_pebbletoll_k44_counted_by_trying" 872)),(en P "__doc__" 166 .none),(en P "__package__" 167 .none),(en P "__loader__" 168 (.builtin "__main__.__loader__#opaque")),(en P "__spec__" 169 .none),(en P "__annotations__" 170 (.ref 6)),(en P "__builtins__" 171 (.ref 4)),(en P "__file__" 173 (.str "/claim/cut.py" 172)),(en P "__cached__" 174 .none),(en P "TollError" 206 (.ref 24)),(en P "BadWeb" 222 (.ref 37)),(en P "NoPlace" 238 (.ref 49)),(en P "NoRoad" 254 (.ref 61)),(en P "BadLaying" 270 (.ref 73)),(en P "BadWish" 286 (.ref 85)),(en P "TooMany" 302 (.ref 97)),(en P "NoNumber" 318 (.ref 109)),(en P "MOST_PLACES" 322 (.int 24 321)),(en P "LEAST_TOLL" 324 (.int 2 323)),(en P "MOST_TOLL" 326 (.int 1000000 325)),(en P "Web" 354 (.ref 126)),(en P "toll" 367 (.ref 137)),(en P "neighbours" 375 (.ref 144)),(en P "check_place" 383 (.ref 151)),(en P "is_place" 391 (.ref 158)),(en P "check_counts" 399 (.ref 165)),(en P "check_ends" 407 (.ref 172)),(en P "check_tolls" 415 (.ref 179)),(en P "check_joined" 427 (.ref 186)),(en P "other_ends" 437 (.ref 193)),(en P "laying_of" 447 (.ref 200)),(en P "is_filled" 453 (.ref 205)),(en P "total" 460 (.ref 212)),(en P "ahead" 475 (.ref 219)),(en P "down" 488 (.ref 226)),(en P "kids" 494 (.ref 231)),(en P "inward" 500 (.ref 236)),(en P "gathered" 514 (.ref 243)),(en P "most" 523 (.ref 250)),(en P "borne" 535 (.ref 257)),(en P "bound_by" 548 (.ref 264)),(en P "check_wanted" 557 (.ref 271)),(en P "least_weights" 568 (.ref 278)),(en P "enough" 577 (.ref 285)),(en P "bearers" 589 (.ref 292)),(en P "is_heavy" 599 (.ref 299)),(en P "differences" 607 (.ref 304)),(en P "value_at" 619 (.ref 311)),(en P "first_values" 625 (.ref 316)),(en P "parted" 631 (.ref 321)),(en P "parted_at" 637 (.ref 326)),(en P "MOST_PEBBLES" 641 (.int 1000000000000 640)),(en P "is_worst" 653 (.ref 333)),(en P "worst_many" 662 (.ref 340)),(en P "worst_at" 673 (.ref 347)),(en P "worst_number" 683 (.ref 354)),(en P "check_told" 692 (.ref 361)),(en P "Tally" 724 (.ref 376)),(en P "rests_of" 730 (.ref 385)),(en P "is_free" 739 (.ref 392)),(en P "ways_of" 748 (.ref 399)),(en P "ways_given" 758 (.ref 406)),(en P "held_for" 768 (.ref 413)),(en P "laying_at" 781 (.ref 420)),(en P "handed_down" 797 (.ref 427)),(en P "given_by" 809 (.ref 434)),(en P "last_within" 821 (.ref 441)),(en P "ways_before" 832 (.ref 448)),(en P "course" 846 (.ref 455)),(en P "number_of" 856 (.ref 462)),(en P "number_beneath" 871 (.ref 469)),(en P "_law_cell" 881 (.ref 476)),(en P "_law_mixed" 890 (.ref 483)),(en P "_law_numbers" 901 (.ref 490)),(en P "_law_toll" 908 (.ref 497)),(en P "_law_web" 925 (.ref 504)),(en P "_law_tolls" 937 (.ref 511)),(en P "_law_down" 943 (.ref 516))] 78) #[])
def x85:Obj:=(.mk .none none (.fields (tF [(2,20),(4,33),(6,45),(8,57),(10,69),(12,81),(14,93),(16,105),(22,117),(33,136),(42,143),(45,150),(48,157),(50,164),(55,171),(60,178),(64,185),(75,192),(84,199),(88,204),(90,211),(93,218),(104,225),(114,230),(116,235),(120,242),(125,249),(128,256),(130,263),(136,270),(140,277),(145,284),(147,291),(154,298),(157,303),(164,310),(171,315),(173,320),(175,325),(179,332),(183,339),(186,346),(192,353),(197,360),(200,367),(211,384),(223,391),(225,398),(227,405),(229,412),(231,419),(240,426),(251,433),(258,440),(268,447),(272,454),(279,461),(284,468),(294,475),(298,482),(303,489),(313,496),(317,503),(340,510),(346,515)]).toArray) #[])
def x86:Obj:=(tS 371 ["web","a"])
def x87:Obj:=(fr "neighbours" (top 15))
def x88:Obj:=(cF "neighbours" 368 42 2 3 138 373)
def x89:Obj:=(fo "neighbours" (top 15) (.str "pebbletoll.webs" 319) (.ref 143))
def x90:Obj:=(tS 379 ["web","number"])
def x91:Obj:=(fr "check_place" (top 16))
def x92:Obj:=(cF "check_place" 376 45 2 3 145 381)
def x93:Obj:=(fo "check_place" (top 16) (.str "pebbletoll.webs" 319) (.ref 150))
def x94:Obj:=(tS 387 ["many","number"])
def x95:Obj:=(fr "is_place" (top 17))
def x96:Obj:=(cF "is_place" 384 48 2 3 152 389)
def x97:Obj:=(fo "is_place" (top 17) (.str "pebbletoll.webs" 319) (.ref 157))
def x98:Obj:=(tS 395 ["many","roads"])
def x99:Obj:=(fr "check_counts" (top 18))
def O8:Obj:=(cF "check_counts" 392 50 2 3 159 397)
def QV:Obj:=(fo "check_counts" (top 18) (.str "pebbletoll.webs" 319) (.ref 164))
def UV:Obj:=(tS 403 ["many","road"])
def Sw:Obj:=(fr "check_ends" (top 19))
def Ql:Obj:=(cF "check_ends" 400 55 2 3 166 405)
def Qa:Obj:=(fo "check_ends" (top 19) (.str "pebbletoll.webs" 319) (.ref 171))
def Vf:Obj:=(tS 411 ["road","number"])
def TJ:Obj:=(fr "check_tolls" (top 20))
def QH:Obj:=(cF "check_tolls" 408 60 1 3 173 413)
def PF:Obj:=(fo "check_tolls" (top 20) (.str "pebbletoll.webs" 319) (.ref 178))
def Ug:Obj:=(tS 419 ["many","roads","reached","waiting","place","end"])
def UR:Obj:=(fr "check_joined" (top 21))
def PZ:Obj:=(cF "check_joined" 416 64 2 3 180 425)
def Op:Obj:=(fo "check_joined" (top 21) (.str "pebbletoll.webs" 319) (.ref 185))
def Uc:Obj:=(tS 431 ["roads","place","ends","road"])
def Td:Obj:=(fr "other_ends" (top 22))
def Qp:Obj:=(cF "other_ends" 428 75 2 3 187 435)
def Nk:Obj:=(fo "other_ends" (top 22) (.str "pebbletoll.webs" 319) (.ref 192))
def Tf:Obj:=(tS 443 ["web","numbers"])
def Uk:Obj:=(fr "laying_of" (top 24))
def Ol:Obj:=(cF "laying_of" 440 84 2 3 194 445)
def Py:Obj:=(fo "laying_of" (top 24) (.str "pebbletoll.layings" 438) (.ref 199))
def UN:Obj:=(fr "is_filled" (top 25))
def Qv:Obj:=(cO "is_filled" "is_filled" 448 449 450 88 2 0 0 3 (.ref 201) true 181 (.ref 202) .none .none .none (.ref 203) 451 88 452)
def QF:Obj:=(fo "is_filled" (top 25) (.str "pebbletoll.layings" 438) (.ref 204))
def UC:Obj:=(tO #[(.str "numbers" 457)])
def Vp:Obj:=(fr "total" (top 26))
def Oh:Obj:=(cF "total" 454 90 1 3 206 458)
def PU:Obj:=(fo "total" (top 26) (.str "pebbletoll.layings" 438) (.ref 211))
def TV:Obj:=(tS 466 ["web","r","nearer","waiting","place","front","kid"])
def SX:Obj:=(fr "ahead" (top 28))
def OT:Obj:=(cF "ahead" 463 93 2 3 213 473)
def Oi:Obj:=(fo "ahead" (top 28) (.str "pebbletoll.ways" 461) (.ref 218))
def SV:Obj:=(tS 479 ["web","r","nearer","places","waiting","place","kid"])
def Vg:Obj:=(fr "down" (top 29))
def Pg:Obj:=(cF "down" 476 104 2 3 220 486)
def Qr:Obj:=(fo "down" (top 29) (.str "pebbletoll.ways" 461) (.ref 225))
def Vh:Obj:=(fr "kids" (top 30))
def OM:Obj:=(cO "kids" "kids" 489 490 491 114 3 0 0 3 (.ref 227) true 181 (.ref 228) .none .none .none (.ref 229) 492 114 493)
def O6:Obj:=(fo "kids" (top 30) (.str "pebbletoll.ways" 461) (.ref 230))
def Si:Obj:=(fr "inward" (top 31))
def Pt:Obj:=(cO "inward" "inward" 495 496 497 116 2 0 0 3 (.ref 232) true 181 (.ref 233) .none .none .none (.ref 234) 498 116 499)
def NT:Obj:=(fo "inward" (top 31) (.str "pebbletoll.ways" 461) (.ref 235))
def S5:Obj:=(tS 506 ["web","laying","r","counts","place","front"])
def Ss:Obj:=(fr "gathered" (top 33))
def Nw:Obj:=(cF "gathered" 503 120 3 3 237 512)
def Pe:Obj:=(fo "gathered" (top 33) (.str "pebbletoll.bringing" 501) (.ref 242))
def Va:Obj:=(tS 518 ["web","laying","r"])
def SI:Obj:=(fr "most" (top 34))
def PV:Obj:=(cF "most" 515 125 3 3 244 521)
def OY:Obj:=(fo "most" (top 34) (.str "pebbletoll.bringing" 501) (.ref 249))
def U0:Obj:=(tS 529 ["web","weights","place","front"])
def So:Obj:=(fr "borne" (top 36))
def Oo:Obj:=(cF "borne" 526 128 4 3 251 533)
def Po:Obj:=(fo "borne" (top 36) (.str "pebbletoll.enough" 524) (.ref 256))
def TM:Obj:=(tS 539 ["web","r","wanted","weights","bound","place","front"])
def SS:Obj:=(fr "bound_by" (top 37))
def NJ:Obj:=(cF "bound_by" 536 130 4 3 258 546)
def O4:Obj:=(fo "bound_by" (top 37) (.str "pebbletoll.enough" 524) (.ref 263))
def T5:Obj:=(tS 552 ["web","r","wanted"])
def U7:Obj:=(fr "check_wanted" (top 38))
def PR:Obj:=(cF "check_wanted" 549 136 3 3 265 555)
def NY:Obj:=(fo "check_wanted" (top 38) (.str "pebbletoll.enough" 524) (.ref 270))
def U1:Obj:=(tS 561 ["web","r","weights","place","front"])
def SU:Obj:=(fr "least_weights" (top 39))
def OU:Obj:=(cF "least_weights" 558 140 2 3 272 566)
def O1:Obj:=(fo "least_weights" (top 39) (.str "pebbletoll.enough" 524) (.ref 277))
def Sm:Obj:=(tS 572 ["web","r","wanted"])
def SE:Obj:=(fr "enough" (top 40))
def OF:Obj:=(cF "enough" 569 145 3 3 279 575)
def Q0:Obj:=(fo "enough" (top 40) (.str "pebbletoll.enough" 524) (.ref 284))
def Sq:Obj:=(tS 581 ["web","r","weights","chosen","place","front"])
def U6:Obj:=(fr "bearers" (top 41))
def QR:Obj:=(cF "bearers" 578 147 2 3 286 587)
def OD:Obj:=(fo "bearers" (top 41) (.str "pebbletoll.enough" 524) (.ref 291))
def UX:Obj:=(tS 593 ["web","weights","place","front"])
def Sj:Obj:=(fr "is_heavy" (top 42))
def QW:Obj:=(cF "is_heavy" 590 154 4 3 293 597)
def OL:Obj:=(fo "is_heavy" (top 42) (.str "pebbletoll.enough" 524) (.ref 298))
def UA:Obj:=(fr "differences" (top 44))
def QJ:Obj:=(cO "differences" "differences" 602 603 604 157 1 0 0 3 (.ref 300) true 181 (.ref 301) .none .none .none (.ref 302) 605 157 606)
def Qz:Obj:=(fo "differences" (top 44) (.str "pebbletoll.polynomials" 600) (.ref 303))
def Ux:Obj:=(tS 611 ["found","at","value","choices","k","difference"])
def Vo:Obj:=(fr "value_at" (top 45))
def Oe:Obj:=(cF "value_at" 608 164 2 3 305 617)
def Nj:Obj:=(fo "value_at" (top 45) (.str "pebbletoll.polynomials" 600) (.ref 310))
def Ul:Obj:=(fr "first_values" (top 46))
def Pi:Obj:=(cO "first_values" "first_values" 620 621 622 171 2 0 0 3 (.ref 312) true 181 (.ref 313) .none .none .none (.ref 314) 623 171 624)
def QT:Obj:=(fo "first_values" (top 46) (.str "pebbletoll.polynomials" 600) (.ref 315))
def UL:Obj:=(fr "parted" (top 47))
def Pf:Obj:=(cO "parted" "parted" 626 627 628 173 2 0 0 3 (.ref 317) true 181 (.ref 318) .none .none .none (.ref 319) 629 173 630)
def Qc:Obj:=(fo "parted" (top 47) (.str "pebbletoll.polynomials" 600) (.ref 320))
def Vb:Obj:=(fr "parted_at" (top 48))
def NR:Obj:=(cO "parted_at" "parted_at" 632 633 634 175 3 0 0 3 (.ref 322) true 181 (.ref 323) .none .none .none (.ref 324) 635 175 636)
def Pp:Obj:=(fo "parted_at" (top 48) (.str "pebbletoll.polynomials" 600) (.ref 325))
def U4:Obj:=(tS 645 ["web","r","wanted","laying","least","counts"])
def UU:Obj:=(fr "is_worst" (top 51))
def NX:Obj:=(cF "is_worst" 642 179 4 3 327 651)
def P6:Obj:=(fo "is_worst" (top 51) (.str "pebbletoll.worsts" 638) (.ref 332))
def SH:Obj:=(tS 657 ["web","r","wanted"])
def TZ:Obj:=(fr "worst_many" (top 52))
def QL:Obj:=(cF "worst_many" 654 183 3 3 334 660)
def O7:Obj:=(fo "worst_many" (top 52) (.str "pebbletoll.worsts" 638) (.ref 339))
def Uw:Obj:=(tS 666 ["web","r","wanted","number","tally"])
def SL:Obj:=(fr "worst_at" (top 53))
def Oq:Obj:=(cF "worst_at" 663 186 4 3 341 671)
def NL:Obj:=(fo "worst_at" (top 53) (.str "pebbletoll.worsts" 638) (.ref 346))
def Tk:Obj:=(tS 677 ["web","r","wanted","laying"])
def Vk:Obj:=(fr "worst_number" (top 54))
def P3:Obj:=(cF "worst_number" 674 192 4 3 348 681)
def Qo:Obj:=(fo "worst_number" (top 54) (.str "pebbletoll.worsts" 638) (.ref 353))
def Uz:Obj:=(tS 687 ["web","r","wanted"])
def Vl:Obj:=(fr "check_told" (top 55))
def O2:Obj:=(cF "check_told" 684 197 3 3 355 690)
def P5:Obj:=(fo "check_told" (top 55) (.str "pebbletoll.worsts" 638) (.ref 360))
def SW(P:Params):Obj:=(.mk (.type "dict") none (.dict #[(en P "__module__" 700 (.str "pebbletoll.worsts" 638)),(en P "__qualname__" 702 (.str "Tally" 701)),(en P "__firstlineno__" 704 (.int 200 703)),(en P "__init__" 710 (.ref 373)),(en P "__static_attributes__" 717 (.ref 374))] 5) #[])
def Vm:Obj:=(.mk .none none (.fields #[(.int 202 0),(.int 4 0),(.ref 372)]) #[])
def Tv:Obj:=(cO "Tally" "Tally" 695 696 697 200 0 0 0 0 (.ref 365) false 181 (.ref 366) .none .none .none .none 698 200 699)
def Vj:Obj:=(.mk (.type "frame") none .plain #[(some (.ref 367)),(some (.ref 3)),(some (.ref 364)),none,(some (.str "pebbletoll.worsts" 638)),none,(some (.ref 0))])
def SK:Obj:=(fR "__init__" "Tally.__init__" (inC (top 56) 0))
def QN:Obj:=(cO "__init__" "Tally.__init__" 705 706 707 202 3 0 0 3 (.ref 369) true 181 (.ref 370) .none .none .none (.ref 371) 708 202 709)
def Ny:Obj:=(fO "__init__" "Tally.__init__" (inC (top 56) 0) (.str "pebbletoll.worsts" 638) (.ref 372))
def Vd:Obj:=(tS 711 ["bearers","down","kids","rests","web","weights"])
def Qf(P:Params):Obj:=(.mk (.type "dict") none (.dict #[(en P "__module__" 700 (.str "pebbletoll.worsts" 638)),(en P "__firstlineno__" 704 (.int 200 703)),(en P "__init__" 710 (.ref 373)),(en P "__static_attributes__" 717 (.ref 374)),(en P "__dict__" 719 (.ref 377)),(en P "__weakref__" 721 (.ref 378)),(en P "__doc__" 722 .none)] 4) #[])
def Od:Obj:=(.mk (.type "type") none (.cls (.mk "Tally" [(.type "object")] [(.ref 376),(.type "object")] 375 "Tally" true [] [] false none false)) #[none,none,(some (.str "Tally" 693)),(some (.str "Tally" 701)),(some (.builtin "object.__new__")),(some (.bool true))])
def PD:Obj:=(.mk (.type "getset_descriptor") none (.fields #[(.str "__dict__" 718),(.ref 376),(.builtin "function.__dict__"),(.builtin "function.__dict__#set")]) #[])
def Nr:Obj:=(.mk (.type "getset_descriptor") none (.fields #[(.str "__weakref__" 720),(.ref 376),(.builtin "ExceptionGroup.__weakref__"),.none]) #[])
def Tz:Obj:=(.mk (.type "super") none (.fields #[(.ref 376),(.ref 376),(.ref 376)]) #[])
def Ve:Obj:=(.mk (.type "builtin_function_or_method") none (.fields #[(.builtin "object.__init_subclass__"),(.ref 376)]) #[])
def To:Obj:=(fr "rests_of" (top 57))
def QM:Obj:=(cO "rests_of" "rests_of" 725 726 727 211 2 0 0 3 (.ref 381) true 181 (.ref 382) .none .none .none (.ref 383) 728 211 729)
def NU:Obj:=(fo "rests_of" (top 57) (.str "pebbletoll.worsts" 638) (.ref 384))
def UP:Obj:=(tS 734 ["tally","place","kid"])
def Ta:Obj:=(fr "is_free" (top 58))
def Nm:Obj:=(cF "is_free" 731 223 3 3 386 737)
def OZ:Obj:=(fo "is_free" (top 58) (.str "pebbletoll.worsts" 638) (.ref 391))
def Vn:Obj:=(tS 743 ["tally","place","held"])
def UT:Obj:=(fr "ways_of" (top 59))
def OA:Obj:=(cF "ways_of" 740 225 3 3 393 746)
def NQ:Obj:=(fo "ways_of" (top 59) (.str "pebbletoll.worsts" 638) (.ref 398))
def Tu:Obj:=(tS 752 ["tally","place","kid","given"])
def Vs:Obj:=(fr "ways_given" (top 60))
def Qm:Obj:=(cF "ways_given" 749 227 4 3 400 756)
def Nn:Obj:=(fo "ways_given" (top 60) (.str "pebbletoll.worsts" 638) (.ref 405))
def TY:Obj:=(tS 762 ["tally","place","kid","given"])
def SN:Obj:=(fr "held_for" (top 61))
def Ng:Obj:=(cF "held_for" 759 229 4 3 407 766)
def O0:Obj:=(fo "held_for" (top 61) (.str "pebbletoll.worsts" 638) (.ref 412))
def T4:Obj:=(tS 772 ["tally","held","number","counts","waiting","place","own"])
def Tx:Obj:=(fr "laying_at" (top 62))
def OJ:Obj:=(cF "laying_at" 769 231 3 3 414 779)
def NH:Obj:=(fo "laying_at" (top 62) (.str "pebbletoll.worsts" 638) (.ref 419))
def Sk:Obj:=(tS 785 ["tally","place","held","number","found","left","at","kid","given","ways_behind"])
def Tq:Obj:=(fr "handed_down" (top 63))
def QC:Obj:=(cF "handed_down" 782 240 4 3 421 795)
def OQ:Obj:=(fo "handed_down" (top 63) (.str "pebbletoll.worsts" 638) (.ref 426))
def UB:Obj:=(tS 801 ["tally","place","at","left","number","kid"])
def UD:Obj:=(fr "given_by" (top 64))
def Ps:Obj:=(cF "given_by" 798 251 5 3 428 807)
def Qy:Obj:=(fo "given_by" (top 64) (.str "pebbletoll.worsts" 638) (.ref 433))
def Sv:Obj:=(tS 813 ["before","top","number","low","high","middle"])
def TF:Obj:=(fr "last_within" (top 65))
def OX:Obj:=(cF "last_within" 810 258 3 3 435 819)
def Pl:Obj:=(fo "last_within" (top 65) (.str "pebbletoll.worsts" 638) (.ref 440))
def U9:Obj:=(tS 825 ["tally","place","at","left","given"])
def TC:Obj:=(fr "ways_before" (top 66))
def NN:Obj:=(cF "ways_before" 822 268 5 3 442 830)
def NB:Obj:=(fo "ways_before" (top 66) (.str "pebbletoll.worsts" 638) (.ref 447))
def Ua:Obj:=(tS 836 ["tally","place","at","left","kid","before","given","ways_behind"])
def Te:Obj:=(fr "course" (top 67))
def QY:Obj:=(cF "course" 833 272 4 3 449 844)
def QG:Obj:=(fo "course" (top 67) (.str "pebbletoll.worsts" 638) (.ref 454))
def SA:Obj:=(tS 850 ["tally","held","numbers","place"])
def UO:Obj:=(fr "number_of" (top 68))
def Qq:Obj:=(cF "number_of" 847 279 2 3 456 854)
def PK:Obj:=(fo "number_of" (top 68) (.str "pebbletoll.worsts" 638) (.ref 461))
def Sx:Obj:=(tS 860 ["tally","place","held","numbers","number","left","at","kid","given"])
def Us:Obj:=(fr "number_beneath" (top 69))
def PB:Obj:=(cF "number_beneath" 857 284 4 3 463 869)
def Om:Obj:=(fo "number_beneath" (top 69) (.str "pebbletoll.worsts" 638) (.ref 468))
def T8:Obj:=(tS 877 ["script","k"])
def SM:Obj:=(fr "_law_cell" (top 71))
def PP:Obj:=(cF "_law_cell" 874 294 2 3 470 879)
def Qt:Obj:=(fo "_law_cell" (top 71) (.str "law_pebbletoll_k44_counted_by_trying" 872) (.ref 475))
def Tt:Obj:=(tS 885 ["cell","k","m"])
def SG:Obj:=(fr "_law_mixed" (top 72))
def QI:Obj:=(cF "_law_mixed" 882 298 2 3 477 888)
def QE:Obj:=(fo "_law_mixed" (top 72) (.str "law_pebbletoll_k44_counted_by_trying" 872) (.ref 482))
def Vi:Obj:=(tS 894 ["script","many","rest","numbers","k"])
def SD:Obj:=(fr "_law_numbers" (top 73))
def PQ:Obj:=(cF "_law_numbers" 891 303 2 3 484 899)
def Pc:Obj:=(fo "_law_numbers" (top 73) (.str "law_pebbletoll_k44_counted_by_trying" 872) (.ref 489))
def Sz:Obj:=(tO #[(.str "rest" 905)])
def UF:Obj:=(fr "_law_toll" (top 74))
def OG:Obj:=(cF "_law_toll" 902 313 1 3 491 906)
def NG:Obj:=(fo "_law_toll" (top 74) (.str "law_pebbletoll_k44_counted_by_trying" 872) (.ref 496))
def Sn:Obj:=(tS 912 ["numbers","head","many","names","k","roads","rest","near","there","back","road"])
def Th:Obj:=(fr "_law_web" (top 75))
def NO:Obj:=(cF "_law_web" 909 317 1 3 498 923)
def Qe:Obj:=(fo "_law_web" (top 75) (.str "law_pebbletoll_k44_counted_by_trying" 872) (.ref 503))
def TB:Obj:=(tS 929 ["roads","tolls","one","other","there","back"])
def UK:Obj:=(fr "_law_tolls" (top 76))
def QD:Obj:=(cF "_law_tolls" 926 340 1 3 505 935)
def OI:Obj:=(fo "_law_tolls" (top 76) (.str "law_pebbletoll_k44_counted_by_trying" 872) (.ref 510))
def S9:Obj:=(fr "_law_down" (top 77))
def NF:Obj:=(cO "_law_down" "_law_down" 938 939 940 346 3 0 0 3 (.ref 512) true 181 (.ref 513) .none .none .none (.ref 514) 941 346 942)
def OH:Obj:=(fo "_law_down" (top 77) (.str "law_pebbletoll_k44_counted_by_trying" 872) (.ref 515))
noncomputable def h1(P:Params):Heap:=.mk (.mk (boot_o_0 P::boot_o_1 P::boot_o_2 P::x84 P::boot_o_4 P::boot_o_5 P::boot_o_6 P::boot_o_7 P::boot_o_8 P::boot_o_9 P::boot_o_10 P::x0::x85::x2::x3::x6::x7::x8 P::x0::x1::x9::x10::x0::x11 P::x12::x13::x14::x15::WH::x7::x17 P::x0::x1::x18::x19::x0::x20 P::x21::x22::x23::WH::x7::x24 P::x0::x1::x25::x26::x0::x27 P::x28::x29::x30::WH::x7::x31 P::x0::x1::x32::x33::x0::x34 P::x35::x36::x37::WH::x7::x38 P::x0::x1::x39::x40::x0::x41 P::x42::x43::x44::WH::x7::x45 P::x0::x1::x46::x47::x0::x48 P::x49::x50::x51::WH::x7::x52 P::x0::x1::x53::x54::x0::x55 P::x56::x57::x58::WH::x7::x59 P::x0::x1::x60::x61::x0::x62 P::x63::x64::x65::x0::x7::x66 P::x0::x67::x68::x69::x0::x1::x70::x71::x72::x73::x74 P::x75::x76::x77::x78::x79::x0::x1::x80::x0::x81::x82::x83::x0::x1::x86::x0::x87::x88::x89::x0::x1::x90::x0::x91::x92::x93::x0::x1::x94::x0::x95::x96::x97::x0::x1::x98::x0::x99::O8::QV::x0::x1::UV::x0::Sw::Ql::Qa::x0::x1::Vf::x0::TJ::QH::PF::x0::x1::Ug::x0::UR::PZ::Op::x0::x1::Uc::x0::Td::Qp::Nk::x0::x1::Tf::x0::Uk::Ol::Py::x0::x1::UN::Qv::QF::x0::x1::UC::x0::Vp::Oh::PU::x0::x1::TV::x0::SX::OT::Oi::x0::x1::SV::x0::Vg::Pg::Qr::x0::x1::Vh::OM::O6::x0::x1::Si::Pt::NT::x0::x1::S5::x0::Ss::Nw::Pe::x0::x1::Va::x0::SI::PV::OY::x0::x1::U0::x0::So::Oo::Po::x0::x1::TM::x0::SS::NJ::O4::x0::x1::T5::x0::U7::PR::NY::x0::x1::U1::x0::SU::OU::O1::x0::x1::Sm::x0::SE::OF::Q0::x0::x1::Sq::x0::U6::QR::OD::x0::x1::UX::x0::Sj::QW::OL::x0::x1::UA::QJ::Qz::x0::x1::Ux::x0::Vo::Oe::Nj::x0::x1::Ul::Pi::QT::x0::x1::UL::Pf::Qc::x0::x1::Vb::NR::Pp::x0::x1::U4::x0::UU::NX::P6::x0::x1::SH::x0::TZ::QL::O7::x0::x1::Uw::x0::SL::Oq::NL::x0::x1::Tk::x0::Vk::P3::Qo::x0::x1::Uz::x0::Vl::O2::P5::x0::x7::SW P::x0::Vm::Tv::Vj::x0::x1::SK::QN::Ny::Vd::Qf P::Od::PD::Nr::Tz::Ve::x0::x1::To::QM::NU::x0::x1::UP::x0::Ta::Nm::OZ::x0::x1::Vn::x0::UT::OA::NQ::x0::x1::Tu::x0::Vs::Qm::Nn::x0::x1::TY::x0::SN::Ng::O0::x0::x1::T4::x0::Tx::OJ::NH::x0::x1::Sk::x0::Tq::QC::OQ::x0::x1::UB::x0::UD::Ps::Qy::x0::x1::Sv::x0::TF::OX::Pl::x0::x1::U9::x0::TC::NN::NB::x0::x1::Ua::x0::Te::QY::QG::x0::x1::SA::x0::UO::Qq::PK::x0::x1::Sx::x0::Us::PB::Om::x0::x1::T8::x0::SM::PP::Qt::x0::x1::Tt::x0::SG::QI::QE::x0::x1::Vi::x0::SD::PQ::Pc::x0::x1::Sz::x0::UF::OG::NG::x0::x1::Sn::x0::Th::NO::Qe::x0::x1::TB::x0::UK::QD::OI::x0::x1::S9::NF::OH::[])) (.mk [] [] [] 0 [] [] false #[] [] 0 false false false 0 [2000,10,10] false 0 true [] [] 0 false)
theorem VW(w:World)(os:OsState):segRun treeTable PySem.Challenge.pw_pebbletoll_k44_counted_by_trying w 11 (some (.ref 6)) 1 1994 (Shared.mk (h0 w.params) (.mk []) (.mk 0 0 0 0) 368 os) (piecesOf st1 env cE (.mk 33 0 41 50) [topFrame (.mk 0 0 0 0)])=some (.next,(Shared.mk (h1 w.params) (.mk []) (.mk 0 0 0 0) 944 os),cE,(.mk 346 0 353 16)):=by kernel_rfl
def Uh(P:Params):Obj:=(.mk (.type "dict") none (.dict #[(en P "__name__" 165 (.str "law_pebbletoll_k44_counted_by_trying" 872)),(en P "__doc__" 166 .none),(en P "__package__" 167 .none),(en P "__loader__" 168 (.builtin "__main__.__loader__#opaque")),(en P "__spec__" 169 .none),(en P "__annotations__" 170 (.ref 6)),(en P "__builtins__" 171 (.ref 4)),(en P "__file__" 173 (.str "/claim/cut.py" 172)),(en P "__cached__" 174 .none),(en P "TollError" 206 (.ref 24)),(en P "BadWeb" 222 (.ref 37)),(en P "NoPlace" 238 (.ref 49)),(en P "NoRoad" 254 (.ref 61)),(en P "BadLaying" 270 (.ref 73)),(en P "BadWish" 286 (.ref 85)),(en P "TooMany" 302 (.ref 97)),(en P "NoNumber" 318 (.ref 109)),(en P "MOST_PLACES" 322 (.int 24 321)),(en P "LEAST_TOLL" 324 (.int 2 323)),(en P "MOST_TOLL" 326 (.int 1000000 325)),(en P "Web" 354 (.ref 126)),(en P "toll" 367 (.ref 137)),(en P "neighbours" 375 (.ref 144)),(en P "check_place" 383 (.ref 151)),(en P "is_place" 391 (.ref 158)),(en P "check_counts" 399 (.ref 165)),(en P "check_ends" 407 (.ref 172)),(en P "check_tolls" 415 (.ref 179)),(en P "check_joined" 427 (.ref 186)),(en P "other_ends" 437 (.ref 193)),(en P "laying_of" 447 (.ref 200)),(en P "is_filled" 453 (.ref 205)),(en P "total" 460 (.ref 212)),(en P "ahead" 475 (.ref 219)),(en P "down" 488 (.ref 226)),(en P "kids" 494 (.ref 231)),(en P "inward" 500 (.ref 236)),(en P "gathered" 514 (.ref 243)),(en P "most" 523 (.ref 250)),(en P "borne" 535 (.ref 257)),(en P "bound_by" 548 (.ref 264)),(en P "check_wanted" 557 (.ref 271)),(en P "least_weights" 568 (.ref 278)),(en P "enough" 577 (.ref 285)),(en P "bearers" 589 (.ref 292)),(en P "is_heavy" 599 (.ref 299)),(en P "differences" 607 (.ref 304)),(en P "value_at" 619 (.ref 311)),(en P "first_values" 625 (.ref 316)),(en P "parted" 631 (.ref 321)),(en P "parted_at" 637 (.ref 326)),(en P "MOST_PEBBLES" 641 (.int 1000000000000 640)),(en P "is_worst" 653 (.ref 333)),(en P "worst_many" 662 (.ref 340)),(en P "worst_at" 673 (.ref 347)),(en P "worst_number" 683 (.ref 354)),(en P "check_told" 692 (.ref 361)),(en P "Tally" 724 (.ref 376)),(en P "rests_of" 730 (.ref 385)),(en P "is_free" 739 (.ref 392)),(en P "ways_of" 748 (.ref 399)),(en P "ways_given" 758 (.ref 406)),(en P "held_for" 768 (.ref 413)),(en P "laying_at" 781 (.ref 420)),(en P "handed_down" 797 (.ref 427)),(en P "given_by" 809 (.ref 434)),(en P "last_within" 821 (.ref 441)),(en P "ways_before" 832 (.ref 448)),(en P "course" 846 (.ref 455)),(en P "number_of" 856 (.ref 462)),(en P "number_beneath" 871 (.ref 469)),(en P "_law_cell" 881 (.ref 476)),(en P "_law_mixed" 890 (.ref 483)),(en P "_law_numbers" 901 (.ref 490)),(en P "_law_toll" 908 (.ref 497)),(en P "_law_web" 925 (.ref 504)),(en P "_law_tolls" 937 (.ref 511)),(en P "_law_down" 943 (.ref 516)),(en P "_law_load" 955 (.ref 523)),(en P "_law_whole" 962 (.ref 530)),(en P "_law_rows_down" 968 (.ref 535)),(en P "_law_small" 983 (.ref 542)),(en P "_law_layings" 989 (.ref 547)),(en P "_law_due" 995 (.ref 552)),(en P "law" 1001 (.ref 557))] 85) #[])
def VX:Obj:=(.mk .none none (.fields (tF [(2,20),(4,33),(6,45),(8,57),(10,69),(12,81),(14,93),(16,105),(22,117),(33,136),(42,143),(45,150),(48,157),(50,164),(55,171),(60,178),(64,185),(75,192),(84,199),(88,204),(90,211),(93,218),(104,225),(114,230),(116,235),(120,242),(125,249),(128,256),(130,263),(136,270),(140,277),(145,284),(147,291),(154,298),(157,303),(164,310),(171,315),(173,320),(175,325),(179,332),(183,339),(186,346),(192,353),(197,360),(200,367),(211,384),(223,391),(225,398),(227,405),(229,412),(231,419),(240,426),(251,433),(258,440),(268,447),(272,454),(279,461),(284,468),(294,475),(298,482),(303,489),(313,496),(317,503),(340,510),(346,515),(354,522),(360,529),(362,534),(371,541),(378,546),(386,551),(394,556)]).toArray) #[])
def V5:Obj:=(tS 947 ["tolls","order","laying","have","place","near"])
def V9:Obj:=(fr "_law_load" (top 78))
def Uq:Obj:=(cF "_law_load" 944 354 3 3 517 953)
def SO:Obj:=(fo "_law_load" (top 78) (.str "law_pebbletoll_k44_counted_by_trying" 872) (.ref 522))
def VU:Obj:=(tO #[(.str "found" 959)])
def VQ:Obj:=(fr "_law_whole" (top 79))
def UE:Obj:=(cF "_law_whole" 956 360 1 3 524 960)
def Sy:Obj:=(fo "_law_whole" (top 79) (.str "law_pebbletoll_k44_counted_by_trying" 872) (.ref 529))
def V7:Obj:=(fr "_law_rows_down" (top 80))
def Uv:Obj:=(cO "_law_rows_down" "_law_rows_down" 963 964 965 362 1 0 0 3 (.ref 531) true 181 (.ref 532) .none .none .none (.ref 533) 966 362 967)
def SF:Obj:=(fo "_law_rows_down" (top 80) (.str "law_pebbletoll_k44_counted_by_trying" 872) (.ref 534))
def V8:Obj:=(tS 972 ["numbers","head","many","roads","told","one","other","there","back"])
def V1:Obj:=(fr "_law_small" (top 81))
def SC:Obj:=(cF "_law_small" 969 371 1 3 536 981)
def Tg:Obj:=(fo "_law_small" (top 81) (.str "law_pebbletoll_k44_counted_by_trying" 872) (.ref 541))
def V3:Obj:=(fr "_law_layings" (top 82))
def TW:Obj:=(cO "_law_layings" "_law_layings" 984 985 986 378 2 0 0 3 (.ref 543) true 181 (.ref 544) .none .none .none (.ref 545) 987 378 988)
def Uu:Obj:=(fo "_law_layings" (top 82) (.str "law_pebbletoll_k44_counted_by_trying" 872) (.ref 546))
def VR:Obj:=(fr "_law_due" (top 83))
def TQ:Obj:=(cO "_law_due" "_law_due" 990 991 992 386 5 0 0 3 (.ref 548) true 181 (.ref 549) .none .none .none (.ref 550) 993 386 994)
def Uj:Obj:=(fo "_law_due" (top 83) (.str "law_pebbletoll_k44_counted_by_trying" 872) (.ref 551))
def V0:Obj:=(fr "law" (top 84))
def Ts:Obj:=(cO "law" "law" 996 997 998 394 1 0 0 3 (.ref 553) true 181 (.ref 554) .none .none .none (.ref 555) 999 394 1000)
def Sl:Obj:=(fo "law" (top 84) (.str "law_pebbletoll_k44_counted_by_trying" 872) (.ref 556))
noncomputable def h2(P:Params):Heap:=.mk (.mk (boot_o_0 P::boot_o_1 P::boot_o_2 P::Uh P::boot_o_4 P::boot_o_5 P::boot_o_6 P::boot_o_7 P::boot_o_8 P::boot_o_9 P::boot_o_10 P::x0::VX::x2::x3::x6::x7::x8 P::x0::x1::x9::x10::x0::x11 P::x12::x13::x14::x15::WH::x7::x17 P::x0::x1::x18::x19::x0::x20 P::x21::x22::x23::WH::x7::x24 P::x0::x1::x25::x26::x0::x27 P::x28::x29::x30::WH::x7::x31 P::x0::x1::x32::x33::x0::x34 P::x35::x36::x37::WH::x7::x38 P::x0::x1::x39::x40::x0::x41 P::x42::x43::x44::WH::x7::x45 P::x0::x1::x46::x47::x0::x48 P::x49::x50::x51::WH::x7::x52 P::x0::x1::x53::x54::x0::x55 P::x56::x57::x58::WH::x7::x59 P::x0::x1::x60::x61::x0::x62 P::x63::x64::x65::x0::x7::x66 P::x0::x67::x68::x69::x0::x1::x70::x71::x72::x73::x74 P::x75::x76::x77::x78::x79::x0::x1::x80::x0::x81::x82::x83::x0::x1::x86::x0::x87::x88::x89::x0::x1::x90::x0::x91::x92::x93::x0::x1::x94::x0::x95::x96::x97::x0::x1::x98::x0::x99::O8::QV::x0::x1::UV::x0::Sw::Ql::Qa::x0::x1::Vf::x0::TJ::QH::PF::x0::x1::Ug::x0::UR::PZ::Op::x0::x1::Uc::x0::Td::Qp::Nk::x0::x1::Tf::x0::Uk::Ol::Py::x0::x1::UN::Qv::QF::x0::x1::UC::x0::Vp::Oh::PU::x0::x1::TV::x0::SX::OT::Oi::x0::x1::SV::x0::Vg::Pg::Qr::x0::x1::Vh::OM::O6::x0::x1::Si::Pt::NT::x0::x1::S5::x0::Ss::Nw::Pe::x0::x1::Va::x0::SI::PV::OY::x0::x1::U0::x0::So::Oo::Po::x0::x1::TM::x0::SS::NJ::O4::x0::x1::T5::x0::U7::PR::NY::x0::x1::U1::x0::SU::OU::O1::x0::x1::Sm::x0::SE::OF::Q0::x0::x1::Sq::x0::U6::QR::OD::x0::x1::UX::x0::Sj::QW::OL::x0::x1::UA::QJ::Qz::x0::x1::Ux::x0::Vo::Oe::Nj::x0::x1::Ul::Pi::QT::x0::x1::UL::Pf::Qc::x0::x1::Vb::NR::Pp::x0::x1::U4::x0::UU::NX::P6::x0::x1::SH::x0::TZ::QL::O7::x0::x1::Uw::x0::SL::Oq::NL::x0::x1::Tk::x0::Vk::P3::Qo::x0::x1::Uz::x0::Vl::O2::P5::x0::x7::SW P::x0::Vm::Tv::Vj::x0::x1::SK::QN::Ny::Vd::Qf P::Od::PD::Nr::Tz::Ve::x0::x1::To::QM::NU::x0::x1::UP::x0::Ta::Nm::OZ::x0::x1::Vn::x0::UT::OA::NQ::x0::x1::Tu::x0::Vs::Qm::Nn::x0::x1::TY::x0::SN::Ng::O0::x0::x1::T4::x0::Tx::OJ::NH::x0::x1::Sk::x0::Tq::QC::OQ::x0::x1::UB::x0::UD::Ps::Qy::x0::x1::Sv::x0::TF::OX::Pl::x0::x1::U9::x0::TC::NN::NB::x0::x1::Ua::x0::Te::QY::QG::x0::x1::SA::x0::UO::Qq::PK::x0::x1::Sx::x0::Us::PB::Om::x0::x1::T8::x0::SM::PP::Qt::x0::x1::Tt::x0::SG::QI::QE::x0::x1::Vi::x0::SD::PQ::Pc::x0::x1::Sz::x0::UF::OG::NG::x0::x1::Sn::x0::Th::NO::Qe::x0::x1::TB::x0::UK::QD::OI::x0::x1::S9::NF::OH::x0::x1::V5::x0::V9::Uq::SO::x0::x1::VU::x0::VQ::UE::Sy::x0::x1::V7::Uv::SF::x0::x1::V8::x0::V1::SC::Tg::x0::x1::V3::TW::Uu::x0::x1::VR::TQ::Uj::x0::x1::V0::Ts::Sl::[])) (.mk [] [] [] 0 [] [] false #[] [] 0 false false false 0 [2000,10,10] false 0 true [] [] 0 false)
theorem V6(w:World)(os:OsState):segRun treeTable PySem.Challenge.pw_pebbletoll_k44_counted_by_trying w 11 (some (.ref 6)) 1 205 (Shared.mk (h1 w.params) (.mk []) (.mk 0 0 0 0) 944 os) (piecesOf YJ env cE (.mk 346 0 353 16) [topFrame (.mk 0 0 0 0)])=some (.next,(Shared.mk (h2 w.params) (.mk []) (.mk 0 0 0 0) 1002 os),cE,(.mk 394 0 423 15)):=by kernel_rfl
noncomputable def hf(P:Params):Heap:=h2 P
theorem VL(w:World)(os:OsState):topRun treeTable PySem.Challenge.pw_pebbletoll_k44_counted_by_trying w 11 (some (.ref 6)) 2 (Shared.mk (h2 w.params) (.mk []) (.mk 0 0 0 0) 1002 os) (restOf [] env cE (.mk 394 0 423 15) [topFrame (.mk 0 0 0 0)])=some (Shared.mk (hf w.params) (.mk []) (.mk 0 0 0 0) 1002 os):=by kernel_rfl
theorem run(w:World)(os:OsState):topRun treeTable PySem.Challenge.pw_pebbletoll_k44_counted_by_trying w 11 (some (.ref 6)) (12+(1+(1977+(1994+(205+(2)))))) (Shared.mk (boot_heap w.params) (.mk []) boot_drawn boot_toks os) (topStub PySem.Challenge.pw_pebbletoll_k44_counted_by_trying)=some (Shared.mk (hf w.params) (.mk []) (.mk 0 0 0 0) 1002 os):=go_top (VT w os) (piece_block (Wa w os) (piece_app (V2 w os) (piece_app (VW w os) (piece_app (V6 w os) (VL w os)))))
theorem opn:∀w:World,(fencedOpening treeTable PySem.Challenge.pw_pebbletoll_k44_counted_by_trying w 8472).map (λs=>(s.heap,s.gens,s.drawn,s.toks))=some (boot_heap w.params,Array.mk [],boot_drawn,boot_toks):=boot_open (by kernel_rfl) (by decide) λs=>by kernel_rfl
theorem siz(w:World):((boot_heap w.params).isNs mainGlobals&&(Array.mk ([]:List GenState)).size==0,(boot_heap w.params).objs.size,(boot_heap w.params).nsMap mainGlobals "__annotations__")=(true,11,(some (.ref 6))):=by kernel_rfl
noncomputable def KK:Params->Frag:=λP=>
 (nat_lit 2,boot_o_2 P)::(nat_lit 3,Uh P)::(nat_lit 23,x11 P)::(nat_lit 24,x12)::(nat_lit 25,x13)::(nat_lit 36,x20 P)::(nat_lit 37,x21)::(nat_lit 48,x27 P)::(nat_lit 49,x28)::(nat_lit 60,x34 P)::(nat_lit 61,x35)::(nat_lit 72,x41 P)::(nat_lit 73,x42)::(nat_lit 84,x48 P)::(nat_lit 85,x49)::(nat_lit 96,x55 P)::(nat_lit 97,x56)::(nat_lit 108,x62 P)::(nat_lit 109,x63)::(nat_lit 122,x71)::(nat_lit 123,x72)::(nat_lit 125,x74 P)::(nat_lit 126,x75)::(nat_lit 127,x76)::(nat_lit 128,x77)::(nat_lit 136,x82)::(nat_lit 137,x83)::(nat_lit 143,x88)::(nat_lit 144,x89)::(nat_lit 150,x92)::(nat_lit 151,x93)::(nat_lit 157,x96)::(nat_lit 158,x97)::(nat_lit 164,O8)::(nat_lit 165,QV)::(nat_lit 171,Ql)::(nat_lit 172,Qa)::(nat_lit 178,QH)::(nat_lit 179,PF)::(nat_lit 185,PZ)::(nat_lit 186,Op)::(nat_lit 192,Qp)::(nat_lit 193,Nk)::(nat_lit 199,Ol)::(nat_lit 200,Py)::(nat_lit 204,Qv)::(nat_lit 205,QF)::(nat_lit 211,Oh)::(nat_lit 212,PU)::(nat_lit 218,OT)::(nat_lit 219,Oi)::(nat_lit 225,Pg)::(nat_lit 226,Qr)::(nat_lit 230,OM)::(nat_lit 231,O6)::(nat_lit 235,Pt)::(nat_lit 236,NT)::(nat_lit 242,Nw)::(nat_lit 243,Pe)::(nat_lit 249,PV)::(nat_lit 250,OY)::(nat_lit 256,Oo)::(nat_lit 257,Po)::(nat_lit 263,NJ)::(nat_lit 264,O4)::(nat_lit 270,PR)::(nat_lit 271,NY)::(nat_lit 277,OU)::(nat_lit 278,O1)::(nat_lit 284,OF)::(nat_lit 285,Q0)::(nat_lit 291,QR)::(nat_lit 292,OD)::(nat_lit 298,QW)::(nat_lit 299,OL)::(nat_lit 303,QJ)::(nat_lit 304,Qz)::(nat_lit 310,Oe)::(nat_lit 311,Nj)::(nat_lit 315,Pi)::(nat_lit 316,QT)::(nat_lit 320,Pf)::(nat_lit 321,Qc)::(nat_lit 325,NR)::(nat_lit 326,Pp)::(nat_lit 332,NX)::(nat_lit 333,P6)::(nat_lit 339,QL)::(nat_lit 340,O7)::(nat_lit 346,Oq)::(nat_lit 347,NL)::(nat_lit 353,P3)::(nat_lit 354,Qo)::(nat_lit 360,O2)::(nat_lit 361,P5)::(nat_lit 372,QN)::(nat_lit 373,Ny)::(nat_lit 375,Qf P)::(nat_lit 376,Od)::(nat_lit 377,PD)::(nat_lit 378,Nr)::(nat_lit 384,QM)::(nat_lit 385,NU)::(nat_lit 391,Nm)::(nat_lit 392,OZ)::(nat_lit 398,OA)::(nat_lit 399,NQ)::(nat_lit 405,Qm)::(nat_lit 406,Nn)::(nat_lit 412,Ng)::(nat_lit 413,O0)::(nat_lit 419,OJ)::(nat_lit 420,NH)::(nat_lit 426,QC)::(nat_lit 427,OQ)::(nat_lit 433,Ps)::(nat_lit 434,Qy)::(nat_lit 440,OX)::(nat_lit 441,Pl)::(nat_lit 447,NN)::(nat_lit 448,NB)::(nat_lit 454,QY)::(nat_lit 455,QG)::(nat_lit 461,Qq)::(nat_lit 462,PK)::(nat_lit 468,PB)::(nat_lit 469,Om)::(nat_lit 475,PP)::(nat_lit 476,Qt)::(nat_lit 482,QI)::(nat_lit 483,QE)::(nat_lit 489,PQ)::(nat_lit 490,Pc)::(nat_lit 496,OG)::(nat_lit 497,NG)::(nat_lit 503,NO)::(nat_lit 504,Qe)::(nat_lit 510,QD)::(nat_lit 511,OI)::(nat_lit 515,NF)::(nat_lit 516,OH)::(nat_lit 522,Uq)::(nat_lit 523,SO)::(nat_lit 529,UE)::(nat_lit 530,Sy)::(nat_lit 534,Uv)::(nat_lit 535,SF)::(nat_lit 541,SC)::(nat_lit 542,Tg)::(nat_lit 546,TW)::(nat_lit 547,Uu)::(nat_lit 551,TQ)::(nat_lit 552,Uj)::(nat_lit 556,Ts)::(nat_lit 557,Sl)::[]
abbrev qq:Program:=PySem.W.view PySem.Challenge.pw_pebbletoll_k44_counted_by_trying [1,2,3,4,5,6,7,8,10,11,12,13,14,15,16,17,18,19,20,21,22,24,25,26,28,29,30,31,33,34,36,37,38,39,40,41,42,44,45,46,47,48,50,51,52,53,54,55,56,57,58,59,60,61,62,63,64,65,66,67,68,69,71,72,73,74,75,76,77,78,79,80,81,82,83,84]
abbrev ZO:List Addr:=[2,3,23,24,25,36,37,48,49,60,61,72,73,84,85,96,97,108,109,122,123,125,126,127,128,136,137,143,144,150,151,157,158,164,165,171,172,178,179,185,186,192,193,199,200,204,205,211,212,218,219,225,226,230,231,235,236,242,243,249,250,256,257,263,264,270,271,277,278,284,285,291,292,298,299,303,304,310,311,315,316,320,321,325,326,332,333,339,340,346,347,353,354,360,361,372,373,375,376,377,378,384,385,391,392,398,399,405,406,412,413,419,420,426,427,433,434,440,441,447,448,454,455,461,462,468,469,475,476,482,483,489,490,496,497,503,504,510,511,515,516,522,523,529,530,534,535,541,542,546,547,551,552,556,557]
theorem Ϥ:∀P,ZO=(KK P).map (·.1):=λ_=>by kernel_rfl
theorem VD(w:World):(λos=>((staticsOk (importedModules PySem.Challenge.pw_pebbletoll_k44_counted_by_trying.main.body) (boot_heap w.params) (hf w.params)&&namesBound PySem.Challenge.pw_pebbletoll_k44_counted_by_trying (hf w.params)&&gensDone (Shared.mk (Hd.hf w.params) (.mk []) (.mk 0 0 0 0) 1002 os)&&laidKept (boot_heap w.params) (hf w.params)),openSeen qq [] (importedModules PySem.Challenge.pw_pebbletoll_k44_counted_by_trying.main.body) (λs=>PySem.W.xlAt Hd.qq [] s&&PySem.W.recOk (PySem.W.RowW.records (PySem.W.OpenRow.toRowW (PySem.Challenge.rw_pebbletoll_k44_counted_by_trying).row)) s) true (Shared.mk (Hd.hf w.params) (.mk []) (.mk 0 0 0 0) 1002 os),Hook.obs (PySem.W.kHook Hd.KK Hd.ZO Hd.Ϥ) (Shared.mk (Hd.hf w.params) (.mk []) (.mk 0 0 0 0) 1002 os)))=λ_=>(true,openGood qq [],Hook.val (PySem.W.kHook Hd.KK Hd.ZO Hd.Ϥ) w):=by kernel_rfl
theorem left:PySem.W.LeftO (PySem.Challenge.rw_pebbletoll_k44_counted_by_trying).row.prog qq [] (λs=>PySem.W.xlAt Hd.qq [] s&&PySem.W.recOk (PySem.W.RowW.records (PySem.W.OpenRow.toRowW (PySem.Challenge.rw_pebbletoll_k44_counted_by_trying).row)) s) (PySem.W.Hook.obs (PySem.W.kHook Hd.KK Hd.ZO Hd.Ϥ)) (PySem.W.Hook.val (PySem.W.kHook Hd.KK Hd.ZO Hd.Ϥ)) 8472:=LeftO.of_pieces opn siz run (by decide) VD
end Hd
abbrev hR:=Int->Int->Int
abbrev hL:=List (Int×Nat×Int)
abbrev hD:=List PySem.Str
abbrev g8:=PySem.Str->Option PySem.Value
abbrev gy:=List PySem.Value
abbrev gw:=List PySem.Addr
abbrev gn:=List (PySem.Addr×PySem.Obj)
abbrev gg:=PySem.W.Frag
abbrev gf:=PySem.Value->PySem.Shared->Prop
abbrev gb:=Int->Nat
abbrev f5:=Int->Int
abbrev f3:=List Int
namespace L2
open PySem PySem.Spec PyProof.Rows
abbrev Key:=Sum Int Str
def xV:Key->Value->Bool
 | .inl k,v=>Value.isInt k v
 | .inr x,v=>Value.isStrOf x v
def V4(w:World):Key->Int
 | .inl k=>hashInt k
 | .inr x=>hashStr w x
theorem jp:∀{k:Key}{v:Value},xV k v=true->(∃i t,k=Sum.inl i/\v=Value.int i t)\/(∃x t,k=Sum.inr x/\v=Value.str x t)
 | .inl i,v,h=>by
   obtain⟨t,e⟩:=Value.isInt_shape (k:=i) (v:=v) h;exact .inl ⟨i,t,rfl,e⟩
 | .inr x,v,h=>by
   obtain⟨t,e⟩:=Value.isStrOf_shape (x:=x) (v:=v) h;exact .inr ⟨x,t,rfl,e⟩
theorem L6(i:Int)(t:Tok):xV (.inl i) (.int i t)=true:=by simp[xV,Value.isInt]
theorem LY(x:Str)(t:Tok):xV (.inr x) (.str x t)=true:=by simp[xV,Value.isStrOf]
theorem UH(a b:Int):decide ((Sum.inl a:Key)=Sum.inl b)=(a==b):=by
 by_cases e:a=b
 .subst e;simp
 .have h:¬(Sum.inl a:Key)=Sum.inl b:=λq=>e (Sum.inl.inj q);rw[bA h];exact(beq_eq_false_iff_ne.mpr e).symm
theorem Ue(a b:Str):decide ((Sum.inr a:Key)=Sum.inr b)=decide (a=b):=by
 by_cases e:a=b
 .subst e;simp
 .have h:¬(Sum.inr a:Key)=Sum.inr b:=λq=>e (Sum.inr.inj q);rw[bA h,bA e]
theorem Su(a:Int)(b:Str):decide ((Sum.inl a:Key)=Sum.inr b)=false:=bA (λq=>nomatch q)
theorem Ut(a:Str)(b:Int):decide ((Sum.inr a:Key)=Sum.inl b)=false:=bA (λq=>nomatch q)
def ik(prog:Program)(w:World):PySem.KeyKind prog w Key where
 is:=xV
 hash:=V4 w
 inj:=λv a b d hb=>by
  rcases jp d with⟨i,t,rfl,rfl⟩|⟨x,t,rfl,rfl⟩
  .rcases jp hb with⟨j,u,rfl,e⟩|⟨y,u,rfl,e⟩
   .injection e with e1 _;rw[e1]
   .exact nomatch e
  .rcases jp hb with⟨j,u,rfl,e⟩|⟨y,u,rfl,e⟩
   .exact nomatch e
   .injection e with e1 _;rw[e1]
 byValue:=λk v h=>by
  rcases jp h with⟨i,t,rfl,rfl⟩|⟨x,t,rfl,rfl⟩<;>rfl
 pyHash:=λhv h=>by
  rcases jp hv with⟨i,t,rfl,rfl⟩|⟨x,t,rfl,rfl⟩
  .exact wpAny_pyHash_int h
  .exact wpAny_pyHash_str h
 eqBool:=λc hv h=>by
  rcases jp c with⟨i,t,rfl,rfl⟩|⟨x,t,rfl,rfl⟩
  .rcases jp hv with⟨j,u,rfl,rfl⟩|⟨y,u,rfl,rfl⟩
   .rw[UH]at h;exact wpAny_eqBool_int h
   .rw[Su]at h;exact SeqAt.EqAt.int_str i t y u _ _ _ _ h
  .rcases jp hv with⟨j,u,rfl,rfl⟩|⟨y,u,rfl,rfl⟩
   .rw[Ut]at h;exact SeqAt.EqAt.str_int x t j u _ _ _ _ h
   .rw[Ue]at h;exact wpAny_eqBool_str h
 «strs»:=λk x t v h=>by
  rcases jp h with⟨i,u,rfl,e⟩|⟨y,u,rfl,e⟩
  .exact nomatch e
  .injection e with e1 _
   subst e1;cases v<;>rfl
theorem Ht(a:Program)(w:World)(i:Int)(t:Tok):(ik a w).is (.inl i) (.int i t)=true:=L6 i t
theorem Hb(a:Program)(w:World)(x:Str)(t:Tok):(ik a w).is (.inr x) (.str x t)=true:=LY x t
inductive V where
 | ω|bl (b:Bool)|int (i:Int)|str (x:Str)|X3 (b:Array UInt8)|flt (b:UInt64)|ref (a:Addr)|ty (n:String)
 deriving DecidableEq
def RelV:V->Value->Prop
 | .ω,u=>u=Value.none
 | .bl b,u=>u=Value.bool b
 | .int i,u=>∃t,u=Value.int i t
 | .str x,u=>∃t,u=Value.str x t
 | .X3 b,u=>∃t,u=Value.bytes b t
 | .flt b,u=>∃t,u=Value.float b t
 | .ref a,u=>u=Value.ref a
 | .ty n,u=>u=Value.type n
abbrev Vals:List V->List Value->Prop:=Paired RelV
theorem Vals.length{b:List V}{a:gy}(r:Vals b a):b.length=a.length:=Paired.length r
theorem Vals.get:∀{b:List V}{a:gy}{i:Nat}{x:V},Vals b a->b[i]?=some x->∃u,a[i]?=some u/\RelV x u
 | _,_,_,_,.nil,e=>by simp at e
 | _,_,0,_,.cons r _,e=>by simp at e;subst e;exact⟨_,rfl,r⟩
 | _,_,i+1,x,.cons _ t,e=>by
   obtain⟨u,c,d⟩:=Vals.get (i:=i) (x:=x) t (by simpa using e);exact⟨u,by simpa using c,d⟩
theorem Vals.set{x:V}{u:Value}(r:RelV x u):∀{b:List V}{a:gy}(i:Nat),Vals b a->Vals (b.set i x) (a.set i u)
 | _,_,_,.nil=>.nil
 | _,_,0,.cons _ t=>.cons r t
 | _,_,i+1,.cons q t=>.cons q (Vals.set r i t)
theorem Vals.append:∀{c d:List V}{b a:gy},Vals c b->Vals d a->Vals (c++d) (b++a)
 | _,_,_,_,.nil,s=>s
 | _,_,_,_,.cons r t,s=>.cons r (Vals.append t s)
theorem Vals.take:∀{b:List V}{a:gy}(n:Nat),Vals b a->Vals (b.take n) (a.take n)
 | _,_,0,_=>.nil
 | _,_,_+1,.nil=>.nil
 | _,_,n+1,.cons r t=>.cons r (Vals.take n t)
theorem Vals.drop:∀{b:List V}{a:gy}(n:Nat),Vals b a->Vals (b.drop n) (a.drop n)
 | _,_,0,r=>r
 | _,_,_+1,.nil=>.nil
 | _,_,n+1,.cons _ t=>Vals.drop n t
def oK:Option V->Option Value->Prop
 | some v,some u=>RelV v u
 | none,none=>True
 | _,_=>False
def KV{a:Type}:List (a×V)->List (a×Value)->Prop:=Paired λ(p:a×V)(q:a×Value)=>p.1=q.1/\RelV p.2 q.2
def kV:Key->V
 | .inl i=>.int i
 | .inr x=>.str x
inductive HO where
 /-- a list -/
 | lst (xs:List V)
 /-- a tuple (never changes) -/
 | tup (xs:List V)
 /-- a dict aaF keys are ints and texts;one aaF keys are tuples of ints and texts (Wq empty one is both) -/
 | dK (θ:List (Key×V))|dT (θ:List (List Key×V))
 /-- a set of ints: its members,its size -/
 | set (S:Int->Bool) (n:Nat)
 /-- an instance of Wq class at C,its dict at dx,its attributes -/
 | ins (C dx:Addr) (fs:List (Str×V))
 /-- Wq dict of Wq instance at x -/
 | own (x:Addr)
 /-- Wq dict of an exception -/
 | xd (fs:List (Str×V))
 /-- a bound method,f of x -/
 | met (f x:Addr)
 /-- a range object lo,lo+1,.. b6 hi -/
 | Χ (lo hi:Int)
 /-- a thing abl is known to Wq object (Wq script;a dict while a loop walks it): read,never written while it is so -/
 | X4 (o:Obj) (u:HO)
 /-- a code acV table -/
 | tbl (ps:Array Value)
 /-- any other thing,by X5 is true of its one object (a def of akA own: anl a S n:=HO.ext λh=>..) -/
 | ext (φ:Heap->Prop)
abbrev Hp:=Addr->Option HO
def upd(H:Hp)(a:Addr)(o:HO):Hp:=λb=>if b=a then some o else H b
theorem ay{H:Hp}{a:Addr}{o:HO}:upd H a o a=some o:=by unfold upd;rw[aj rfl]
theorem aR{H:Hp}{a b:Addr}{o:HO}(h:b≠a):upd H a o b=H b:=by unfold upd;rw[ag h]
theorem sx{H:Hp}{a:Addr}{o u:HO}:upd (upd H a o) a u=upd H a u:=by
 funext b;unfold upd;split<;>rfl
theorem gV{H:Hp}{a b:Addr}{o u:HO}(h:H a=some o)(c:H b=some u)(d:o≠u):a≠b:=by
 intro e;subst e;rw[h]at c;exact d (bi c)
theorem cq{H:Hp}{a b:Addr}{o:HO}(h:H a=some o)(c:H b=none):a≠b:=by
 intro e;subst e;rw[h]at c;cases c
section
variable(P:Program)(w:World)
def Γ(H:Hp)(h:Heap)(a:Addr):HO->Prop
 | .lst c=>c.length<=sizeLine/\∃(b:gy)(n:Nat),Vals c b/\h.get? a=some { cls:=.type "list",data:=.seq b.toArray n }
 | .tup c=>c.length<=sizeLine/\∃b:List Value,Vals c b/\IsTup h a b.toArray
 | .dK θ=>θ.length<=sizeLine/\(a==sysModules)=false/\∃j,KV θ j/\h.DictOf (ik P w) a j
 | .dT θ=>θ.length<=sizeLine/\(a==sysModules)=false/\∃c:List (List Key×Addr×Value),Paired (λ(p:List Key×V)(q:List Key×Addr×Value)=>p.1=q.1/\H q.2.1=some (.tup (p.1.map kV))/\RelV p.2 q.2.2) θ c/\∃o g k,h.get? a=some o/\o.ExactDict/\o.data=.dict g k/\g.toList=c.map (entryOfKey (tupleKind (ik P w)))/\(c.map (·.1)).Nodup
 | .set S n=>h.SetOf (intKind P w) a S n
 | .ins C dx fs=>H dx=some (.own a)/\fs.length<=1000/\dx≠a/\h.get? a=some (PySem.W.instObj C dx)/\∃d,h.Ns1 dx d/\(∀f,oK (fs.lookup f) (d f))/\PySem.Within d (fs.map (·.1))
 | .own _=>∃o,h.get? a=some o
 | .xd fs=>∃d,h.Ns1 a d/\∀f,oK (fs.lookup f) (d f)
 | .Χ lo hi=>∃t u v,h.get? a=some { cls:=.type "range",data:=.fields #[.int lo t,.int hi u,.int 1 v] }
 | .X4 o u=>h.get? a=some o/\Γ H h a u
 | .tbl ps=>h.get? a=some { cls:=.none,data:=.fields ps }
 | .met f x=>h.get? a=some (PySem.W.methodObj (.ref f) (.ref x))
 | .ext φ=>φ h/\(∃o,h.get? a=some o)/\∀e i:Heap,φ e->(∀o,e.get? a=some o->i.get? a=some o)->φ i
def Ϭ(H:Hp)(h:Heap):Prop:=∀a o,H a=some o->Γ P w H h a o
end
section
variable{P:Program}{w:World}{H g:Hp}{h h':Heap}{a:Addr}{o:HO}
theorem Γ.lt(x:Γ P w H h a o):a<h.objs.size:=by
 cases o with
 | lst xs=>obtain⟨_,_,_,_,e⟩:=x;exact aH e
 | tup xs=>obtain⟨_,_,_,p⟩:=x;exact p.lt
 | dK θ=>obtain⟨_,_,_,_,o,_,_,e,_⟩:=x;exact aH e
 | dT θ=>obtain⟨_,_,_,_,o,_,_,e,_⟩:=x;exact aH e
 | set S n=>obtain⟨o,_,_,_,e,_⟩:=x;exact aH e
 | ins C dx fs=>obtain⟨_,_,_,e,_⟩:=x;exact aH e
 | own y=>obtain⟨_,e⟩:=x;exact aH e
 | xd fs=>obtain⟨_,⟨_,_,_,e,_⟩,_⟩:=x;exact aH e
 | Χ lo hi=>obtain⟨_,_,_,e⟩:=x;exact aH e
 | X4 ob u=>obtain⟨e,_⟩:=x;exact aH e
 | tbl ps=>exact aH (show h.get? a=some _ from x)
 | met f y=>exact aH (show h.get? a=some _ from x)
 | ext φ=>obtain⟨_,⟨_,e⟩,_⟩:=x;exact aH e
theorem Paired.Z0{e i:Type}{F G:e->i->Prop}:∀{d:List e}{c:List i},Paired F d c->(∀a b,F a b->G a b)->Paired G d c
 | _,_,.nil,_=>.nil
 | _,_,.cons r t,f=>.cons (f _ _ r) (Paired.Z0 t f)
theorem Paired.imp'{e i:Type}{F G:e->i->Prop}(f:∀a b,F a b->G a b){d:List e}{c:List i}(r:Paired F d c):Paired G d c:=Paired.Z0 r f
theorem Γ.iF(x:Γ P w H h a o)(k:∀b u,(b=a\/H b=some (.own a))->h.get? b=some u->h'.get? b=some u)(D:∀b,H b=some (.own a)->g b=some (.own a))(G:∀b s,H b=some (.tup s)->g b=some (.tup s)):Γ P w g h' a o:=by
 induction o with
 | lst s=>obtain⟨z,m,n,r,e⟩:=x;exact⟨z,m,n,r,k _ _ (.inl rfl) e⟩
 | tup s=>obtain⟨z,m,r,i,e,c⟩:=x;exact⟨z,m,r,i,k _ _ (.inl rfl) e,c⟩
 | dK θ=>obtain⟨z,y,F,r,i,j,l,e,c⟩:=x;exact⟨z,y,F,r,i,j,l,k _ _ (.inl rfl) e,c⟩
 | dT θ=>
   obtain⟨z,y,s,r,i,j,l,e,c⟩:=x;exact⟨z,y,s,Paired.Z0 r λp q z=>⟨z.1,G _ _ z.2.1,z.2.2⟩,i,j,l,k _ _ (.inl rfl) e,c⟩
 | set S n=>obtain⟨i,j,l,t,e,c⟩:=x;exact⟨i,j,l,t,k _ _ (.inl rfl) e,c⟩
 | ins C dx fs=>
   obtain⟨d,z,ne,e,A,⟨B,j,l,E,c⟩,r⟩:=x;exact⟨D _ d,z,ne,k _ _ (.inl rfl) e,A,⟨B,j,l,k _ _ (.inr d) E,c⟩,r⟩
 | own y=>obtain⟨i,e⟩:=x;exact⟨i,k _ _ (.inl rfl) e⟩
 | xd fs=>obtain⟨A,⟨B,j,l,e,c⟩,r⟩:=x;exact⟨A,⟨B,j,l,k _ _ (.inl rfl) e,c⟩,r⟩
 | Χ lo hi=>obtain⟨t,u,v,e⟩:=x;exact⟨t,u,v,k _ _ (.inl rfl) e⟩
 | X4 i u ih=>obtain⟨e,q⟩:=x;exact⟨k _ _ (.inl rfl) e,ih q⟩
 | tbl ps=>
   have e:h.get? a=some { cls:=.none,data:=.fields ps }:=x;show h'.get? a=some { cls:=.none,data:=.fields ps };exact k a _ (.inl rfl) e
 | met f y=>
   have e:h.get? a=some (PySem.W.methodObj (.ref f) (.ref y)):=x;show h'.get? a=some (PySem.W.methodObj (.ref f) (.ref y));exact k a _ (.inl rfl) e
 | ext φ=>obtain⟨p,⟨o,e⟩,st⟩:=x;exact⟨st _ _ p λo q=>k _ _ (.inl rfl) q,⟨o,k _ _ (.inl rfl) e⟩,st⟩
theorem Ϭ.lt(x:Ϭ P w H h)(e:H a=some o):a<h.objs.size:=(x a o e).lt
theorem Ϭ.fresh(x:Ϭ P w H h)(e:h.objs.size<=a):H a=none:=by
 cases q:H a with
 | none=>rfl
 | some u=>exact absurd (aZ (x.lt q) e) (cW _)
theorem Ϭ.kept(x:Ϭ P w H h)(k:∀b u,h.get? b=some u->h'.get? b=some u):Ϭ P w H h':=λa o e=>
 (x a o e).iF (λb u _ q=>k b u q) (λ_ q=>q) λ_ _ q=>q
theorem Ϭ.laid(x:Ϭ P w H h)(k:∀b u,h.get? b=some u->h'.get? b=some u)(j:h.objs.size<=a)(d:Γ P w (upd H a o) h' a o):Ϭ P w (upd H a o) h':=λb u e=>by
 have i:=x.fresh j;by_cases f:b=a
 .subst f;rw[ay]at e;cases e;exact d
 .rw[aR f]at e;exact(x b u e).iF (λc v _ q=>k c v q) (λc q=>by rw[aR (cq q i)];exact q) λc l q=>by rw[aR (cq q i)];exact q
end
def Rd(H:Hp)(a:Addr)(u:HO):Prop:=H a=some u\/∃o,H a=some (.X4 o u)
theorem Rd.ok{P:Program}{w:World}{H:Hp}{h:Heap}{a:Addr}{u:HO}(r:Rd H a u)(x:Ϭ P w H h):Γ P w H h a u:=by
 rcases r with r|⟨o,r⟩
 .exact x a u r
 .obtain⟨_,q⟩:=x a _ r;exact q
def Mut:Option HO->Prop
 | some (.lst _)=>True
 | some (.dK _)=>True
 | some (.dT _)=>True
 | some (.set _ _)=>True
 | some (.ins _ _ _)=>True
 | some (.ext _)=>True
 | _=>False
section
variable{P:Program}{w:World}{H:Hp}{h a:Heap}{x e:Addr}{d:HO}
theorem Ϭ.write(s:Ϭ P w H h)(l:Mut (H x))(p:e=x\/H e=some (.own x))(k:∀b u,b≠e->h.get? b=some u->a.get? b=some u)(o:∃u,a.get? e=some u)(n:Γ P w (upd H x d) a x d):Ϭ P w (upd H x d) a:=λb u q=>by
 have g:∀c y,H c=some (.own y)->c≠x:=λc y r z=>by subst z;rw[r]at l;exact l
 have m:∀c i,H c=some (.tup i)->c≠x:=λc i r z=>by subst z;rw[r]at l;exact l
 by_cases j:b=x
 .subst j;rw[ay]at q;cases q;exact n
 .rw[aR j]at q;by_cases f:b=e
  .have q':H b=some (.own x):=by
    rcases p with z|z
    .exact absurd (f.trans z) j
    .rw[f];exact z
   rw[q]at q';cases q';obtain⟨v,t⟩:=o;exact⟨v,by rw[f];exact t⟩
  .refine(s b u q).iF (λc v hc r=>k c v ?_ r) (λc r=>by rw[aR (g c b r)];exact r) λc i r=>by rw[aR (m c i r)];exact r
   rcases hc with rfl|hc
   .exact f
   .rintro rfl;rcases p with z|z
    .exact g c b hc z
    .rw[hc]at z;cases z;exact j rfl
end
structure Un(fs ex:gw)(H H':Hp)(h h':Heap):Prop where
 keep:∀b o,h.get? b=some o->H b=none->b∉fs->b∉ex->h'.get? b=some o
 slot:∀b o,h.get? b=some o->H b=none->b∈fs->b∉ex->∃sl,h'.get? b=some { o with slots:=sl }
 free:∀b o,h.get? b=some o->H b=none->b∉ex->H' b=none
 there:∀b o,h.get? b=some o->b∉ex->∃o',h'.get? b=some o'
 oR:∀b xs,H b=some (.tup xs)->H' b=some (.tup xs)
 iN:∀b o u,H b=some (.X4 o u)->H' b=some (.X4 o u)
 rW:∀b ps,H b=some (.tbl ps)->∃more,H' b=some (.tbl (ps++more))
section
variable{c g d j:gw}{H i l:Hp}{h f m h':Heap}{a x e:Addr}{o:HO}
theorem Un.any(u:Un c d H i h f){b:Addr}{k:Obj}(q:h.get? b=some k)(n:H b=none)(r:b∉d):∃s,f.get? b=some { k with slots:=s }:=by
 by_cases p:b∈c
 .exact u.slot b k q n p r
 .exact⟨k.slots,u.keep b k q n p r⟩
theorem Un.kept(k:∀b u,h.get? b=some u->h'.get? b=some u):Un c d H H h h':=⟨λb p q _ _ _=>k b p q,λb p q _ _ _=>⟨p.slots,k b p q⟩,λ_ _ _ n _=>n,λb p q _=>⟨p,k b p q⟩,λ_ _ q=>q,λ_ _ _ q=>q,λ_ r q=>⟨#[],by rw[q];simp⟩⟩
theorem Un.refl:Un c d H H h h:=Un.kept λ_ _ q=>q
theorem Un.laid(k:∀b u,h.get? b=some u->h'.get? b=some u)(r:h.objs.size<=a)(p:H a=none):Un c d H (upd H a o) h h' where
 keep:=λb u q _ _ _=>k b u q
 slot:=λb u q _ _ _=>⟨u.slots,k b u q⟩
 free:=λb u q n _=>by rw[aR (aV (aZ (aH q) r))];exact n
 there:=λb u q _=>⟨u,k b u q⟩
 oR:=λb s q=>by rw[aR (cq q p)];exact q
 iN:=λb u s q=>by rw[aR (cq q p)];exact q
 rW:=λb t q=>⟨#[],by rw[aR (cq q p),q];simp⟩
theorem Un.write(s:Mut (H x))(A:e=x\/H e=some (.own x))(k:∀b u,b≠e->h.get? b=some u->h'.get? b=some u)(t:∃u,h'.get? e=some u):Un c d H (upd H x o) h h':=by
 have w:∀b,H b=none->b≠x:=λb n z=>by subst z;rw[n]at s;exact s
 have y:∀b,H b=none->b≠e:=λb n z=>by
  subst z;rcases A with r|r
  .exact w b n r
  .rw[n]at r;cases r
 have v:∀b u,H b=some u->¬Mut (some u)->b≠x:=λb u q B z=>by subst z;rw[q]at s;exact B s
 refine⟨λb u q n _ _=>k b u (y b n) q,λb u q n _ _=>⟨u.slots,k b u (y b n) q⟩,λb u q n _=>by rw[aR (w b n)];exact n,λb u q _=>?_,λb C q=>by rw[aR (v b _ q λz=>z)];exact q,λb u C q=>by rw[aR (v b _ q λz=>z)];exact q,λb D q=>⟨#[],by rw[aR (v b _ q λz=>z),q];simp⟩⟩
 by_cases p:b=e
 .subst p;exact t
 .exact⟨u,k b u p q⟩
end
def trk(h:Heap)(H:Hp):List Addr:=(List.range h.objs.size).filter λa=>(H a).isSome
def vP(h:Heap)(H:Hp):Heap:=PySem.W.hideAll h (trk h H)
theorem LF(h:Heap)(H:Hp):(vP h H).objs.size=h.objs.size:=PySem.W.hideAll_size _ _
theorem Qn{h:Heap}{H:Hp}{b:Addr}{o:Obj}(e:h.get? b=some o)(n:H b=none):(vP h H).get? b=some o:=PySem.W.hideAll_get _ e λa=>by
 have q:(H b).isSome=true:=(bG.mp a).2;rw[n]at q;simp at q
theorem Ro{h:Heap}{H:Hp}{b:Addr}{o:Obj}(e:(vP h H).get? b=some o):h.get? b=some o/\H b=none:=by
 have a:h.get? b=some o:=PySem.W.of_hideAll (trk h H) e;refine⟨a,?_⟩;cases q:H b with
 | none=>rfl
 | some x=>
   have c:b∈trk h H:=bG.mpr ⟨bU.mpr (aH a),by simp[q]⟩;have z:(vP h H).get? b=none:=PySem.W.hideAll_none (trk h H) c;rw[z]at e;cases e
def RO(g h:Heap)(L:Addr):List (Addr×Obj):=(List.range h.objs.size).filterMap λa=>if a=L\/(g.get? a).isSome=true then none else(h.get? a).map λo=>(a,o)
def rest(g h:Heap)(L d:Addr):List (Addr×Obj):=(RO g h L).filter λp=>decide (p.1≠d)
structure Mod(K:gg)(mg:g8)(base:Heap):Prop where
 kin:K.In base
 glob:base.Ns mainGlobals mg
 blt:∃mb,base.Ns builtinsNs mb/\∀x:Str,x≠"__name__"->mb x=bootBuiltins x
 nolimit:base.NoLimit
structure Cx where
 prog:Program
 w:World
 K:PySem.W.Frag
 mg:Str->Option Value
 base:Heap
 A:Around
 N:List Str
 s₀:Shared
 H₀:Hp
 env:Env
 outer:List Env
 stack:List Env
 ex:List Addr
 fn:Str->Bool
 calm:Bool
 pn:List (Addr×Obj)
 xe:Value->Shared->Prop
def ϭ(l:List Env):List Addr:=l.filterMap (·.frame)
abbrev Cx.fs(X:Cx):List Addr:=ϭ X.outer
def Vis(a:Scope)(x:Str):Prop:=a.names.lookup x=some .local\/a.names.lookup x=some .cell\/a.names.lookup x=some .free
def Loc(a:Scope)(x:Str):Prop:=a.names.lookup x=some .local\/a.names.lookup x=some .cell
def VO(a:Env)(h:Heap)(m:g8)(x:Str)(u:Value):Prop:=(a.kindOf x=some .local/\m x=some u)\/((a.kindOf x=some .cell\/a.kindOf x=some .free)/\∃c,a.cells.lookup x=some c/\h.IsCell c (some u))
structure Cx.Ok(X:Cx):Prop where
 mod:Mod X.K X.mg X.base
 kind:X.env.scope.kind=.function
 glob:X.env.globals=mainGlobals
 blt:X.env.builtins=builtinsNs
 above:X.s₀.heap.objs.size<=X.env.locals
 inj:∀x y c,X.env.cells.lookup x=some c->X.env.cells.lookup y=some c->x=y
 has:∀x,(X.env.kindOf x=some .cell\/X.env.kindOf x=some .free)->∃c,X.env.cells.lookup x=some c
 cab:∀x c,X.fn x=true->X.env.cells.lookup x=some c->X.s₀.heap.objs.size<=c
 hd:X.calm=true->X.A.handled=none
 frames:X.A.frames=some X.stack
 stk:X.stack=X.outer\/(X.stack=X.env::X.outer/\X.env.frame=some X.env.locals)
 exf:∀b∈X.ex,b≠X.env.locals/\∀x c,X.env.cells.lookup x=some c->c≠b
 bs:∀b o,X.base.get? b=some o->X.s₀.heap.get? b=some o/\X.H₀ b=none
 Z1:X.base.objs.size<=X.s₀.heap.objs.size
 YK:∀b o,X.base.get? b=some o->b∉X.ex
 X6:∀b∈X.ex,b∉X.fs
 Ac:X.s₀.heap.FunFrames X.base X.outer
 frf:∀b∈X.fs,X.H₀ b=none
structure Inv(X:Cx)(pins:gn)(σ:List (Option V))(H:Hp)(s:Shared):Prop where
 ok:X.Ok
 os:s.os=X.s₀.os
 bare:AllBare s.gens
 base:Un X.fs X.ex X.H₀ H X.s₀.heap s.heap
 loc:∃m,s.heap.Ns X.env.locals m/\∀(i:Nat)(x:Str)(v:V),X.N[i]?=some x->σ[i]?=some (some v)->Vis X.env.scope x->∃u,RelV v u/\VO X.env s.heap m x u
 cell:∀x c,X.env.cells.lookup x=some c->∃v,s.heap.IsCell c v
 free:H X.env.locals=none
 Ϟ:∀x c,X.env.cells.lookup x=some c->H c=none
 pin:∀p∈X.pn++pins,s.heap.get? p.1=some p.2/\H p.1=none/\p.1≠X.env.locals/\p.1∉X.fs/\∀v,p.2.data≠.cell v
 ψ:Ϭ X.prog X.w H s.heap
 len:σ.length=X.N.length
section
variable{X:Cx}{f:gn}{g:List (Option V)}{H B:Hp}{s:Shared}{h':Heap}
theorem Cx.Ok.ahR(a:X.Ok){b:Addr}{o:Obj}(e:X.base.get? b=some o):b∉X.fs:=λc=>by
 have:=(a.Ac.mem c).1;rw[e]at this;cases this
theorem Inv.bs(I:Inv X f g H s):∀b o,X.base.get? b=some o->s.heap.get? b=some o/\H b=none:=λb o e=>
 ⟨I.base.keep b o (I.ok.bs b o e).1 (I.ok.bs b o e).2 (I.ok.ahR e) (I.ok.YK b o e),I.base.free b o (I.ok.bs b o e).1 (I.ok.bs b o e).2 (I.ok.YK b o e)⟩
theorem Inv.bk(I:Inv X f g H s):∀b o,X.base.get? b=some o->s.heap.get? b=some o:=λb o e=>(I.bs b o e).1
theorem Inv.mod(I:Inv X f g H s):Mod X.K X.mg X.base:=I.ok.mod
theorem Inv.WC(I:Inv X f g H s):X.K.In s.heap:=I.ok.mod.kin.keeps I.bk
theorem Inv.lt(I:Inv X f g H s):X.env.locals<s.heap.objs.size:=let ⟨_,hn,_⟩:=I.loc;hn.lt
theorem Inv.sz(I:Inv X f g H s):X.s₀.heap.objs.size<=s.heap.objs.size:=aL I.ok.above (iX I.lt)
theorem Inv.ahS(I:Inv X f g H s){a:Addr}(h:s.heap.objs.size<=a):a∉X.fs:=λb=>by
 obtain⟨_,o,c,_⟩:=I.ok.Ac.mem b;exact absurd (aZ (aH c) (aL I.sz h)) (cW _)
theorem Inv.cne(I:Inv X f g H s):∀x c,X.env.cells.lookup x=some c->c≠X.env.locals:=λx c e z=>by
 obtain⟨v,o,b,d⟩:=I.cell x c e;obtain⟨m,⟨i,j,k,h,a,_⟩,_⟩:=I.loc;rw[z,h]at b;cases b;rw[a]at d;cases d
theorem Inv.Ac(I:Inv X f g H s):s.heap.FunFrames X.base X.outer:=by
 have a:∀(l:List Env),(∀b∈ϭ l,b∈X.fs)->X.s₀.heap.FunFrames X.base l->s.heap.FunFrames X.base l:=by
  intro l
  induction l with
  | nil=>intro _ _;trivial
  | cons env r ih=>
    intro i k;obtain⟨j,⟨L,o,h,p,n,q⟩,m⟩:=k;have d:L∈X.fs:=i L (by unfold ϭ;rw[iw,h];exact aJ);obtain⟨t,e⟩:=I.base.slot L o n (I.ok.frf L d) d λz=>I.ok.X6 L z d;exact⟨j,⟨L,_,h,p,e,q⟩,ih (λb c=>i b (by unfold ϭ;rw[iw,h];exact aG _ c)) m⟩
 exact a X.outer (λ_ c=>c) I.ok.Ac
theorem Inv.stack(I:Inv X f g H s):s.heap.FunFrames X.base X.stack:=by
 rcases I.ok.stk with e|⟨e,a⟩
 .rw[e];exact I.Ac
 .rw[e];obtain⟨m,b,_⟩:=I.loc;refine .cons (by rw[I.ok.kind];decide) a b ?_ I.Ac;exact Heap.get?_none_of_le (aL I.ok.Z1 I.ok.above)
theorem Inv.X8(I:Inv X f g H s):∀b∈ϭ X.stack,b∈X.env.locals::X.fs:=λb a=>by
 rcases I.ok.stk with e|⟨e,c⟩
 .rw[e]at a;exact aG _ a
 .rw[e]at a;unfold ϭ at a;rw[iw,c]at a;exact a
theorem Inv.Wn(I:Inv X f g H s):∀b∈ϭ X.stack,H b=none:=λb hb=>by
 rcases ax.mp (I.X8 b hb)with e|hb
 .rw[e];exact I.free
 .obtain⟨_,o,ho,_⟩:=I.ok.Ac.mem hb;exact I.base.free b o ho (I.ok.frf b hb) λz=>I.ok.X6 b z hb
theorem Inv.step{g':Array GenState}{t':Nat}{d':Drawn}{ch:gw}(I:Inv X f g H s)(G:∀b∈ch,(b∈X.ex\/X.s₀.heap.objs.size<=b)/\b≠X.env.locals/\(∀x c,X.env.cells.lookup x=some c->c≠b)/\∀p∈X.pn++f,p.1≠b)(keep:∀b o,b≠X.env.locals->b∉X.fs->b∉ch->s.heap.get? b=some o->H b=none->h'.get? b=some o)(slot:∀b o,b≠X.env.locals->b∈X.fs->b∉ch->s.heap.get? b=some o->H b=none->∃N,h'.get? b=some { o with slots:=N })(free:∀b o,b∉ch->s.heap.get? b=some o->H b=none->B b=none)(there:∀b o,b∉ch->s.heap.get? b=some o->∃E,h'.get? b=some E)(oR:∀b A,H b=some (.tup A)->B b=some (.tup A))(iN:∀b o u,H b=some (.X4 o u)->B b=some (.X4 o u))(rW:∀b L,H b=some (.tbl L)->∃F,B b=some (.tbl (L++F)))(R:∀m,s.heap.Ns X.env.locals m->h'.Ns X.env.locals m)(U:Ϭ X.prog X.w B h')(V:AllBare g'):Inv X f g B { s with heap:=h',gens:=g',drawn:=d',toks:=t' }:=by
 have K:∀b o,X.s₀.heap.get? b=some o->b≠X.env.locals:=λb o e=>aV (aZ (aH e) I.ok.above);have t:∀b o,X.s₀.heap.get? b=some o->b∉X.ex->b∉ch:=λb o e a C=>by
  rcases(G b C).1 with z|z
  .exact a z
  .exact absurd (aZ (aH e) z) (cW _)
 have j:∀x c,X.env.cells.lookup x=some c->∀v,s.heap.IsCell c v->h'.IsCell c v:=λx c e v ⟨o,D,O⟩=>by
  have h:c∉ch:=λz=>(G c z).2.2.1 x c e rfl;by_cases P:c∈X.fs
  .obtain⟨N,q⟩:=slot c o (I.cne x c e) P h D (I.Ϟ x c e);exact⟨_,q,O⟩
  .exact⟨o,keep c o (I.cne x c e) P h D (I.Ϟ x c e),O⟩
 refine⟨I.ok,I.os,V,⟨λb o e n C a=>?_,λb o e n C a=>?_,λb o e n a=>?_,λb o e a=>?_,λb A e=>oR b A (I.base.oR b A e),λb o A e=>iN b o A (I.base.iN b o A e),λb L e=>?_⟩,?_,λx c e=>?_,?_,λx c e=>?_,λp Q=>?_,U,I.len⟩
 .exact keep b o (K b o e) C (t b o e a) (I.base.keep b o e n C a) (I.base.free b o e n a)
 .obtain⟨N,y⟩:=I.base.slot b o e n C a;obtain⟨M,J⟩:=slot b _ (K b o e) C (t b o e a) y (I.base.free b o e n a);exact⟨M,J⟩
 .obtain⟨E,y⟩:=I.base.there b o e a;exact free b E (t b o e a) y (I.base.free b o e n a)
 .obtain⟨E,y⟩:=I.base.there b o e a;exact there b E (t b o e a) y
 .obtain⟨m1,y⟩:=I.base.rW b L e;obtain⟨S,J⟩:=rW b _ y;exact⟨m1++S,by rw[J,Array.append_assoc]⟩
 .obtain⟨m,hn,hl⟩:=I.loc;refine⟨m,R m hn,λi x v y J T=>?_⟩;obtain⟨u,r,l⟩:=hl i x v y J T;refine⟨u,r,?_⟩;rcases l with l|⟨k,c,e,z⟩
  .exact .inl l
  .exact .inr ⟨k,c,e,j x c e _ z⟩
 .obtain⟨v,z⟩:=I.cell x c e;exact⟨v,j x c e v z⟩
 .obtain⟨m,⟨o,_,_,D,_⟩,_⟩:=I.loc;exact free _ o (λz=>(G _ z).2.1 rfl) D I.free
 .obtain⟨v,o,D,O⟩:=I.cell x c e;exact free c o (λz=>(G c z).2.2.1 x c e rfl) D (I.Ϟ x c e)
 .obtain⟨e,n,ne,nf,d⟩:=I.pin p Q;have h:p.1∉ch:=λz=>(G p.1 z).2.2.2 p Q rfl;exact⟨keep p.1 p.2 ne nf h e n,free p.1 p.2 h e n,ne,nf,d⟩
theorem Inv.un{t':Nat}(I:Inv X f g H s)(u:Un X.fs [] H B s.heap h')(l:Ϭ X.prog X.w B h'):Inv X f g B { s with heap:=h',toks:=t' }:=by
 obtain⟨m,⟨o,t,v,h,r⟩,_⟩:=id I.loc;obtain⟨y,p⟩:=u.any h I.free (by simp);exact I.step (g':=s.gens) (d':=s.drawn) (ch:=[]) (λ_ z=>nomatch z) (λb o _ c _ e n=>u.keep b o e n c (by simp)) (λb o _ c _ e n=>u.slot b o e n c (by simp)) (λb o _ e n=>u.free b o e n (by simp)) (λb o _ e=>u.there b o e (by simp)) u.oR u.iN u.rW (λx k=>by
  obtain⟨q,d,a,i,j⟩:=k;rw[h]at i;cases i;exact⟨_,d,a,p,j⟩) l I.bare
theorem Inv.call{g':Array GenState}{t':Nat}{d':Drawn}{ch:gw}(I:Inv X f g H s)(u:Un (ϭ X.stack) ch H B s.heap h')(y:Ϭ X.prog X.w B h')(A:AllBare g')(k:∀b∈ch,(b∈X.ex\/X.s₀.heap.objs.size<=b)/\b≠X.env.locals/\(∀x c,X.env.cells.lookup x=some c->c≠b)/\∀p∈X.pn++f,p.1≠b):Inv X f g B { s with heap:=h',gens:=g',drawn:=d',toks:=t' }:=by
 obtain⟨m,⟨o,D,E,j,r⟩,_⟩:=id I.loc;obtain⟨G,h⟩:=u.any j I.free λz=>(k _ z).2.1 rfl;exact I.step (ch:=ch) k (λb o h t a e n=>u.keep b o e n (λz=>(ax.mp (I.X8 b z)).elim h t) a) (λb o _ _ a e n=>u.any e n a) (λb o a e n=>u.free b o e n a) (λb o a e=>u.there b o e a) u.oR u.iN u.rW (λF v=>by
  obtain⟨C,i,d,l,q⟩:=v;rw[j]at l;cases l;exact⟨_,i,d,h,q⟩) y A
theorem Inv.turned{t':Nat}{it:Addr}(I:Inv X f g H s)(k:∀b o,b≠it->s.heap.get? b=some o->h'.get? b=some o)(y:H it=none)(h:it≠X.env.locals)(j:it∈X.ex\/X.s₀.heap.objs.size<=it)(t:∀x c,X.env.cells.lookup x=some c->c≠it)(i:∀p∈X.pn++f,p.1≠it):Inv X f g H { s with heap:=h',toks:=t' }:=by
 have d:∀b u,H b=some u->b≠it:=λb u e z=>by rw[z,y]at e;cases e
 refine I.step (g':=s.gens) (d':=s.drawn) (ch:=[it]) (λb l=>?_) (λb o _ _ a e _=>k b o (λz=>a (by simp[z])) e) (λb o _ _ a e _=>⟨o.slots,k b o (λz=>a (by simp[z])) e⟩) (λ_ _ _ _ n=>n)
  (λb o a e=>⟨o,k b o (λz=>a (by simp[z])) e⟩) (λ_ _ e=>e) (λ_ _ _ e=>e) (λb A e=>⟨#[],by rw[e];simp⟩) (λm w=>?_) (λb u e=>?_) I.bare
 .have e:b=it:=by simpa using l
  subst e;exact⟨j,h,t,i⟩
 .obtain⟨o,es,ep,ho,r⟩:=w;exact⟨o,es,ep,k _ o (Ne.symm h) ho,r⟩
 .refine(I.ψ b u e).iF (λc v a q=>k c v ?_ q) (λ_ q=>q) λ_ _ q=>q;rcases a with z|z
  .rw[z];exact d b u e
  .exact d c _ z
theorem Inv.tok(I:Inv X f g H s)(t:Nat):Inv X f g H { s with toks:=t }:=I.un (h':=s.heap) (t':=t) Un.refl I.ψ
theorem Inv.kept{t':Nat}(I:Inv X f g H s)(k:∀b u,s.heap.get? b=some u->h'.get? b=some u):Inv X f g H { s with heap:=h',toks:=t' }:=I.un (Un.kept k) (I.ψ.kept k)
theorem Inv.laid{a:Addr}{o:HO}{t':Nat}(I:Inv X f g H s)(k:∀b u,s.heap.get? b=some u->h'.get? b=some u)(c:s.heap.objs.size<=a)(d:Γ X.prog X.w (upd H a o) h' a o):Inv X f g (upd H a o) { s with heap:=h',toks:=t' }:=I.un (Un.laid k c (I.ψ.fresh c)) (I.ψ.laid k c d)
theorem Inv.write{x e:Addr}{o:HO}{i:Nat}(I:Inv X f g H s)(h:Mut (H x))(d:e=x\/H e=some (.own x))(k:∀b u,b≠e->s.heap.get? b=some u->h'.get? b=some u)(a:∃u,h'.get? e=some u)(c:Γ X.prog X.w (upd H x o) h' x o):Inv X f g (upd H x o) { s with heap:=h',toks:=i }:=I.un (Un.write h d k a) (I.ψ.write h d k a c)
theorem Inv.Yq{a:gn}(I:Inv X f g H s)(h:∀p∈a,s.heap.get? p.1=some p.2/\H p.1=none/\p.1≠X.env.locals/\p.1∉X.fs/\∀v,p.2.data≠.cell v):Inv X a g H s:=⟨I.ok,I.os,I.bare,I.base,I.loc,I.cell,I.free,I.Ϟ,λp b=>(aY.mp b).elim (λz=>I.pin p (bo _ z)) (h p),I.ψ,I.len⟩
theorem FR{N:hD}(c:N.Nodup){i j:Nat}{x:Str}(a:N[i]?=some x)(b:N[j]?=some x):i=j:=by
 obtain⟨h,e⟩:=az.mp a;obtain⟨k,d⟩:=az.mp b;exact(List.getElem_inj c).mp (e.trans d.symm)
theorem DJ{M:Model}{A:Around}{E:gf}{i:Nat}{x:Str}{v:V}{u:Value}{Q:Unit->Shared->Prop}(I:Inv X f g H s)(hN:X.N.Nodup)(L:X.N[i]?=some x)(D:Loc X.env.scope x)(r:RelV v u)(h:∀Z,Inv X f (g.set i (some v)) H Z->(∃a,Heap.SameBut a s.heap Z.heap/\(a=X.env.locals\/X.env.cells.lookup x=some a))->Q () Z)(hf:X.fn x=true\/X.env.scope.names.lookup x=some .local:=by first|exact .inl rfl|exact .inr rfl|assumption):wpAny M A (storeName X.env x u) Q E s:=by
 obtain⟨m,Y,hl⟩:=id I.loc;have S:(X.env.scope.kind==.class||(X.env.scope.kind==.module&&X.env.locals != X.env.globals))=false:=by rw[I.ok.kind];rfl
 have K:i<g.length:=by rw[I.len];exact(az.mp L).1
 have cne:=I.cne;have t:∀{a:Addr}{h':Heap},(∃o,s.heap.get? a=some o/\H a=none)->Heap.SameBut a s.heap h'->Ϭ X.prog X.w H h':=λ{a h'} ha l b ob e=>by
  obtain⟨_,_,Xy⟩:=ha;refine(I.ψ b ob e).iF (λc P hc q=>(l.2 c ?_).trans q) (λ_ q=>q) λ_ _ q=>q;rintro rfl;rcases hc with rfl|hc
  .rw[Xy]at e;cases e
  .rw[Xy]at hc;cases hc
 rcases D with hk|hk
 .refine wpAny_storeName_local hk Y (λh' U l=>?_) S;obtain⟨oL,_,_,ab,_⟩:=id Y;refine h _ ⟨I.ok,I.os,I.bare,⟨λb o e n G D=>?_,λb o e n G D=>?_,I.base.free,λb o e D=>?_,I.base.oR,I.base.iN,I.base.rW⟩,⟨_,U,λj y v' C F T=>?_⟩,λy c e=>?_,I.free,I.Ϟ,λp W=>?_,t ⟨oL,ab,I.free⟩ l,by simpa using I.len⟩ ⟨_,l,.inl rfl⟩
  .exact(l.2 b (aV (aZ (aH e) I.ok.above))).trans (I.base.keep b o e n G D)
  .obtain⟨sl,C⟩:=I.base.slot b o e n G D;exact⟨sl,(l.2 b (aV (aZ (aH e) I.ok.above))).trans C⟩
  .obtain⟨o',C⟩:=I.base.there b o e D;exact⟨o',(l.2 b (aV (aZ (aH e) I.ok.above))).trans C⟩
  .by_cases hj:j=i
   .subst hj;rw[L]at C;cases C;rw[gC K]at F;cases F;exact⟨u,r,.inl ⟨hk,by simp⟩⟩
   .rw[dY (Ne.symm hj)]at F;obtain⟨u',R,q⟩:=hl j y v' C F T;refine⟨u',R,?_⟩;rcases q with⟨k,e⟩|⟨k,c,e,z⟩
    .refine .inl ⟨k,?_⟩;have:y≠x:=λe=>hj (FR hN C (e▸L));simp[this,e]
    .exact .inr ⟨k,c,e,z.sameBut l (cne y c e)⟩
  .obtain⟨P,z⟩:=I.cell y c e;exact⟨P,z.sameBut l (cne y c e)⟩
  .obtain⟨e,n,ne,nf,d⟩:=I.pin p W;exact⟨(l.2 p.1 ne).trans e,n,ne,nf,d⟩
 .have hfn:X.fn x=true:=by
   rcases hf with z|z
   .exact z
   .rw[z]at hk;cases hk
  obtain⟨c,hc⟩:=I.ok.has x (.inl hk);obtain⟨P,z⟩:=I.cell x c hc;refine wpAny_storeName_cell I.ok.kind hk hc z (λh' YL l=>?_);obtain⟨oc,J,ad⟩:=id z;refine h { s with heap:=h' } ⟨I.ok,I.os,I.bare,⟨λb o e n G D=>?_,λb o e n G D=>?_,I.base.free,λb o e D=>?_,I.base.oR,I.base.iN,I.base.rW⟩,⟨m,Y.sameBut l (Ne.symm (cne x c hc)),λj y v' C F T=>?_⟩,λy O e=>?_,I.free,I.Ϟ,λp W=>?_,t ⟨oc,J,I.Ϟ x c hc⟩ l,by simpa using I.len⟩ ⟨c,l,.inr hc⟩
  .exact(l.2 b (aV (aZ (aH e) (I.ok.cab x c hfn hc)))).trans (I.base.keep b o e n G D)
  .obtain⟨sl,C⟩:=I.base.slot b o e n G D;exact⟨sl,(l.2 b (aV (aZ (aH e) (I.ok.cab x c hfn hc)))).trans C⟩
  .obtain⟨o',C⟩:=I.base.there b o e D;exact⟨o',(l.2 b (aV (aZ (aH e) (I.ok.cab x c hfn hc)))).trans C⟩
  .by_cases hj:j=i
   .subst hj;rw[L]at C;cases C;rw[gC K]at F;cases F;exact⟨u,r,.inr ⟨.inl hk,c,hc,YL⟩⟩
   .rw[dY (Ne.symm hj)]at F;obtain⟨u',R,q⟩:=hl j y v' C F T;refine⟨u',R,?_⟩;rcases q with q|⟨k,O,e,z'⟩
    .exact .inl q
    .refine .inr ⟨k,O,e,z'.sameBut l ?_⟩;rintro rfl;exact hj (FR hN C (I.ok.inj _ _ _ e hc▸L))
  .by_cases hcc:O=c
   .subst hcc;exact⟨_,YL⟩
   .obtain⟨w2,z2⟩:=I.cell y O e;exact⟨w2,z2.sameBut l hcc⟩
  .obtain⟨e,n,ne,nf,d⟩:=I.pin p W;refine⟨(l.2 p.1 ?_).trans e,n,ne,nf,d⟩;intro q;rw[q,J]at e;have q':oc=p.2:=bi e;exact d P (by rw[<-q'];exact ad)
theorem y9{M:Model}{A:Around}{E:gf}{i:Nat}{x:Str}{v:V}{u:Value}{Q:Unit->Shared->Prop}(I:Inv X f g H s)(c:X.N.Nodup)(d:X.N[i]?=some x)(e:Loc X.env.scope x)(r:RelV v u)(h:∀a,Inv X f (g.set i (some v)) H a->Q () a)(j:X.fn x=true\/X.env.scope.names.lookup x=some .local:=by first|exact .inl rfl|exact .inr rfl|assumption):wpAny M A (storeName X.env x u) Q E s:=DJ I c d e r (λa b _=>h a b) j
theorem Inv.aaJ{s':Shared}{ch:gw}(I:Inv X f g H s)(j:s'.os=s.os)(u:Un (ϭ X.stack) ch H B s.heap s'.heap)(h:Ϭ X.prog X.w B s'.heap)(i:AllBare s'.gens)(a:∀b∈ch,(b∈X.ex\/X.s₀.heap.objs.size<=b)/\b≠X.env.locals/\(∀x c,X.env.cells.lookup x=some c->c≠b)/\∀p∈X.pn++f,p.1≠b):Inv X f g B s':=by
 obtain⟨h',g',d',t',d⟩:=s';have e:d=s.os:=j;subst e;exact I.call (g':=g') (t':=t') (d':=d') u h i a
end
abbrev XK:=Value->Option Addr->Hp->Prop
abbrev St:=List (Option V)
abbrev VK:=V->Hp->Prop
abbrev TE:=St->Hp->VK->Prop
abbrev TT:=St->Hp->(Bool->Hp->Prop)->Prop
abbrev TA:=St->Hp->(List V->Hp->Prop)->Prop
structure Ends where
 nx:St->Hp->Prop
 rt:VK
 bk:St->Hp->Prop:=λ_ _=>False
 ct:St->Hp->Prop:=λ_ _=>False
abbrev TS:=Ends->St->Hp->Prop
def EP(X:Cx)(a:gn)(c:St)(Q:VK)(u:Value)(d:Shared):Prop:=∃v b,Inv X a c b d/\RelV v u/\Q v b
def TP(X:Cx)(a:gn)(d:St)(Q:Bool->Hp->Prop)(b:Bool)(e:Shared):Prop:=∃c,Inv X a d c e/\Q b c
def AP(X:Cx)(a:gn)(d:St)(Q:List V->Hp->Prop)(e:gy)(f:Shared):Prop:=∃c b,Inv X a d b f/\Vals c e/\Q c b
def SP(X:Cx)(b:gn)(D:Ends)(f:Flow)(d:Shared):Prop:=match f with
 | .next=>∃a c,Inv X b a c d/\D.nx a c
 | .brk=>∃a c,Inv X b a c d/\D.bk a c
 | .cont=>∃a c,Inv X b a c d/\D.ct a c
 | .ret u=>∃v a c,Inv X b a c d/\RelV v u/\D.rt v c
def PE(X:Cx)(e:Expr)(t:TE):Prop:=∀(a:gn)(s:Shared)(b:St)(H:Hp)(Q:VK),Inv X a b H s->t b H Q->wpAny (model X.prog X.w) X.A (eval e X.env) (EP X a b Q) X.xe s
def PT(X:Cx)(e:Expr)(t:TT):Prop:=∀(a:gn)(s:Shared)(b:St)(H:Hp)(Q:Bool->Hp->Prop),Inv X a b H s->t b H Q->wpAny (model X.prog X.w) X.A (isTrue e X.env (eval e X.env)) (TP X a b Q) X.xe s
def PW(X:Cx)(e:Expr)(t:TT):Prop:=∀(b:Sem Value)(a:gn)(s:Shared)(c:St)(H:Hp)(Q:Bool->Hp->Prop),Inv X a c H s->t c H Q->wpAny (model X.prog X.w) X.A (isTrue e X.env b) (TP X a c Q) X.xe s
theorem PW.pt{X:Cx}{e:Expr}{t:TT}(h:PW X e t):PT X e t:=h _
def PA(X:Cx)(d:List Expr)(t:TA):Prop:=∀(b:Pos)(a:gn)(s:Shared)(c:St)(H:Hp)(Q:List V->Hp->Prop),Inv X a c H s->t c H Q->wpAny (model X.prog X.w) X.A (spliced (backTo b (starEach d X.env))) (AP X a c Q) X.xe s
def PS(X:Cx)(st:Stmt)(t:TS):Prop:=∀(a:gn)(s:Shared)(b:St)(H:Hp)(D:Ends),Inv X a b H s->t D b H->wpAny (model X.prog X.w) X.A (exec st X.env) (SP X a D) X.xe s
def X9(X:Cx)(st:List Stmt)(t:TS):Prop:=∀(a:gn)(s:Shared)(b:St)(H:Hp)(D:Ends),Inv X a b H s->t D b H->wpAny (model X.prog X.w) X.A (execs st X.env) (SP X a D) X.xe s
theorem ϑ{b:Type}{t:Sem b}{Q c:b->Shared->Prop}{M:Model}{A:Around}{E:gf}{s:Shared}(h:wpAny M A t Q E s)(d:∀a s,Q a s->c a s):wpAny M A t c E s:=di h d λ_ _ x=>x
theorem dQ{t:Sem Value}{X:Cx}{a:gn}{b:St}{Q:VK}{c:gf}{M:Model}{A:Around}{E:gf}{s:Shared}(h:wpAny M A t (EP X a b Q) E s)(d:∀u s v H,Inv X a b H s->RelV v u->Q v H->c u s):wpAny M A t c E s:=ϑ h λu s ⟨v,H,I,r,q⟩=>d u s v H I r q
theorem uv{t:Sem (List Value)}{X:Cx}{a:gn}{b:St}{Q:List V->Hp->Prop}{c:List Value->Shared->Prop}{M:Model}{A:Around}{E:gf}{s:Shared}(h:wpAny M A t (AP X a b Q) E s)(d:∀u s v H,Inv X a b H s->Vals v u->Q v H->c u s):wpAny M A t c E s:=ϑ h λu s ⟨v,H,I,r,q⟩=>d u s v H I r q
theorem CI{t:Sem Bool}{X:Cx}{a:gn}{b:St}{Q:Bool->Hp->Prop}{c:Bool->Shared->Prop}{M:Model}{A:Around}{E:gf}{s:Shared}(h:wpAny M A t (TP X a b Q) E s)(d:∀u s H,Inv X a b H s->Q u H->c u s):wpAny M A t c E s:=ϑ h λu s ⟨H,I,q⟩=>d u s H I q
section
variable{X:Cx}
def xI(i:Nat):TE:=λa H Q=>∃v,a[i]?=some (some v)/\Q v H
def tC(v:V):TE:=λ_ H Q=>Q v H
theorem Ft{i:Nat}{x:Str}{d:Pos}(j:X.N[i]?=some x)(p:Vis X.env.scope x)(f:(x==("__debug__":Str))=false:=by decide)(n:(x==("__classdict__":Str))=false:=by decide):PE X (.Name x d) (xI i):=by
 intro b s g H Q I h;obtain⟨v,e,h⟩:=h;obtain⟨m,o,k⟩:=I.loc;obtain⟨u,r,l⟩:=k i x v j e p;have a:EP X b g Q u s:=⟨v,H,I,r,h⟩;rcases l with⟨hk,hm⟩|⟨hk,c,hc,ϸ⟩
 .exact wpAny_Name (wpAny_loadName_local I.ok.kind hk o hm a) f
 .rcases hk with hk|hk
  .exact wpAny_Name (wpAny_loadName_cell I.ok.kind hk hc ϸ a) f
  .exact wpAny_Name (wpAny_loadName_free I.ok.kind hk hc ϸ a n) f
theorem aU{i j pos}:PE X (.Constant (.int i) j pos) (tC (.int i)):=λ_ _ _ H _ I h=>wpAny_Constant_int ⟨.int i,H,I.tok _,⟨_,rfl⟩,h⟩
theorem rX{b j pos}:PE X (.Constant (.bool b) j pos) (tC (.bl b)):=λ_ _ _ H _ I h=>Constant_bool ⟨.bl b,H,I,rfl,h⟩
theorem Ak{j pos}:PE X (.Constant .none j pos) (tC .ω):=λ_ _ _ H _ I h=>Constant_none ⟨.ω,H,I,rfl,h⟩
theorem sH{x j pos}:PE X (.Constant (.str x) j pos) (tC (.str x)):=λ_ _ _ H _ I h=>Calls.Constant_str ⟨.str x,H,I.tok _,⟨_,rfl⟩,h⟩
def Gl(X:Cx)(x:Str):Prop:=X.env.kindOf x=some .globalImplicit
theorem xW{E:gf}{a:gn}{s:Shared}{c:St}{H:Hp}{x:Str}{u:Value}{b:Pos}{Q:gf}(I:Inv X a c H s)(d:Gl X x)(e:X.mg x=some u)(h:Q u s)(f:(x==("__debug__":Str))=false:=by decide):wpAny (model X.prog X.w) X.A (eval (.Name x b) X.env) Q E s:=kK I.ok.kind d (Calls.loadGlobal_global (by rw[I.ok.glob];exact I.mod.glob.keeps I.bk) e h) f
theorem oM{E:gf}{a:gn}{s:Shared}{c:St}{H:Hp}{x:Str}{u:Value}{b:Pos}{Q:gf}(I:Inv X a c H s)(g:Gl X x)(f:X.mg x=none)(j:bootBuiltins x=some u)(h:Q u s)(i:x≠"__name__":=by decide)(k:(x==("__debug__":Str))=false:=by decide):wpAny (model X.prog X.w) X.A (eval (.Name x b) X.env) Q E s:=by
 obtain⟨l,d,e⟩:=I.mod.blt;exact kK I.ok.kind g (Calls.loadGlobal_builtin (by rw[I.ok.glob];exact I.mod.glob.keeps I.bk) f (by rw[I.ok.blt];exact d.keeps I.bk) ((e x i).trans j) h) k
theorem Sg{x:Str}{v:V}{u:Value}{a:Pos}(b:Gl X x)(c:X.mg x=some u)(r:RelV v u)(d:(x==("__debug__":Str))=false:=by decide):PE X (.Name x a) (tC v):=λ_ _ _ H _ I h=>xW I b c ⟨v,H,I,r,h⟩ d
theorem Cn{x:Str}{v:V}{u:Value}{a:Pos}(c:Gl X x)(d:X.mg x=none)(b:bootBuiltins x=some u)(r:RelV v u)(hn:x≠"__name__":=by decide)(hd:(x==("__debug__":Str))=false:=by decide):PE X (.Name x a) (tC v):=λ_ _ _ H _ I h=>oM I c d b ⟨v,H,I,r,h⟩ hn hd
variable{a b:Expr}{g o:TE}{pos:Pos}
def PC(X:Cx)(h:CmpOp)(a b:Expr)(t:TE):Prop:=∀(c:gn)(s:Shared)(f:St)(H:Hp)(Q:VK),Inv X c f H s->t f H Q->wpAny (model X.prog X.w) X.A (eval a X.env) (λv e=>wpAny (model X.prog X.w) X.A (eval b X.env) (λu d=>wpAny (model X.prog X.w) X.A (compareOp h v u) (EP X c f Q) X.xe d) X.xe e) X.xe s
theorem Oy(b:Expr){c:CmpOp}(h:c≠.In)(d:c≠.NotIn):behindInMarks c b=false:=by
 have f:(c==CmpOp.In)=false:=by cases c<;>first|rfl|exact absurd rfl h
 have e:(c==CmpOp.NotIn)=false:=by cases c<;>first|rfl|exact absurd rfl d
 cases b<;>simp[behindInMarks,f,e]
def Lb(g:TE):TE:=λc H Q=>g c H λx d=>Q (.bl (!decide (x=.ω))) d
theorem RelV.Zf{x:V}{v:Value}(r:RelV x v):(v==Value.none)=decide (x=.ω):=by
 cases x with
 | ω=>cases r;rfl
 | bl _=>cases r;rfl
 | int _=>obtain⟨t,rfl⟩:=r;rfl
 | str _=>obtain⟨t,rfl⟩:=r;rfl
 | X3 _=>obtain⟨t,rfl⟩:=r;rfl
 | flt _=>obtain⟨t,rfl⟩:=r;rfl
 | ref _=>cases r;rfl
 | ty _=>cases r;rfl
theorem Rl{j pos'}(ha:PE X a g):PC X .IsNot a (.Constant .none j pos') (Lb g):=by
 intro c s d H Q I h;refine dQ (ha c s d H _ I h) λv l x e i f k=>?_;exact Constant_none (isnot_none_gen ⟨.bl _,e,i,by rw[f.Zf];rfl,k⟩)
def tB(t:TE):TT:=λd H Q=>t d H λx e=>∃c,x=.bl c/\Q c e
theorem FW{i:CmpOp}{t:TE}(h:PC X i a b t)(f:behindInMarks i b=false:=by first|exact Oy _ (by decide) (by decide)|rfl):PT X (.Compare a [i] [b] pos) (tB t):=by
 intro e s j H Q I l;refine wpAny_isTrue_Compare1 (ϑ (h e s j H _ I l) λv y f=>ϑ f λu z m=>ϑ m λc w ⟨x,n,p,k,r⟩=>?_) f;obtain⟨d,rfl,q⟩:=r;cases k;exact cP ⟨n,p,q⟩
theorem my{e:Expr}{t:TE}(h:PE X e t)(j:∀c,isTrue e X.env c=(do let v <-c;standAt e.pos;holding [v] (truthy v)):=by intro _;rfl):PT X e (tB t):=by
 intro f s i H Q I l;refine isTrue_plain (dQ (h f s i H _ I l) λv r x m n k p=>?_) (j _);obtain⟨d,rfl,q⟩:=p;cases k;exact cP ⟨m,n,q⟩
variable{k n:TT}{f:List Expr}
def NK(t u:TT):TT:=λd H Q=>t d H λc e=>if c=true then u d e Q else Q false e
def tOr(t u:TT):TT:=λd H Q=>t d H λc e=>if c=true then Q true e else u d e Q
def Os(t:TT):TT:=λd H Q=>t d H λc e=>Q (!c) e
theorem Dq(j:PT X a k):PW X (.BoolOp .And [a] pos) k:=by
 intro m d s i H Q I h;refine isTrue_and (ϑ (j d s i H Q I h) λc l e=>?_);cases c with
 | true=>exact isTrue_and_nil e
 | false=>exact e
theorem wU(j:PT X a k):PW X (.BoolOp .Or [a] pos) k:=by
 intro m d s i H Q I h;refine isTrue_or (ϑ (j d s i H Q I h) λc l e=>?_);cases c with
 | false=>exact isTrue_or_nil e
 | true=>exact e
theorem Gd(r:PT X a k)(q:PW X (.BoolOp .And (b::f) pos) n):PW X (.BoolOp .And (a::b::f) pos) (NK k n):=by
 intro p d s e H Q I h;refine isTrue_and (CI (r d s e H _ I h) λc m i j l=>?_);cases c with
 | true=>exact q p d m e i Q j l
 | false=>exact⟨i,j,l⟩
theorem BE(r:PT X a k)(q:PW X (.BoolOp .Or (b::f) pos) n):PW X (.BoolOp .Or (a::b::f) pos) (tOr k n):=by
 intro p d s e H Q I h;refine isTrue_or (CI (r d s e H _ I h) λc m i j l=>?_);cases c with
 | true=>exact⟨i,j,l⟩
 | false=>exact q p d m e i Q j l
theorem kN(j:PT X a k):PT X (.UnaryOp .Not a pos) (Os k):=by
 intro d s e H Q I h;exact isTrue_not (j d s e H (λc i=>Q (!c) i) I h)
def JT(g o:TE):TE:=λd H Q=>g d H λx e=>∃c,x=.bl c/\if c=true then o d e Q else Q (.bl false) e
def KS(g:TE):TE:=λd H Q=>g d H λx e=>∃c,x=.bl c/\Q (.bl (!c)) e
theorem AI{op}{t:TE}(h:PE X a t):PE X (.BoolOp op [a] pos) t:=λc s d H Q I e=>BoolOp_one (h c s d H Q I e)
theorem AX(r:PE X a g)(q:PE X (.BoolOp .And (b::f) pos) o):PE X (.BoolOp .And (a::b::f) pos) (JT g o):=by
 intro d s i H Q I h;refine BoolOp_and (dQ (r d s i H _ I h) λv m x j l p e=>?_);obtain⟨c,rfl,e⟩:=e;cases p;refine cP ?_;cases c with
 | true=>exact q d m i j Q l e
 | false=>exact⟨.bl false,j,l,rfl,e⟩
theorem UI(p:PE X a g):PE X (.UnaryOp .Not a pos) (KS g):=by
 intro d s i H Q I h;refine UnaryOp_ (dQ (p d s i H _ I h) λv q x j m l e=>?_);obtain⟨c,rfl,e⟩:=e;cases l;exact not_of (cP ⟨.bl (!c),j,m,rfl,e⟩)
end
def ξ(K:gg)(H:Hp)(a:Addr)(xs:List V):Prop:=Rd H a (.lst xs)\/∃(o:Obj)(b:Array Value)(n:Nat),K.lookup a=some o/\o.cls=.type "list"/\o.dict=none/\o.data=.seq b n/\b.size<=sizeLine/\Vals xs b.toList
def Ξ(K:gg)(H:Hp)(a:Addr)(xs:List V):Prop:=Rd H a (.tup xs)\/∃(o:Obj)(b:Array Value)(n:Nat),K.lookup a=some o/\o.cls=.type "tuple"/\o.data=.seq b n/\b.size<=sizeLine/\Vals xs b.toList
def VS:Value->Option V
 | .none=>some .ω
 | .bool b=>some (.bl b)
 | .int i _=>some (.int i)
 | .str x _=>some (.str x)
 | .bytes b _=>some (.X3 b)
 | .float b _=>some (.flt b)
 | .ref a=>some (.ref a)
 | .type n=>some (.ty n)
 | _=>none
theorem RelV.abs{x:V}{u:Value}(r:RelV x u):VS u=some x:=by
 cases x with
 | ω=>cases r;rfl
 | bl _=>cases r;rfl
 | int _=>obtain⟨t,rfl⟩:=r;rfl
 | str _=>obtain⟨t,rfl⟩:=r;rfl
 | X3 _=>obtain⟨t,rfl⟩:=r;rfl
 | flt _=>obtain⟨t,rfl⟩:=r;rfl
 | ref _=>cases r;rfl
 | ty _=>cases r;rfl
theorem RelV.inj{x y:V}{u:Value}(r:RelV x u)(q:RelV y u):x=y:=bi (r.abs.symm.trans q.abs)
theorem Vals.inj{c a:List V}{b:gy}(h:Vals c b)(d:Vals a b):c=a:=by
 induction h generalizing a with
 | nil=>cases d;rfl
 | cons r _ ih=>cases d with|cons r2 t2=>rw[r.inj r2,ih t2]
section
variable{X:Cx}{b:gn}{c:St}{H:Hp}{s:Shared}{a:Addr}{xs f:List V}
theorem ξ.of{K:gg}(h:H a=some (.lst xs)):ξ K H a xs:=.inl (.inl h)
theorem Ξ.of{K:gg}(h:H a=some (.tup xs)):Ξ K H a xs:=.inl (.inl h)
theorem Inv.list(I:Inv X b c H s)(h:ξ X.K H a xs):∃d:List Value,Vals xs d/\PlainL s.heap a d.toArray/\xs.length<=sizeLine:=by
 rcases h with h|⟨o,d,n,i,g,hd,j,k,r⟩
 .obtain⟨z,d,n,r,e⟩:=h.ok I.ψ;exact⟨d,r,⟨_,n,e,rfl,rfl,rfl⟩,z⟩
 .refine⟨d.toList,r,⟨o,n,I.WC a o i,g,hd,by simpa using j⟩,?_⟩;have e:=r.length;simp only[nK]at e
  lia
theorem Inv.tuple(I:Inv X b c H s)(h:Ξ X.K H a xs):∃d:List Value,Vals xs d/\IsTup s.heap a d.toArray/\xs.length<=sizeLine:=by
 rcases h with h|⟨o,d,n,i,g,j,k,r⟩
 .obtain⟨z,d,r,p⟩:=h.ok I.ψ;exact⟨d,r,p,z⟩
 .refine⟨d.toList,r,⟨o,I.WC a o i,g,n,by simpa using j⟩,?_⟩;have e:=r.length;simp only[nK]at e
  lia
theorem Inv.iO(I:Inv X b c H s)(h:ξ X.K H a xs)(l:ξ X.K H a f):xs=f:=by
 obtain⟨i,r,⟨o,n,e,_,_,d⟩,_⟩:=I.list h;obtain⟨g,m,⟨p,q,j,_,_,k⟩,_⟩:=I.list l;rw[e]at j;cases j;rw[d]at k;injection k with d1 _
 have:i=g:=by simpa using congrArg Array.toList d1
 subst this;exact r.inj m
theorem Inv.WX(I:Inv X b c H s)(h:Ξ X.K H a xs)(l:Ξ X.K H a f):xs=f:=by
 obtain⟨i,r,⟨o,e,_,n,d⟩,_⟩:=I.tuple h;obtain⟨g,m,⟨p,j,_,q,k⟩,_⟩:=I.tuple l;rw[e]at j;cases j;rw[d]at k;injection k with d1 _
 have:i=g:=by simpa using congrArg Array.toList d1
 subst this;exact r.inj m
end
abbrev Cx.WK(X:Cx)(E:gf):Cx:={ X with xe:=E }
abbrev Cx.nox(X:Cx):Cx:=X.WK λ_ _=>False
theorem Cx.Ok.WK{X:Cx}(a:X.Ok)(E:gf):(X.WK E).Ok:=⟨a.mod,a.kind,a.glob,a.blt,a.above,a.inj,a.has,a.cab,a.hd,a.frames,a.stk,a.exf,a.bs,a.Z1,a.YK,a.X6,a.Ac,a.frf⟩
theorem Cx.Ok.Ϯ{X:Cx}{E:gf}(a:(X.WK E).Ok):X.Ok:=⟨a.mod,a.kind,a.glob,a.blt,a.above,a.inj,a.has,a.cab,a.hd,a.frames,a.stk,a.exf,a.bs,a.Z1,a.YK,a.X6,a.Ac,a.frf⟩
section
variable{X:Cx}{a:gn}{b:St}{H:Hp}{s:Shared}{E:gf}
theorem Inv.WK(I:Inv X a b H s)(E:gf):Inv (X.WK E) a b H s:=⟨I.ok.WK E,I.os,I.bare,I.base,I.loc,I.cell,I.free,I.Ϟ,I.pin,I.ψ,I.len⟩
theorem Inv.Ϯ(I:Inv (X.WK E) a b H s):Inv X a b H s:=⟨I.ok.Ϯ,I.os,I.bare,I.base,I.loc,I.cell,I.free,I.Ϟ,I.pin,I.ψ,I.len⟩
theorem SP.Ϯ{D:Ends}{f:Flow}{e:Shared}(h:SP (X.WK E) a D f e):SP X a D f e:=by
 cases f with
 | next=>obtain⟨c,d,I,q⟩:=h;exact⟨c,d,I.Ϯ,q⟩
 | brk=>obtain⟨c,d,I,q⟩:=h;exact⟨c,d,I.Ϯ,q⟩
 | cont=>obtain⟨c,d,I,q⟩:=h;exact⟨c,d,I.Ϯ,q⟩
 | ret u=>obtain⟨v,c,d,I,r,q⟩:=h;exact⟨v,c,d,I.Ϯ,r,q⟩
theorem X9.nox{st:List Stmt}{t:TS}(h:X9 X.nox st t):X9 X st t:=λa s b H D I c=>
 di (h a s b H D (I.WK _) c) (λ_ _ q=>q.Ϯ) λ_ _ z=>False.elim z
end
section
variable{X:Cx}{k:Stmt}{j:List Stmt}{t u:TS}{e:Expr}{i:TE}{g:Pos}
def Zg:TS:=λD a H=>D.nx a H
def KD(t u:TS):TS:=λD a H=>t { D with nx:=u D } a H
theorem dy:X9 X [] Zg:=λ_ _ a H _ I h=>ji ⟨a,H,I,h⟩
theorem aD(n:PS X k t)(o:X9 X j u):X9 X (k::j) (KD t u):=by
 intro a s d H D I h;refine wpAny_execs_cons (ϑ (n a s d H { D with nx:=u D } I h) λf l q=>?_);cases f with
 | next=>
   obtain⟨b,m,c,q⟩:=q;exact o a l b m D c q
 | ret v=>exact q
 | brk=>exact q
 | cont=>exact q
theorem aO(c:PS X k t):X9 X [k] t:=by
 intro a s b H D I h;refine wpAny_execs_cons (ϑ (c a s b H D I h) λf d q=>?_);cases f with
 | next=>exact ji q
 | ret v=>exact q
 | brk=>exact q
 | cont=>exact q
theorem Inv.quiet{a:gn}{b:St}{H:Hp}{s:Shared}(I:Inv X a b H s):interactive X.env=false:=by simp[interactive,I.ok.kind]
def KZ(i:TE):TS:=λD a H=>i a H λ_ b=>D.nx a b
theorem dq(d:PE X e i)(m:swapsWith e none g.line X.env=pure false:=by rfl):PS X (.Expr e g) (KZ i):=by
 intro a s b H D I h;exact wpAny_Expr_any (dQ (d a s b H _ I h) λv n x c f o l=>⟨b,c,f,l⟩) I.quiet m
def QQ(i:TE):TS:=λD a H=>i a H D.rt
theorem bQ(d:PE X e i):PS X (.Return (some e) g) (QQ i):=by
 intro a s b H D I h;exact wpAny_Return_some (dQ (d a s b H _ I h) λv n x c l f m=>⟨x,b,c,l,f,m⟩)
def Qj(c:TT)(t u:TS):TS:=λD a H=>c a H λb d=>if b=true then t D a d else u D a d
theorem eK{c:Expr}{a b:List Stmt}{q:TT}(w:PT X c q)(r:X9 X a t)(v:X9 X b u):PS X (.If c a b g) (Qj q t u):=by
 intro f s l H D I h;refine wpAny_If (CI (w f s l H _ I h) λd m n o p=>?_);cases d with
 | true=>exact r f m l n D o p
 | false=>exact v f m l n D o p
def Zh:TS:=λ_ _ _=>False
theorem qL:PS X k Zh:=λ_ _ _ _ _ _ h=>h.elim
end
abbrev TG:=V->St->Hp->(St->Hp->Prop)->Prop
abbrev TGs:=List V->St->Hp->(St->Hp->Prop)->Prop
def PG(X:Cx)(a:Expr)(t:TG):Prop:=∀(b:gn)(s:Shared)(d:St)(H:Hp)(v:V)(u:Value)(Q:St->Hp->Prop),Inv X b d H s->RelV v u->t v d H Q->wpAny (model X.prog X.w) X.A (assign a X.env u) (λ_ f=>∃c e,Inv X b c e f/\Q c e) X.xe s
def PGs(X:Cx)(g:List Expr)(t:TGs):Prop:=∀(a:gn)(s:Shared)(c:St)(H:Hp)(f:List V)(d:gy)(Q:St->Hp->Prop),Inv X a c H s->Vals f d->t f c H Q->wpAny (model X.prog X.w) X.A (assignInOrder ((assignEach g X.env).map (·.2)) d) (λ_ h=>∃b e,Inv X a b e h/\Q b e) X.xe s
abbrev Fb:=V->V->V->Hp->(Hp->Prop)->Prop
def OW(X:Cx)(t:Fb):Prop:=∀(a:gn)(s:Shared)(b:St)(H:Hp)(o i v:V)(e d u:Value)(Q:Hp->Prop),Inv X a b H s->RelV o e->RelV i d->RelV v u->t o i v H Q->wpAny (model X.prog X.w) X.A (setItem e d u) (λ_ f=>∃c,Inv X a b c f/\Q c) X.xe s
abbrev TIp:=V->V->Hp->VK->Prop
def PIp(X:Cx)(c:Operator)(t:TIp):Prop:=∀(a:gn)(s:Shared)(b:St)(H:Hp)(x y:V)(v u:Value)(Q:VK),Inv X a b H s->RelV x v->RelV y u->t x y H Q->wpAny (model X.prog X.w) X.A (inplaceOp c v u) (EP X a b Q) X.xe s
section
variable{X:Cx}{d:Pos}
def vc(i:Nat):TG:=λv a H Q=>Q (a.set i (some v)) H
theorem fe{i:Nat}{x:Str}(c:X.N.Nodup)(e:X.N[i]?=some x)(f:Loc X.env.scope x)(g:X.fn x=true\/X.env.scope.names.lookup x=some .local:=by first|exact .inl rfl|exact .inr rfl|assumption):PG X (.Name x d) (vc i):=by
 intro a s j H v u Q I r h;exact wpAny_assign_Name (y9 I c e f r (λk b=>⟨_,H,b,h⟩) g)
def abo:TGs:=λb a H Q=>b=[]/\Q a H
def JQ(t:TG)(u:TGs):TGs:=λe b H Q=>∃v r,e=v::r/\t v b H λa c=>u r a c Q
theorem iM:PGs X [] abo:=by
 intro a s b H f c Q I r h;obtain⟨e,h⟩:=h;subst e;cases r;exact assignInOrder_nil ⟨b,H,I,h⟩
theorem cz{e:Expr}{b:List Expr}{t:TG}{u:TGs}(i:PG X e t)(j:PGs X b u)(l:(assignEach (e::b) X.env).map (·.2)=assign e X.env::(assignEach b X.env).map (·.2):=by rfl):PGs X (e::b) (JQ t u):=by
 intro a s f H w q Q I r h;obtain⟨v,p,k,h⟩:=h;subst k;cases r with
 | cons r rr=>
   rw[l];refine assignInOrder_cons (ϑ (i a s f H _ _ _ I r h) λ_ g ⟨c,m,n,o⟩=>?_);exact j a g c m _ _ Q n rr o
def KU(K:gg)(n:Nat)(t:TGs):TG:=λv c H Q=>∃a b,v=.ref a/\Ξ K H a b/\b.length=n/\t b c H Q
theorem kM{f:List Expr}{k:Nat}{t:TGs}{n:Nat}(y:X.calm=true)(h:PGs X f t)(hn:(assignEach f X.env).length=n:=by rfl)(i:(assignEach f X.env).findIdx? (·.1)=none:=by rfl):PG X (.Tuple f k d) (KU X.K n t):=by
 intro c s j H v u Q I r g;obtain⟨a,p,x,w,m,g⟩:=g;subst x;cases r;obtain⟨z,l,C,D⟩:=I.tuple w;refine assign_Tuple_tuple (I.ok.hd y) C (by simp[hn,<-m,l.length]) i λq A=>?_;have B:Inv X c j H { s with heap:=q }:=I.kept (t':=s.toks) λb o e=>A b o (aV (aH e)) e;exact h c _ j H p _ Q B (by simpa using l) g
def O9(b g:TE)(t:Fb):TG:=λv a H Q=>b a H λo c=>g a c λi e=>t o i v e λf=>Q a f
theorem rp{o i:Expr}{f g:TE}{t:Fb}(w:PE X o f)(F:PE X i g)(C:OW X t)(n:∀v,assign (.Subscript o i d) X.env v=(do
 let b <-holding [v] (eval o X.env)
 let c <-holding [v,b] (eval i X.env)
 standAt d
 holding [v,b,c] (setItem b c v)
 release [v,b,c] []):=by intro _;rfl):PG X (.Subscript o i d) (O9 f g t):=by
 intro a s e H v u Q I r h;rw[n];refine ak (gL (dQ (w a s e H _ I h) λb k x E G l J=>?_));refine ak (gL (dQ (F a k e E _ G J) λc z y p j m D=>?_));refine ak (jY (ak (gL (ϑ (C a z e p x y v b c u _ j l m r D) λ_ K ⟨q,B,A⟩=>?_))));exact wpAny_release ⟨e,q,B,A⟩
def CA(b:TE)(g:TG):TS:=λD a H=>b a H λx c=>g x a c D.nx
theorem nP{b e:Expr}{f:TE}{g:TG}(i:PE X e f)(n:PG X b g)(o:swapsWithSole [b] e d.line X.env=pure false:=by rfl)(m:swappedStores [b] e X.env=pure none:=by rfl)(l:(assignEach [b] X.env).map (·.2)=[assign b X.env]:=by rfl):PS X (.Assign [b] e d) (CA f g):=by
 intro a s c H D I h;refine wpAny_Assign_stores (dQ (i a s c H _ I h) λv j x p r k t=>?_) o m;rw[l];exact ϑ (n a j c p x v _ r k t) λ_ u q=>q
theorem uH{i:Nat}{x:Str}{e:Expr}{c:TE}{a:Pos}(g:X.N.Nodup)(o:X.N[i]?=some x)(p:Loc X.env.scope x)(k:PE X e c)(m:swapsWith e (some (.Name x a)) d.line X.env=pure false:=by rfl)(r:X.fn x=true\/X.env.scope.names.lookup x=some .local:=by first|exact .inl rfl|exact .inr rfl|assumption):PS X (.Assign [.Name x a] e d) (CA c (vc i)):=by
 intro b s f H D I h;refine wpAny_Assign_Name (dQ (k b s f H _ I h) λv u y n q l t=>?_) m;exact y9 q g o p l (λw j=>⟨_,n,j,t⟩) r
def Ot(i:Nat)(b:TE)(f:TIp):TS:=λD a H=>∃x,a[i]?=some (some x)/\b a H λy c=>f x y c λz e=>D.nx (a.set i (some z)) e
theorem sL{i:Nat}{x:Str}{e:Expr}{t:TE}{n:Operator}{B:TIp}{f:Pos}(E:X.N.Nodup)(C:X.N[i]?=some x)(o:Loc X.env.scope x)(G:PE X e t)(P:PIp X n B)(W:X.fn x=true\/X.env.scope.names.lookup x=some .local:=by first|exact .inl rfl|exact .inr rfl|assumption):PS X (.AugAssign (.Name x f) n e d) (Ot i t B):=by
 intro a s p H D I h;obtain⟨v,Q,h⟩:=h;obtain⟨m,S,L⟩:=I.loc;have j:Vis X.env.scope x:=by rcases o with k|k;exact .inl k;exact .inr (.inl k)
 obtain⟨u,r,l⟩:=L i x v C Q j;refine wpAny_AugAssign_Name ?_;have q:wpAny (model X.prog X.w) X.A (eval e X.env) (λw b=>wpAny (model X.prog X.w) X.A (inplaceOp n u w) (λr g=>wpAny (model X.prog X.w) X.A (storeName X.env x r) (λ_=>SP X a D .next) X.xe g) X.xe b) X.xe s:=by
  refine ϑ (G a s p H _ I h) λw J ⟨y,U,V,K,Y⟩=>?_;refine ϑ (P a J p U v y u w _ V r K Y) λz s2 ⟨zv,O,F,M,T⟩=>?_;exact y9 F E C o M (λZ R=>⟨_,O,R,T⟩) W
 rcases l with⟨hk,hm⟩|⟨hk,c,hc,ϸ⟩
 .exact wpAny_loadName_local I.ok.kind hk S hm q
 .rcases hk with hk|hk
  .exact wpAny_loadName_cell I.ok.kind hk hc ϸ q
  .rcases o with k|k
   .have:X.env.scope.names.lookup x=some .free:=hk;rw[k]at this;cases this
   .have:X.env.scope.names.lookup x=some .free:=hk;rw[k]at this;cases this
def JE(e j f:TE)(n:V->V->Hp->VK->Prop)(b:TIp)(c:Fb):TS:=λD a H=>e a H λo p=>j a p λi g=>n o i g λx h=>f a h λy l=>b x y l λz m=>c o i z m λk=>D.nx a k
def T6(X:Cx)(t:V->V->Hp->VK->Prop):Prop:=∀(a:gn)(s:Shared)(b:St)(H:Hp)(o i:V)(e c:Value)(Q:VK),Inv X a b H s->RelV o e->RelV i c->t o i H Q->wpAny (model X.prog X.w) X.A (getItem e c) (EP X a b Q) X.xe s
theorem RK{o i e:Expr}{q u r:TE}{x:V->V->Hp->VK->Prop}{j:TIp}{p:Fb}{w:Operator}{T:Pos}(P:PE X o q)(hi:PE X i u)(hg:T6 X x)(A:PE X e r)(W:PIp X w j)(hs:OW X p)(J:∀g f b,augStore i g f b=(do holding [b,g,f] (setItem g f b);release [b,g,f] [];pure .next):=by intros;rfl):PS X (.AugAssign (.Subscript o i T) w e d) (JE q u r x j p):=by
 intro a s c H D I h;refine wpAny_AugAssign_SubscriptAny (dQ (P a s c H _ I h) λg B l H1 I1 m q1=>?_) J;refine dQ (hi a B c H1 _ I1 q1) λf R t K z n q2=>?_;refine ϑ (hg a R c K l t g f _ z m n q2) λk y ⟨C,O,I3,r3,U⟩=>?_;refine dQ (A a y c O _ I3 U) λv F L S G Y N=>?_;refine ϑ (W a F c S C L k v _ G r3 Y N) λb E ⟨x5,H5,M,r5,q5⟩=>?_;exact ϑ (hs a E c H5 l t x5 g f b _ M m n r5 q5) λ_ s6 ⟨Q,Z,q6⟩=>⟨c,Q,Z,q6⟩
def ipI(f:hR):TIp:=λx y H Q=>∃i j,x=.int i/\y=.int j/\Q (.int (f i j)) H
theorem wz:PIp X .Add (ipI λi j=>i+j):=by
 intro a s g H x y v u Q I b c h;obtain⟨i,j,e,f,q⟩:=h;subst e;subst f;obtain⟨t,rfl⟩:=b;obtain⟨k,rfl⟩:=c;exact iadd_int ⟨.int _,H,I.tok _,⟨_,rfl⟩,q⟩
theorem Fn:PIp X .Sub (ipI λi j=>i-j):=by
 intro a s g H x y v u Q I b c h;obtain⟨i,j,e,f,q⟩:=h;subst e;subst f;obtain⟨t,rfl⟩:=b;obtain⟨k,rfl⟩:=c;exact isub_int ⟨.int _,H,I.tok _,⟨_,rfl⟩,q⟩
end
section
variable{X:Cx}{a:Pos}
def GB(c:TT)(i:TS):TS:=λD d H=>∃W:Nat->St->Hp->Prop,(∃m,W m d H)/\∀m d H,W m d H->c d H λb g=>if b=true then ∃N:St->Hp->Prop,(∀e h,N e h->∃f,f<m/\W f e h)/\i { D with nx:=N,ct:=N,bk:=D.nx } d g else D.nx d g
theorem pA{c:Expr}{i:List Stmt}{G:TT}{B:TS}(E:PassesOwn (model X.prog X.w) X.A X.env X.xe)(Q:PT X c G)(M:X9 X i B):PS X (.While c i [] a) (GB G B):=by
 intro d s J H D I h;obtain⟨W,⟨T,L⟩,l⟩:=h;refine wpAny_While (codeAny_whileLoop (λn R=>∃k C,Inv X d k C R/\W n k C) ?_ T ⟨J,H,I,L⟩);rintro n K ⟨g,F,S,O⟩;refine fG E (CI (Q d K g F _ S (l n g F O)) λb P z x o=>?_);cases b with
 | true=>
   obtain⟨N,y,o⟩:=o;rw[aj rfl];refine fG E (ϑ (M d P g z _ x o) λf U m=>?_);cases f with
   | next=>
     obtain⟨e,j,t,p⟩:=m;obtain⟨r,q,u⟩:=y e j p;exact⟨r,q,e,j,t,u⟩
   | cont=>
     obtain⟨e,j,t,p⟩:=m;obtain⟨r,q,u⟩:=y e j p;exact⟨r,q,e,j,t,u⟩
   | brk=>exact m
   | ret v=>exact m
 | false=>
   rw[ag bz];exact ji ⟨g,z,x,o⟩
end
structure It where
 go:Nat->Hp->Prop
 yld:Nat->Hp->V->Hp->Prop
 stop:Nat->Hp->Prop
def ph(X:Cx)(a:gn)(H:Hp)(b:Addr):Prop:=H b=none/\b≠X.env.locals/\b∉X.fs/\(b∈X.ex\/X.s₀.heap.objs.size<=b)/\(∀x c,X.env.cells.lookup x=some c->c≠b)/\∀p∈X.pn++a,p.1≠b
theorem Inv.YN{X:Cx}{a:gn}{g:St}{H f:Hp}{s:Shared}{b:Addr}(I:Inv X a g H s)(d:s.heap.objs.size<=b)(i:f b=none):ph X a f b:=by
 refine⟨i,eW (aZ I.lt d),I.ahS d,.inr (aL I.sz d),λx c e z=>?_,λp h z=>?_⟩
 .obtain⟨v,q⟩:=I.cell x c e;exact absurd (aZ q.lt (by rw[z];exact d)) (cW _)
 .exact absurd (aZ (aH (I.pin p h).1) (by rw[z];exact d)) (cW _)
structure Turn(P:Program)(w:World)(K:gg)(tg:Expr)(J:It)(fp:gw)(it:Addr)(tn:Nat->Heap->Prop):Prop where
 mem:it∈fp
 obj:∀i h,tn i h->∀b∈fp,∃o,h.get? b=some o/\∀v,o.data≠.cell v
 keep:∀i h h',tn i h->(∀b∈fp,∀o,h.get? b=some o->h'.get? b=some o)->tn i h'
 item:∀(X:Cx),X.prog=P->X.w=w->X.K=K->X.calm=true->∀(i:Nat)(pins:gn)(s:Shared)(σ:St)(H:Hp)(E:gf),Inv X pins σ H s->(∀b∈fp,ph X pins H b)->tn i s.heap->J.go i H->wpAny (model P w) X.A (pyNext (.ref it)) (λr s1=>∃u,r=some u/\wpAny (model P w) X.A (letOwnedTupleGo tg (.ref it) u) (λ_ s2=>∃x H',Inv X pins σ H' s2/\RelV x u/\J.yld i H x H'/\tn (i+1) s2.heap/\∀b∈fp,H' b=none) E s1) E s
 done:∀(X:Cx),X.prog=P->X.w=w->X.K=K->X.calm=true->∀(i:Nat)(pins:gn)(s:Shared)(σ:St)(H:Hp)(E:gf),Inv X pins σ H s->(∀b∈fp,ph X pins H b)->tn i s.heap->J.stop i H->wpAny (model P w) X.A (pyNext (.ref it)) (λr s1=>r=none/\Inv X pins σ H s1) E s
 self:∀(A:Around)(i:Nat)(s:Shared)(Q:gf)(E:gf),tn i s.heap->Q (.ref it) s->wpAny (model P w) A (pyIter (.ref it)) Q E s
abbrev TI:=St->Hp->(It->Hp->Prop)->Prop
def PIE(X:Cx)(a:gn)(i:St)(j:Expr)(R:It->Hp->Prop)(c:Value)(h:Shared):Prop:=∃(f:Addr)(g:gw)(e:Nat->Heap->Prop)(J:It)(d:Hp),c=.ref f/\Inv X a i d h/\Turn X.prog X.w X.K j J g f e/\e 0 h.heap/\(∀b∈g,ph X a d b)/\R J d
def PI(X:Cx)(d b:Expr)(f:TI):Prop:=∀(a:gn)(s:Shared)(c:St)(H:Hp)(R:It->Hp->Prop),Inv X a c H s->f c H R->wpAny (model X.prog X.w) X.A (eval b X.env) (λv e=>wpAny (model X.prog X.w) X.A (pyIter v) (PIE X a c d R) X.xe e) X.xe s
theorem EK{M:Model}{A:Around}{E:gf}{s:Shared}{b:Expr}{d:Addr}{u:Value}{o:Obj}{n:String}{c:Array Value}{Q:Unit->Shared->Prop}(f:s.heap.get? d=some o)(e:o.cls=.type n)(g:o.data=.fields c)(i:["enumerate","zip","dict_itemiterator","dict_reverseitemiterator","odict_iterator","itertools.zip_longest","itertools.pairwise"].contains n=false)(a:Q () s):wpAny M A (letOwnedTupleGo b (.ref d) u) Q E s:=by
 unfold letOwnedTupleGo;cases b<;>first
  | exact ba a
  | (cases u<;>first
   | exact ba a
   | (refine ak (wpAny_load f ?_)
      rw[e,g];show wpAny M A (if(["enumerate","zip","dict_itemiterator","dict_reverseitemiterator","odict_iterator","itertools.zip_longest","itertools.pairwise"].contains n&&c[0]?==some (rawInt _))=true then _ else _) Q E s;rw[ag (by intro h;rw[i,iZ]at h;cases h)];exact ba a))
def Itl(K:gg)(a:Addr):It:=⟨λi H=>∃b x,ξ K H a b/\b[i]?=some x,λi H x c=>c=H/\∀b,ξ K H a b->b[i]?=some x,λi H=>∃b,ξ K H a b/\b.length<=i⟩
def Itt(K:gg)(a:Addr):It:=⟨λi H=>∃b x,Ξ K H a b/\b[i]?=some x,λi H x c=>c=H/\∀b,Ξ K H a b->b[i]?=some x,λi H=>∃b,Ξ K H a b/\b.length<=i⟩
def ZP(lo:Int)(n:Nat):It:=⟨λi _=>i<n,λi H x a=>a=H/\x=.int (lo+i),λi _=>n<=i⟩
theorem Mr{P:Program}{w:World}{K:gg}{Q:Expr}(a g:Addr):Turn P w K Q (Itl K a) [g] g (λi h=>h.IsListIter g a i) where
 mem:=by simp
 obj:=λi h st b hb=>by
  have e:b=g:=by simpa using hb
  subst e;obtain⟨o,e,c,d⟩:=st;exact⟨o,e,λv z=>by rw[d]at z;cases z⟩
 keep:=λi h j st k=>st.at λo e=>k g (by simp) o e
 item:=by
  intro X n hw r hc i f s G H E I hf st y;subst n hw r;obtain⟨N,x,l,C⟩:=y;obtain⟨A,m,p,S⟩:=I.list l;obtain⟨u,O,U⟩:=m.get C;obtain⟨q,t,R,D,B,F⟩:=hf g (by simp);refine wpAny_pyNext_list_item st p.isList (x:=u) (by simpa using O) λj J L=>?_;have V:Inv X f G H { s with heap:=j }:=I.turned (t':=s.toks) (λb o hb e=>(L.2 b hb).trans e) q t D B F;obtain⟨o,e,c,d⟩:=id J;exact⟨u,rfl,EK (s:={ s with heap:=j }) e c d (by decide) ⟨x,H,V,U,⟨rfl,λZ T=>by rw[I.iO T l];exact C⟩,J,λb hb=>(hf b hb).1⟩⟩
 done:=by
  intro X n hw r hc i f s G H E I hf st y;subst n hw r;obtain⟨N,l,C⟩:=y;obtain⟨A,m,p,S⟩:=I.list l;obtain⟨q,t,R,D,B,F⟩:=hf g (by simp);have Y:=m.length;exact wpAny_pyNext_list_end (I.ok.hd hc) st p.isList (by simp;lia) λj M=>⟨rfl,I.turned (t':=s.toks) (λb o hb e=>M b o hb e) q t D B F⟩
 self:=λ_ _ _ _ _ st h=>wpAny_pyIter_listiter st h
theorem J6{P:Program}{w:World}{K:gg}{Q:Expr}(a g:Addr):Turn P w K Q (Itt K a) [g] g (λi h=>h.IsTupleIter g a i) where
 mem:=by simp
 obj:=λi h st b hb=>by
  have e:b=g:=by simpa using hb
  subst e;obtain⟨o,e,c,d⟩:=st;exact⟨o,e,λv z=>by rw[d]at z;cases z⟩
 keep:=λi h l st k=>st.at λo e=>k g (by simp) o e
 item:=by
  intro X q hw t hc i f s G H E I hf st A;subst q hw t;obtain⟨N,x,m,C⟩:=A;obtain⟨j,n,p,S⟩:=I.tuple m;obtain⟨u,O,U⟩:=n.get C;obtain⟨r,y,R,D,B,F⟩:=hf g (by simp);refine wpAny_pyNext_tuple_item st (show s.heap.IsTuple a j.toArray from p) (x:=u) (by simpa using O) λl J L=>?_;have V:Inv X f G H { s with heap:=l }:=I.turned (t':=s.toks) (λb o hb e=>(L.2 b hb).trans e) r y D B F;obtain⟨o,e,c,d⟩:=id J;exact⟨u,rfl,EK (s:={ s with heap:=l }) e c d (by decide) ⟨x,H,V,U,⟨rfl,λZ T=>by rw[I.WX T m];exact C⟩,J,λb hb=>(hf b hb).1⟩⟩
 done:=by
  intro X q hw t hc i f s G H E I hf st A;subst q hw t;obtain⟨N,m,C⟩:=A;obtain⟨j,n,p,S⟩:=I.tuple m;obtain⟨r,y,R,D,B,F⟩:=hf g (by simp);have Y:=n.length;exact wpAny_pyNext_tuple_end (I.ok.hd hc) st (show s.heap.IsTuple a j.toArray from p) (by simp;lia) λl M=>⟨rfl,I.turned (t':=s.toks) (λb o hb e=>M b o hb e) r y D B F⟩
 self:=λ_ _ _ _ _ st h=>wpAny_pyIter_tupleiter st h
theorem Ko{P:Program}{w:World}{K:gg}{C:Expr}(a:Addr)(lo:Int)(n:Nat):Turn P w K C (ZP lo n) [a] a (λi h=>IsRangeIter h a (lo+(i:Nat)*1) ((n:Int)-(i:Nat)) 1) where
 mem:=by simp
 obj:=λi h st b hb=>by
  have e:b=a:=by simpa using hb
  subst e;exact⟨_,st,λv z=>by
   have D:Data.fields _=Data.cell v:=z;cases D⟩
 keep:=λi h d st k=>k a (by simp) _ st
 item:=by
  intro X f hw j hc i c s u H E I hf st m;subst f hw j;obtain⟨g,l,F,q,p,r⟩:=hf a (by simp);have W:=Walks.range (prog:=X.prog) (w:=X.w) (I.ok.hd hc) a lo 1 n;refine W.item i s _ _ m st λv d y hv x B=>?_;obtain⟨t,rfl⟩:=hv;have G:Inv X c u H { s with heap:=d,toks:=y }:=I.turned (λb o hb e=>B b o (by simpa using hb) e) g l q p r;refine⟨_,rfl,EK (s:={ s with heap:=d,toks:=y }) (n:="range_iterator") x rfl rfl (by decide) ⟨.int (lo+i),H,G,⟨t,?_⟩,⟨rfl,rfl⟩,x,λb hb=>(hf b hb).1⟩⟩;rw[iL]
 done:=by
  intro X f hw j hc i c s u H E I hf st m;subst f hw j;obtain⟨g,l,F,q,p,r⟩:=hf a (by simp);exact wpAny_pyNext_range_end (I.ok.hd hc) st (by have:n<=i:=m;lia) λd A=>⟨rfl,I.turned (t':=s.toks) (λb o hb e=>A b o hb e) g l q p r⟩
 self:=λ_ _ _ _ _ st h=>wpAny_pyIter_rangeiter st h
section
variable{X:Cx}{c:Expr}
def JI(K:gg)(f:TE):TI:=λd H R=>f d H λx b=>∃a,x=.ref a/\(∃e,ξ K b a e)/\R (Itl K a) b
def QX(K:gg)(f:TE):TI:=λd H R=>f d H λx b=>∃a,x=.ref a/\(∃e,Ξ K b a e)/\R (Itt K a) b
theorem gY{l:Expr}{i:TE}(m:PE X l i):PI X c l (JI X.K i):=by
 intro d s j H R I h;refine dQ (m d s j H _ I h) λv f x u g k w=>?_;obtain⟨a,e,⟨z,r⟩,q⟩:=w;subst e;cases k;obtain⟨t,y,p,A⟩:=g.list r;refine iK p.isList ?_;refine⟨f.heap.objs.size,[f.heap.objs.size],_,_,u,rfl,g.kept (t':=f.toks) λb o e=>ar _ e,Mr a _,⟨_,bf _ rfl,rfl,rfl⟩,λb n=>?_,q⟩;have e:b=f.heap.objs.size:=by simpa using n
 subst e;exact g.YN (ap _) (g.ψ.fresh (ap _))
theorem uL{l:Expr}{j:TE}(n:PE X l j):PI X c l (QX X.K j):=by
 intro f s k H R I h;refine dQ (n f s k H _ I h) λv d x u g m w=>?_;obtain⟨a,e,⟨z,t⟩,q⟩:=w;subst e;cases m;obtain⟨i,y,p,A⟩:=g.tuple t;refine kb (show d.heap.IsTuple a i.toArray from p) ?_;refine⟨d.heap.objs.size,[d.heap.objs.size],_,_,u,rfl,g.kept (t':=d.toks) λb o e=>ar _ e,J6 a _,⟨_,bf _ rfl,rfl,rfl⟩,λb r=>?_,q⟩;have e:b=d.heap.objs.size:=by simpa using r
 subst e;exact g.YN (ap _) (g.ψ.fresh (ap _))
theorem FH{d:gn}{f:St}{H:Hp}{s:Shared}{R:It->Hp->Prop}{E:gf}{lo a:Int}{t u v:Tok}{g:Nat}(I:Inv X d f H s)(j:-(2^62)<=lo)(l:lo<2^62)(i:-(2^62)<=a)(n:a<2^62)(q:R (ZP lo (a-lo).toNat) H):wpAny (model X.prog X.w) X.A (pyIter (.ref s.heap.objs.size)) (PIE X d f c R) E { s with heap:=s.heap.push { cls:=.type "range",data:=.fields #[.int lo t,.int a u,.int 1 v] },toks:=g }:=by
 refine wpAny_pyIter_range (IsRange.new ..) (small_one j l i n) ?_;have h:Inv X d f H { s with heap:=s.heap.push { cls:=.type "range",data:=.fields #[.int lo t,.int a u,.int 1 v] },toks:=g }:=I.kept λb o e=>ar _ e;refine⟨(s.heap.push { cls:=.type "range",data:=.fields #[.int lo t,.int a u,.int 1 v] }).objs.size,[(s.heap.push { cls:=.type "range",data:=.fields #[.int lo t,.int a u,.int 1 v] }).objs.size],_,_,H,rfl,h.kept (t':=g) λb o e=>ar _ e,Ko _ lo (a-lo).toNat,?_,λb k=>?_,q⟩
 .have e1:lo+((0:Nat):Int)*1=lo:=by simp
  have m:(((a-lo).toNat:Nat):Int)-((0:Nat):Int)=Builtin.Range.rangeSize lo a 1:=by rw[rangeSize_one];split<;>lia
  show IsRangeIter _ _ (lo+((0:Nat):Int)*1) ((((a-lo).toNat:Nat):Int)-((0:Nat):Int)) 1;rw[e1,m];exact bf _ rfl
 .have e:b=(s.heap.push { cls:=.type "range",data:=.fields #[.int lo t,.int a u,.int 1 v] }).objs.size:=by simpa using k
  subst e;exact h.YN (ap _) (h.ψ.fresh (ap _))
def Lc(e:TA):TI:=λa H R=>e a H λd b=>∃j:Int,d=[.int j]/\-(2^62)<=j/\j<2^62/\R (ZP 0 j.toNat) b
def JK(e:TA):TI:=λa H R=>e a H λd b=>∃i j:Int,d=[.int i,.int j]/\(-(2^62)<=i/\i<2^62/\-(2^62)<=j/\j<2^62)/\R (ZP i (j-i).toNat) b
theorem iQ{a:Expr}{g:TA}{p d:Pos}(n:Gl X "range")(m:X.mg "range"=none)(l:PA X [a] g)(o:starEach [a] X.env=[(false,eval a X.env)]:=by rfl):PI X c (.Call (.Name "range" p) [a] [] d) (Lc g):=by
 intro b s i H R I h;refine Call_ (oM I n m boot_range (cG (uv (l d b s i H _ I h) λx w z y v k f=>?_) o rfl));obtain⟨j,e,f,u,q⟩:=f;subst e;cases k with
 | cons r rr=>
   cases rr;obtain⟨t,rfl⟩:=r;exact call_range_1 (FH v (by lia) (by lia) f u (by simpa using q))
theorem Mv{a b:Expr}{l:TA}{p f:Pos}(x:Gl X "range")(v:X.mg "range"=none)(o:PA X [a,b] l)(y:starEach [a,b] X.env=[(false,eval a X.env),(false,eval b X.env)]:=by rfl)(g:starEach [b] X.env=[(false,eval b X.env)]:=by rfl):PI X c (.Call (.Name "range" p) [a,b] [] f) (JK l):=by
 intro d s m H R I h;refine Call_ (oM I x v boot_range (cG (uv (o f d s m H _ I h) λD B F E A n k=>?_) (by rw[y,g]) (by rw[g];rfl)));obtain⟨i,j,e,⟨k,z,w,u⟩,q⟩:=k;subst e;cases n with
 | cons r rr=>
   cases rr with
   | cons r' rr=>
     cases rr;obtain⟨t,rfl⟩:=r;obtain⟨C,rfl⟩:=r';exact call_range_2 (FH A k z w u q)
def TN(k:TI)(g:TG)(l:TS):TS:=λD a H=>k a H λJ h=>∃W:Nat->Nat->St->Hp->Prop,(∃m,W 0 m a h)/\∀i m a H,W i m a H->(J.stop i H/\D.nx a H)\/(J.go i H/\∃N:St->Hp->Prop,(∀d b,N d b->∃f,f<m/\W (i+1) f d b)/\∀x b,J.yld i H x b->g x a b λe j=>l { D with nx:=N,ct:=N,bk:=D.nx } e j)
def u6(a:gw)(h:Heap):List (Addr×Obj):=a.filterMap λb=>(h.get? b).map λo=>(b,o)
theorem nW{a:gw}{h:Heap}{b:Addr}{o:Obj}(d:b∈a)(e:h.get? b=some o):(b,o)∈u6 a h:=List.mem_filterMap.mpr ⟨b,d,by rw[e];rfl⟩
theorem Ll{a:gw}{h:Heap}{p:Addr×Obj}(f:p∈u6 a h):p.1∈a/\h.get? p.1=some p.2:=by
 obtain⟨b,g,e⟩:=List.mem_filterMap.mp f;cases q:h.get? b with
 | none=>rw[q]at e;cases e
 | some o=>
   rw[q]at e;have d:(b,o)=p:=bi e;subst d;exact⟨g,q⟩
theorem Inv.pinned{a:gn}{g:St}{H:Hp}{s:Shared}{f:gw}(I:Inv X a g H s)(q:∀b∈f,ph X a H b)(l:∀b∈f,∃o,s.heap.get? b=some o/\∀v,o.data≠.cell v):Inv X (a++u6 f s.heap) g H s:=I.Yq λp n=>(aY.mp n).elim (λz=>I.pin p (aW _ z)) λz=>by
 obtain⟨i,e⟩:=Ll z;obtain⟨j,m,k,_⟩:=q p.1 i;obtain⟨o,h,d⟩:=l p.1 i;rw[e]at h;cases h;exact⟨e,j,m,k,d⟩
theorem Inv.ϯ{a e:gn}{b:St}{H:Hp}{s:Shared}(I:Inv X (a++e) b H s):Inv X a b H s:=I.Yq λp d=>I.pin p (aW _ (bo _ d))
theorem fm{k:Expr}{E:List Stmt}{wi:TI}{g:TG}{tb:TS}{S:Pos}(L:PassesOwn (model X.prog X.w) X.A X.env X.xe)(hc:X.calm=true)(hi:PI X c k wi)(hg:PG X c g)(y:X9 X E tb)(hs:∀x,foldedSetIterable k X.env x=pure x:=by intro _;rfl):PS X (.For c k E [] S) (TN wi g tb):=by
 intro a s σ H D I h;refine wpAny_For (ϑ (hi a s σ H _ I h) λv s1 h1=>ϑ h1 λaC s2 h2=>?_) hs;obtain⟨it,P,tn,J,H2,e,I2,T,YJ,f2,W,⟨m0,w0⟩,M⟩:=h2;subst e;have q:∀{C:Hp},(∀b∈P,C b=none)->∀b∈P,ph X a C b:=λhn b y=>⟨hn b y,(f2 b y).2⟩;refine codeAny_forLoop_any (λn s'=>∃i z C,Inv X a z C s'/\tn i s'.heap/\(∀b∈P,C b=none)/\W i n z C) ?_ m0 ⟨0,σ,H2,I2,YJ,λb y=>(f2 b y).1,w0⟩;rintro n s3 ⟨i,l,Q,I3,O,G,w3⟩;rcases M i n l Q w3 with⟨stop,qn⟩|⟨go,N,hN,step⟩
 .refine fG L (ϑ (T.done X rfl rfl rfl hc i a s3 l Q X.xe I3 (q G) O stop) λr s4 ⟨U,I4⟩=>?_);subst U;exact ji ⟨l,Q,I4,qn⟩
 .refine fG L (ϑ (T.item X rfl rfl rfl hc i a s3 l Q X.xe I3 (q G) O go) λr s4 ⟨u,U,h4⟩=>?_);subst U;refine fG L (ϑ h4 λ_ s5 ⟨x,H5,I5,r5,y5,R,Z4⟩=>?_);have V:=I5.pinned (q Z4) (T.obj _ _ R);refine fG L (ϑ (hg _ s5 l H5 x u _ V r5 (step x H5 y5)) λ_ s6 ⟨Z,H6,I6,q6⟩=>?_);refine fG L (ϑ (y _ s6 Z H6 _ I6 q6) λf Y F=>?_);have p:∀{j:St}{B:Hp},Inv X (a++u6 P s5.heap) j B Y->N j B->∃m,m<n/\∃i z C,Inv X a z C Y/\tn i Y.heap/\(∀b∈P,C b=none)/\W i m z C:=λ{j B} t K=>by
   obtain⟨m',hm,w7⟩:=hN j B K;refine⟨m',hm,i+1,j,B,t.ϯ,T.keep _ _ _ R λb y o e=>(t.pin (b,o) (aW _ (aW _ (nW y e)))).1,λb y=>?_,w7⟩;obtain⟨o,e,d⟩:=T.obj _ _ R b y;exact(t.pin (b,o) (aW _ (aW _ (nW y e)))).2.1
  cases f with
  | next=>obtain⟨j,B,t,K⟩:=F;exact p t K
  | cont=>obtain⟨j,B,t,K⟩:=F;exact p t K
  | brk=>obtain⟨j,B,t,F⟩:=F;exact⟨j,B,t.ϯ,F⟩
  | ret v=>obtain⟨x7,j,B,t,r7,F⟩:=F;exact⟨x7,j,B,t.ϯ,r7,F⟩
end
theorem QS{K:gg}{a:Addr}{c:List V}{g:TG}{l:TS}{D:Ends}{b:St}{H:Hp}(d:Nat->St->Hp->Prop)(t:d 0 b H)(r:∀i b H,i<=c.length->d i b H->ξ K H a c)(u:∀i x b H,c[i]?=some x->d i b H->g x b H λf k=>l { D with nx:=d (i+1),ct:=d (i+1),bk:=D.nx } f k)(w:∀b H,d c.length b H->D.nx b H):∃W:Nat->Nat->St->Hp->Prop,(∃m,W 0 m b H)/\∀i m b H,W i m b H->((Itl K a).stop i H/\D.nx b H)\/((Itl K a).go i H/\∃N:St->Hp->Prop,(∀h j,N h j->∃n,n<m/\W (i+1) n h j)/\∀x j,(Itl K a).yld i H x j->g x b j λf k=>l { D with nx:=N,ct:=N,bk:=D.nx } f k):=by
 refine⟨λi m b H=>m=c.length-i/\i<=c.length/\d i b H,⟨c.length,by simp,bj _,t⟩,?_⟩;rintro i m b H ⟨rfl,v,p⟩;have q:=r i b H v p;by_cases o:i<c.length
 .refine .inr ⟨⟨c,c[i],q,by simp[o]⟩,d (i+1),λh j s=>⟨c.length-(i+1),by lia,rfl,o,s⟩,λx j y=>?_⟩;obtain⟨e,y⟩:=y;subst e;exact u i x b _ (y c q) p
 .have e:i=c.length:=by lia
  subst e;exact .inl ⟨⟨c,q,ap _⟩,w b H p⟩
theorem CO{K:gg}{a:Addr}{xs:List V}{g:TG}{k:TS}{D:Ends}{b:St}{H:Hp}(c:Nat->St->Hp->Prop)(s:c 0 b H)(o:∀i b H,i<=xs.length->c i b H->Ξ K H a xs)(t:∀i x b H,xs[i]?=some x->c i b H->g x b H λd j=>k { D with nx:=c (i+1),ct:=c (i+1),bk:=D.nx } d j)(v:∀b H,c xs.length b H->D.nx b H):∃W:Nat->Nat->St->Hp->Prop,(∃m,W 0 m b H)/\∀i m b H,W i m b H->((Itt K a).stop i H/\D.nx b H)\/((Itt K a).go i H/\∃N:St->Hp->Prop,(∀f h,N f h->∃l,l<m/\W (i+1) l f h)/\∀x h,(Itt K a).yld i H x h->g x b h λd j=>k { D with nx:=N,ct:=N,bk:=D.nx } d j):=by
 refine⟨λi m b H=>m=xs.length-i/\i<=xs.length/\c i b H,⟨xs.length,by simp,bj _,s⟩,?_⟩;rintro i m b H ⟨rfl,u,p⟩;have q:=o i b H u p;by_cases n:i<xs.length
 .refine .inr ⟨⟨xs,xs[i],q,by simp[n]⟩,c (i+1),λf h r=>⟨xs.length-(i+1),by lia,rfl,n,r⟩,λx h y=>?_⟩;obtain⟨e,y⟩:=y;subst e;exact t i x b _ (y xs q) p
 .have e:i=xs.length:=by lia
  subst e;exact .inl ⟨⟨xs,q,ap _⟩,v b H p⟩
theorem Mb{lo:Int}{n:Nat}{g:TG}{k:TS}{D:Ends}{a:St}{H:Hp}(f:Nat->St->Hp->Prop)(q:f 0 a H)(r:∀i a H,i<n->f i a H->g (.int (lo+i)) a H λb h=>k { D with nx:=f (i+1),ct:=f (i+1),bk:=D.nx } b h)(s:∀a H,f n a H->D.nx a H):∃W:Nat->Nat->St->Hp->Prop,(∃m,W 0 m a H)/\∀i m a H,W i m a H->((ZP lo n).stop i H/\D.nx a H)\/((ZP lo n).go i H/\∃N:St->Hp->Prop,(∀c d,N c d->∃l,l<m/\W (i+1) l c d)/\∀x d,(ZP lo n).yld i H x d->g x a d λb h=>k { D with nx:=N,ct:=N,bk:=D.nx } b h):=by
 refine⟨λi m a H=>m=n-i/\i<=n/\f i a H,⟨n,by simp,bj _,q⟩,?_⟩;rintro i m a H ⟨rfl,t,p⟩;by_cases j:i<n
 .refine .inr ⟨j,f (i+1),λc d o=>⟨n-(i+1),by lia,rfl,j,o⟩,λx d y=>?_⟩;obtain⟨e,y⟩:=y;subst e y;exact r i a _ j p
 .have e:i=n:=by lia
  subst e;exact .inl ⟨ap _,s a H p⟩
abbrev R2:=V->V->Hp->VK->Prop
def iS(X:Cx)(f:Value->Value->Sem Value)(r:R2):Prop:=∀(a:gn)(s:Shared)(b:St)(H:Hp)(x y:V)(v u:Value)(Q:VK),Inv X a b H s->RelV x v->RelV y u->r x y H Q->wpAny (model X.prog X.w) X.A (f v u) (EP X a b Q) X.xe s
def UnR(X:Cx)(f:Value->Sem Value)(r:V->Hp->VK->Prop):Prop:=∀(a:gn)(s:Shared)(b:St)(H:Hp)(x:V)(v:Value)(Q:VK),Inv X a b H s->RelV x v->r x H Q->wpAny (model X.prog X.w) X.A (f v) (EP X a b Q) X.xe s
def lD(X:Cx)(f:Value)(r:List V->Hp->VK->Prop):Prop:=∀(a:gn)(s:Shared)(b:St)(H:Hp)(d:List V)(c:gy)(Q:VK),Inv X a b H s->Vals d c->r d H Q->wpAny (model X.prog X.w) X.A (call f c) (EP X a b Q) X.xe s
def VZ(X:Cx)(r:V->Hp->(Bool->Hp->Prop)->Prop):Prop:=∀(a:gn)(s:Shared)(b:St)(H:Hp)(x:V)(v:Value)(Q:Bool->Hp->Prop),Inv X a b H s->RelV x v->r x H Q->wpAny (model X.prog X.w) X.A (truthy v) (TP X a b Q) X.xe s
def tOp(r:R2)(e d:TE):TE:=λa H Q=>e a H λx b=>d a b λy c=>r x y c Q
def tUn(r:V->Hp->VK->Prop)(c:TE):TE:=λa H Q=>c a H λx b=>r x b Q
def rI(C:Int->Int->Prop)(g:Int->Int->V):R2:=λx y H Q=>∃i j,x=.int i/\y=.int j/\C i j/\Q (g i j) H
def ZQ(g:Int->Int->V):R2:=λx y H Q=>∃i j,x=.int i/\y=.int j/\Q (g i j) H
def rU(g:Int->V):V->Hp->VK->Prop:=λx H Q=>∃i,x=.int i/\Q (g i) H
section
variable{X:Cx}{a b c:Expr}{d k l:TE}{e:Pos}
theorem No(B:PE X a d)(C:PE X b k){g:gn}{s:Shared}{i:St}{H:Hp}{R:V->V->Hp->Prop}(I:Inv X g i H s)(h:d i H λx p=>k i p λy j=>R x y j){Q:gf}{f:Value->Value->Sem Value}(G:∀v u o x y j,Inv X g i j o->RelV x v->RelV y u->R x y j->wpAny (model X.prog X.w) X.A (f v u) Q X.xe o):wpAny (model X.prog X.w) X.A (eval a X.env) (λv m=>wpAny (model X.prog X.w) X.A (eval b X.env) (λu n=>wpAny (model X.prog X.w) X.A (f v u) Q X.xe n) X.xe m) X.xe s:=by
 refine dQ (B g s i H _ I h) λv r x p E t F=>?_;refine dQ (C g r i p _ E F) λu o y j q z D=>?_;exact G v u o x y j q t z D
theorem bn{g:Operator}{r:R2}(p:iS X (binaryOp g) r)(m:PE X a d)(o:PE X b k):PE X (.BinOp a g b e) (tOp r d k):=by
 intro f s i H Q I h;exact wpAny_BinOp (No m o I h λv u t x y n j z w q=>p f t i n x y v u Q j z w q)
theorem Bj{i:UnaryOp}{r:V->Hp->VK->Prop}(q:UnR X (unaryOp i) r)(t:PE X a d):PE X (.UnaryOp i a e) (tUn r d):=by
 intro f s g H Q I h;exact UnaryOp_ (dQ (t f s g H _ I h) λv m x j o n p=>q f m g j x v Q o n p)
theorem opI{f:Value->Value->Sem Value}{C:Int->Int->Prop}{g:hR}(m:∀(i j:Int) (t u:Tok) (s:Shared) (Q:gf) (E:gf),C i j->Q (.int (g i j) s.toks) { s with toks:=s.toks+1 }->wpAny (model X.prog X.w) X.A (f (.int i t) (.int j u)) Q E s):iS X f (rI C λi j=>.int (g i j)):=by
 intro n s B H x y v u Q I z p h;obtain⟨i,j,rfl,rfl,o,q⟩:=h;obtain⟨t,rfl⟩:=z;obtain⟨r,rfl⟩:=p;exact m i j t r s _ _ o ⟨.int (g i j),H,I.tok _,⟨_,rfl⟩,q⟩
theorem Ti{f:Value->Value->Sem Value}{g:hR}(m:∀(i j:Int) (t u:Tok) (s:Shared) (Q:gf) (E:gf),Q (.int (g i j) s.toks) { s with toks:=s.toks+1 }->wpAny (model X.prog X.w) X.A (f (.int i t) (.int j u)) Q E s):iS X f (ZQ λi j=>.int (g i j)):=by
 intro n s z H x y v u Q I r o h;obtain⟨i,j,rfl,rfl,q⟩:=h;obtain⟨t,rfl⟩:=r;obtain⟨p,rfl⟩:=o;exact m i j t p s _ _ ⟨.int (g i j),H,I.tok _,⟨_,rfl⟩,q⟩
theorem Kt{f:Value->Value->Sem Value}{g:Int->Int->Bool}(m:∀(i j:Int) (t u:Tok) (s:Shared) (Q:gf) (E:gf),Q (.bool (g i j)) s->wpAny (model X.prog X.w) X.A (f (.int i t) (.int j u)) Q E s):iS X f (ZQ λi j=>.bl (g i j)):=by
 intro n s z H x y v u Q I r o h;obtain⟨i,j,rfl,rfl,q⟩:=h;obtain⟨t,rfl⟩:=r;obtain⟨p,rfl⟩:=o;exact m i j t p s _ _ ⟨.bl (g i j),H,I,rfl,q⟩
def VN(i j:Int):Prop:=0<j/\j<1073741824
def UG(i j:Int):Prop:=0<=j/\j<=1000000/\i.natAbs<2^64
def WL(i j:Int):Prop:=(-(2^64)<i/\i<2^64)\/(-(2^64)<j/\j<2^64)
theorem WL.ok{i j:Int}(h:WL i j):IntMulOk i j:=by
 rcases h with⟨h1,h2⟩|⟨h1,h2⟩
 .exact .of_left (intBits_le_64 h1 h2)
 .exact .of_right (intBits_le_64 h1 h2)
theorem eP:iS X (binaryOp .Add) (ZQ λi j=>.int (i+j)):=Ti λ_ _ _ _ _ _ _ q=>add_int q
theorem iI:iS X (binaryOp .Sub) (ZQ λi j=>.int (i-j)):=Ti λ_ _ _ _ _ _ _ q=>sub_int q
theorem me:iS X (binaryOp .Mult) (rI WL λi j=>.int (i*j)):=opI λ_ _ _ _ _ _ _ f q=>mul_int q f.ok
theorem gO:iS X (binaryOp .FloorDiv) (rI VN λi j=>.int (i/j)):=opI λi j _ _ _ _ _ f q=>by
 have g:(0:Int)<j:=f.1;have h:j<1073741824:=f.2;exact floordiv_int (by lia) (by rw[kJ i (by lia)];exact q) (.inl (PyProof.noPylong_small (by lia)))
theorem fQ:iS X (binaryOp .Mod) (rI (λ_ j=>0<j) λi j=>.int (i%j)):=opI λi j _ _ _ _ _ f q=>by
 have g:(0:Int)<j:=f;exact mod_int' (by lia) (by rw[Int.fmod_eq_emod_of_nonneg i (by lia)];exact q)
theorem Nf:iS X (binaryOp .Pow) (rI UG λi j=>.int (i^j.toNat)):=opI λ_ _ _ _ _ _ _ f q=>pow_int_small f.1 f.2.1 f.2.2 q
theorem unI{f:Value->Sem Value}{g:f5}(j:∀(i:Int) (t:Tok) (s:Shared) (Q:gf) (E:gf),Q (.int (g i) s.toks) { s with toks:=s.toks+1 }->wpAny (model X.prog X.w) X.A (f (.int i t)) Q E s):UnR X f (rU λi=>.int (g i)):=by
 intro m s o H x v Q I n h;obtain⟨i,rfl,q⟩:=h;obtain⟨t,rfl⟩:=n;exact j i t s _ _ ⟨.int (g i),H,I.tok _,⟨_,rfl⟩,q⟩
theorem xK:UnR X (unaryOp .USub) (rU λi=>.int (-i)):=unI λ_ _ _ _ _ q=>neg_int q
end
def rK:V->V->Bool
 | .ω,.ω=>true|.ω,.int _=>true|.int _,.ω=>true|.ω,.bl _=>true|.bl _,.ω=>true|.ω,.str _=>true|.str _,.ω=>true
 | .int _,.int _=>true|.bl _,.bl _=>true|.str _,.str _=>true|.X3 _,.X3 _=>true
 | .int _,.str _=>true|.str _,.int _=>true|.bl _,.str _=>true|.str _,.bl _=>true
 | _,_=>false
def rEq:R2:=λx y H Q=>rK x y=true/\Q (.bl (decide (x=y))) H
def rNe:R2:=λx y H Q=>rK x y=true/\Q (.bl (!decide (x=y))) H
theorem Iu{i j:Int}:decide (V.int i=V.int j)=(i==j):=by
 rw[dU];simp
theorem Mf{i j:Bool}:decide (V.bl i=V.bl j)=(i==j):=by
 rw[dU];simp
theorem Iv{i j:Str}:decide (V.str i=V.str j)=(i==j):=by
 rw[dU];simp
theorem IK{i j:Array UInt8}:decide (V.X3 i=V.X3 j)=(i.toList==j.toList):=by
 rw[dU];cases i;cases j;simp
section
variable{X:Cx}{a b c:Expr}{f g l:TE}{pos:Pos}
theorem fq{d:gn}{h:St}{H:Hp}{s:Shared}{Q:VK}{k i:Bool}(I:Inv X d h H s)(q:Q (.bl k) H)(e:k=i):EP X d h Q (.bool i) s:=by
 subst e;exact⟨.bl k,H,I,rfl,q⟩
theorem jU:iS X (compareOp .Eq) rEq:=by
 intro n s o H x y v u Q I m d h;obtain⟨k,q⟩:=h;cases x with
 | ω=>
   cases m;cases y with
   | ω=>cases d;exact PySem.EqNone.eq_none_none (fq I q (by simp))
   | bl j=>cases d;exact PySem.EqNone.eq_none_bool (fq I q (by simp))
   | int j=>obtain⟨e,rfl⟩:=d;exact PySem.EqNone.eq_none_int (fq I q (by simp))
   | str j=>obtain⟨e,rfl⟩:=d;exact PySem.EqNone.eq_none_str (fq I q (by simp))
   | _=>exact absurd (show false=true from k) bz
 | bl i=>
   cases m;cases y with
   | ω=>cases d;exact PySem.EqNone.eq_bool_none (fq I q (by simp))
   | bl j=>cases d;exact eq_bool (fq I q Mf)
   | str j=>obtain⟨e,rfl⟩:=d;exact PySem.EqMixed.eq_bool_str (fq I q (by simp))
   | _=>exact absurd (show false=true from k) bz
 | int i=>
   obtain⟨t,rfl⟩:=m;cases y with
   | ω=>cases d;exact PySem.EqNone.eq_int_none (fq I q (by simp))
   | int j=>obtain⟨e,rfl⟩:=d;exact eq_int (fq I q Iu)
   | str j=>obtain⟨e,rfl⟩:=d;exact PySem.EqMixed.eq_int_str (fq I q (by simp))
   | _=>exact absurd (show false=true from k) bz
 | str i=>
   obtain⟨t,rfl⟩:=m;cases y with
   | ω=>cases d;exact PySem.EqNone.eq_str_none (fq I q (by simp))
   | bl j=>cases d;exact PySem.EqMixed.eq_str_bool (fq I q (by simp))
   | int j=>obtain⟨e,rfl⟩:=d;exact PySem.EqMixed.eq_str_int (fq I q (by simp))
   | str j=>obtain⟨e,rfl⟩:=d;exact eq_str (fq I q Iv)
   | _=>exact absurd (show false=true from k) bz
 | X3 i=>
   obtain⟨t,rfl⟩:=m;cases y with
   | X3 j=>obtain⟨e,rfl⟩:=d;exact PySem.W.eq_bytes (fq I q IK)
   | _=>exact absurd (show false=true from k) bz
 | _=>cases y<;>exact absurd (show false=true from k) bz
theorem r9:iS X (compareOp .NotEq) rNe:=by
 intro n s o H x y v u Q I m d h;obtain⟨k,q⟩:=h;cases x with
 | ω=>
   cases m;cases y with
   | ω=>cases d;exact PySem.EqNone.ne_none_none (fq I q (by simp))
   | bl j=>cases d;exact PySem.EqNone.ne_none_bool (fq I q (by simp))
   | int j=>obtain⟨e,rfl⟩:=d;exact PySem.EqNone.ne_none_int (fq I q (by simp))
   | str j=>obtain⟨e,rfl⟩:=d;exact PySem.EqNone.ne_none_str (fq I q (by simp))
   | _=>exact absurd (show false=true from k) bz
 | bl i=>
   cases m;cases y with
   | ω=>cases d;exact PySem.EqNone.ne_bool_none (fq I q (by simp))
   | bl j=>cases d;exact ne_bool (fq I q (congrArg not Mf))
   | str j=>obtain⟨e,rfl⟩:=d;exact PySem.EqMixed.ne_bool_str (fq I q (by simp))
   | _=>exact absurd (show false=true from k) bz
 | int i=>
   obtain⟨t,rfl⟩:=m;cases y with
   | ω=>cases d;exact PySem.EqNone.ne_int_none (fq I q (by simp))
   | int j=>obtain⟨e,rfl⟩:=d;exact ne_int (fq I q (congrArg not Iu))
   | str j=>obtain⟨e,rfl⟩:=d;exact PySem.EqMixed.ne_int_str (fq I q (by simp))
   | _=>exact absurd (show false=true from k) bz
 | str i=>
   obtain⟨t,rfl⟩:=m;cases y with
   | ω=>cases d;exact PySem.EqNone.ne_str_none (fq I q (by simp))
   | bl j=>cases d;exact PySem.EqMixed.ne_str_bool (fq I q (by simp))
   | int j=>obtain⟨e,rfl⟩:=d;exact PySem.EqMixed.ne_str_int (fq I q (by simp))
   | str j=>obtain⟨e,rfl⟩:=d;exact ne_str (fq I q (congrArg not Iv))
   | _=>exact absurd (show false=true from k) bz
 | X3 i=>
   obtain⟨t,rfl⟩:=m;cases y with
   | X3 j=>obtain⟨e,rfl⟩:=d;exact PySem.W.ne_bytes (fq I q (congrArg not IK))
   | _=>exact absurd (show false=true from k) bz
 | _=>cases y<;>exact absurd (show false=true from k) bz
theorem qd:iS X (compareOp .Lt) (ZQ λi j=>.bl (decide (i<j))):=Kt λ_ _ _ _ _ _ _ q=>lt_int q
theorem vg:iS X (compareOp .LtE) (ZQ λi j=>.bl (decide (i<=j))):=Kt λ_ _ _ _ _ _ _ q=>le_int q
theorem Q9:iS X (compareOp .Gt) (ZQ λi j=>.bl (decide (j<i))):=Kt λ_ _ _ _ _ _ _ q=>gt_int q
theorem Vz:iS X (compareOp .GtE) (ZQ λi j=>.bl (decide (j<=i))):=Kt λ_ _ _ _ _ _ _ q=>ge_int q
theorem m5(b:Expr){d:CmpOp}(h:d≠.In:=by decide)(e:d≠.NotIn:=by decide):behindInMarks d b=false:=by
 have j:(d==CmpOp.In)=false:=by cases d<;>first|rfl|exact absurd rfl h
 have i:(d==CmpOp.NotIn)=false:=by cases d<;>first|rfl|exact absurd rfl e
 cases b<;>simp[behindInMarks,j,i]
theorem m6{e:CmpOp}{r:R2}(o:iS X (compareOp e) r)(k:PE X a f)(n:PE X b g)(p:behindInMarks e b=false):PE X (.Compare a [e] [b] pos) (tOp r f g):=by
 intro d s i H Q I h;exact wpAny_Compare1 (No k n I h λv u t x y m j z w q=>o d t i m x y v u Q j z w q) p
def Bw(t:TE):TT:=λd H Q=>t d H λx e=>∃k,x=.bl k/\Q k e
theorem Dm{j:CmpOp}{r:R2}(B:iS X (compareOp j) r)(q:PE X a f)(w:PE X b g)(C:behindInMarks j b=false):PT X (.Compare a [j] [b] pos) (Bw (tOp r f g)):=by
 intro d s i H Q I h;refine wpAny_isTrue_Compare1 (dQ (q d s i H _ I h) λv n x J K o L=>dQ (w d n i J _ K L) λu D y t m p G=>
  dQ (B d D i t x y v u _ m o p G) λc N z A F M ⟨k,e,E⟩=>?_) C
 subst e;cases M;exact cP ⟨A,F,E⟩
def AU(r m:R2)(f g l:TE):TE:=λd H Q=>f d H λx h=>g d h λy i=>r x y i λz e=>∃k,z=.bl k/\(if k=true then l d e λn j=>m y n j Q else Q (.bl false) e)
theorem Pj{n j:CmpOp}{r o:R2}(N:iS X (compareOp n) r)(U:iS X (compareOp j) o)(G:PE X a f)(L:PE X b g)(S:PE X c l)(O:lastMarks [n,j] [b,c]=false:=by with_unfolding_all rfl):PE X (.Compare a [n,j] [b,c] pos) (AU r o f g l):=by
 intro i s m H Q I h;refine Compare_chain (dQ (G i s m H _ I h) λv C x W Y D Z=>chain_link (dQ (L i C m W _ Y Z) λu P y J B p V=>
  dQ (N i P m J x y v u _ B D p V) λd A z q w r3 ⟨k,e,t⟩=>?_)) O
 subst e;cases r3;refine cP ?_;cases k with
 | false=>exact ite_ff ⟨.bl false,q,w,rfl,t⟩
 | true=>exact ite_tt (chain_last (ϑ (S i A m q _ w t) λw' E ⟨K,R,F,T,M⟩=>U i E m R y K u w' Q F p T M))
theorem zK{n j:CmpOp}{r o:R2}(R:iS X (compareOp n) r)(Y:iS X (compareOp j) o)(J:PE X a f)(O:PE X b g)(V:PE X c l)(S:lastMarks [n,j] [b,c]=false:=by with_unfolding_all rfl):PT X (.Compare a [n,j] [b,c] pos) (Bw (AU r o f g l)):=by
 intro i s m H Q I h;refine isTrue_chain (dQ (J i s m H _ I h) λv C x H1 I1 D q1=>test_link (dQ (O i C m H1 _ I1 q1) λu T y K B p q2=>
  dQ (R i T m K x y v u _ B D p q2) λd A z q w r3 ⟨k,e,t⟩=>?_)) S
 subst e;cases r3;refine cP ?_;cases k with
 | false=>
   obtain⟨k',L,F⟩:=t;cases L;exact ite_ff ⟨q,w,F⟩
 | true=>
   refine ite_tt (test_last (ϑ (V i A m q _ w t) λw' E ⟨N,U,G,W,P⟩=>ϑ (Y i E m U y N u w' _ G p W P) λd' s5 ⟨z2,Z,M,r5,k2,e2,q5⟩=>?_));subst e2;cases r5;exact cP ⟨Z,M,q5⟩
def TX(K:gg)(x:V)(H:Hp)(k:Bool):Prop:=match x with
 | .ω=>k=false
 | .bl b=>k=b
 | .int i=>k=(i != 0)
 | .str y=>y.length<=sizeLine/\k=((y.length:Int) != 0)
 | .X3 y=>y.size<=sizeLine/\k=((y.size:Int) != 0)
 | .ref p=>(∃d,ξ K H p d/\k=!d.isEmpty)\/(∃d,Ξ K H p d/\k=!d.isEmpty)\/∃e,H p=some (.dK e)/\k=!e.isEmpty
 | _=>False
theorem Kx{d:Type}{h:List (d×V)}{e:List (d×Value)}(r:KV h e):(!e.isEmpty)=!h.isEmpty:=by
 cases r<;>rfl
theorem Bn{e:List V}{d:gy}(r:Vals e d):(!d.toArray.isEmpty)=!e.isEmpty:=by
 cases r<;>simp
theorem tG:(sizeLine:Nat)<2^63:=by rw[sizeLine_eq];decide
theorem UY:VZ X (λx H Q=>∃k,TX X.K x H k/\Q k H):=by
 intro C s G H x v Q I u h;obtain⟨k,e,q⟩:=h;have J:=tG;have L:sizeLine=16777216:=sizeLine_eq;cases x with
 | ω=>
   cases u;have d:k=false:=e;subst d;exact truthy_none ⟨H,I,q⟩
 | bl b=>
   cases u;have d:k=b:=e;subst d;exact cP ⟨H,I,q⟩
 | int i=>
   obtain⟨t,rfl⟩:=u;have d:k=(i != 0):=e;subst d;exact PySem.P.truthy_int ⟨H,I,q⟩
 | str y=>
   obtain⟨t,rfl⟩:=u;obtain⟨F,d⟩:y.length<=sizeLine/\k=((y.length:Int) != 0):=e;subst d;exact PySem.P.truthy_str (by lia) ⟨H,I.tok _,q⟩
 | X3 y=>
   obtain⟨t,rfl⟩:=u;obtain⟨F,d⟩:y.size<=sizeLine/\k=((y.size:Int) != 0):=e;subst d;exact PySem.W.truthy_bytes (by lia) ⟨H,I.tok _,q⟩
 | ref p=>
   cases u;have d:(∃n,ξ X.K H p n/\k=!n.isEmpty)\/(∃n,Ξ X.K H p n/\k=!n.isEmpty)\/∃o,H p=some (.dK o)/\k=!o.isEmpty:=e;rcases d with⟨n,hx,d⟩|⟨n,hx,d⟩|⟨o,hx,d⟩
   .subst d;obtain⟨B,r,A,D⟩:=I.list hx;have j:=r.length;exact wpAny_truthy_list A.isList (by simp only[aM];lia) ⟨H,I.tok _,by rw[Bn r];exact q⟩
   .subst d;obtain⟨B,r,A,D⟩:=I.tuple hx;have j:=r.length;exact truthy_tuple A (by simp only[aM];lia) ⟨H,I.tok _,by rw[Bn r];exact q⟩
   .subst d;obtain⟨D,E,z,r,m⟩:o.length<=sizeLine/\(p==sysModules)=false/\∃z,KV o z/\s.heap.DictOf (ik X.prog X.w) p z:=I.ψ p _ hx;have j:o.length=z.length:=Paired.length r;exact wpAny_truthy_dict E m (by lia) ⟨H,I.tok _,by rw[Kx r];exact q⟩
 | _=>exact(show False from e).elim
theorem sY(p:PE X a f)(m:∀d,isTrue a X.env d=(do let v <-d;standAt a.pos;holding [v] (truthy v))):PT X a (λi H Q=>f i H λx j=>∃k,TX X.K x j k/\Q k j):=by
 intro e s i H Q I h;exact isTrue_plain (dQ (p e s i H _ I h) λv n x q r o t=>UY e n i q x v Q r o t) (m _)
theorem qY{x:V}{d:gy}(r:Vals [x] d):∃u,d=[u]/\RelV x u:=by
 cases r with
 | cons r1 r2=>cases r2;exact⟨_,rfl,r1⟩
theorem J4{x y:V}{d:gy}(r:Vals [x,y] d):∃u e,d=[u,e]/\RelV x u/\RelV y e:=by
 cases r with
 | cons r1 r2=>
   cases r2 with
   | cons r3 r4=>cases r4;exact⟨_,_,rfl,r1,r3⟩
theorem L7(n:X.calm=true):lD X (.builtin "max") (λe H Q=>∃i j,e=[.int i,.int j]/\Q (.int (if j>i then j else i)) H):=by
 intro m s o H e x Q I r h;obtain⟨i,j,rfl,q⟩:=h;obtain⟨u,y,rfl,⟨t,rfl⟩,⟨v,rfl⟩⟩:=J4 r;refine max_two_ints (I.ok.hd n) λp w k=>⟨_,H,I.kept k,?_,q⟩;by_cases d:j>i
 .rw[aj d,aj d];exact⟨_,rfl⟩
 .rw[ag d,ag d];exact⟨_,rfl⟩
theorem xa:lD X (.type "int") (λd H Q=>(∃i,d=[.int i]/\Q (.int i) H)\/∃k,d=[.bl k]/\Q (.int (if k then 1 else 0)) H):=by
 intro e s j H d m Q I r h;rcases h with⟨i,rfl,q⟩|⟨k,rfl,q⟩
 .obtain⟨u,rfl,t,rfl⟩:=qY r;exact call_int_int ⟨.int i,H,I,⟨_,rfl⟩,q⟩
 .obtain⟨u,rfl,r1⟩:=qY r;cases r1;exact call_int_bool ⟨.int (if k then 1 else 0),H,I.tok _,⟨_,rfl⟩,q⟩
end
structure YQ(h:Heap)(x dx C:Addr)(mA:g8):Prop where
 obj:h.get? x=some (PySem.W.instObj C dx)
 ns:h.Ns1 dx mA
 ne:dx≠x
theorem LR{h:Heap}{d:Addr}{g:g8}(n:h.Ns1 d g):∃i,h.get? d=some i/\∀b,PySem.W.lookIn b i=some (g b):=by
 obtain⟨o,f,s,k,r,j,_,l⟩:=n;refine⟨o,k,λb=>?_⟩;have e:=l b;unfold nsFind findBy at e;rw[<-Array.find?_toList]at e;unfold PySem.W.lookIn;rw[r];dsimp only;split
 .rename_i y q
  rw[q]at e;exact congrArg some e
 .rename_i q
  rw[q]at e;have a:f.toList.any (·.refKey)=false:=by
   rw[List.any_eq_false];intro y p;obtain⟨z,t,c⟩:=j y (Array.mem_toList_iff.mp p);simp[DictEntry.refKey,c]
  have m:¬f.toList.any (·.refKey)=true:=by rw[a];exact bz
  rw[ag m];exact congrArg some e
theorem YQ.look{h:Heap}{x c C:Addr}{d:g8}(I:YQ h x c C d):∃b,PySem.W.InstAt h x (PySem.W.instObj C c) C (some b)/\∀a,PySem.W.lookIn a b=some (d a):=let ⟨b,ho,hl⟩:=LR I.ns
 ⟨b,⟨I.obj,rfl,rfl,ho⟩,hl⟩
section
variable{e:Program}{w:World}{A:Around}{E:gf}{s:Shared}{K:gg}{x i C f:Addr}{j:g8}{c:Str}{v:Value}
theorem Rf{a:Bool}{Q:gf}(X:K.In s.heap)(I:YQ s.heap x i C j)(k:PySem.W.plainGet K C c=true)(d:PySem.W.hasDictIn K C=true)(m:PySem.W.findIn K (.ref C) c=some none)(b:j c=some v)(l:PySem.W.handedIn v=true)(h:Q v { s with toks:=s.toks+1 }):wpAny (model e w) A (getAttr (.ref x) c a) Q E s:=by
 obtain⟨n,J,g⟩:=I.look;exact PySem.W.get_value X J (PySem.W.plainGet_of k).1 (PySem.W.findObj_own d m rfl (by rw[g,b])) l h
theorem Rh{ns:hD}{Q:Unit->Shared->Prop}(X:K.In s.heap)(I:YQ s.heap x i C j)(B:PySem.W.findIn K (.ref C) "__setattr__"=some (some (.builtin "object.__setattr__")))(z:PySem.W.plainOver K C=true)(H:PySem.W.takerIn K C c=some none)(p:PySem.W.hasDictIn K C=true)(q:PySem.Within j ns)(t:ns.length<=sizeLine)(h:∀k,YQ k x i C (λy=>if y=c then some v else j y)->Heap.SameBut i s.heap k->Q () { s with heap:=k,toks:=s.toks+2 }):wpAny (model e w) A (setAttr (.ref x) c v) Q E s:=by
 obtain⟨N,J,L⟩:=I.look;refine PySem.W.set_plain X J B (PySem.W.osa_open (s:={ s with toks:=s.toks+1 }) (r:=none) X J z H λb=>?_);obtain⟨O,u,l⟩:=PySem.W.any_some p;have G:s.heap.get? x=some ⟨.ref C,some i,.plain,#[]⟩:=I.obj;refine ak (ba (ak (ak (wpAny_loadPart G (ak (PySem.W.Looks.here (s:={ s with toks:=s.toks+1 }) (PySem.W.looks_clsIn X u) ?_))))));rw[l];refine ba (a:=some i) (ak (ba (ak ?_)));refine wpAny_nsSet1 (s:={ s with toks:=s.toks+1 }) I.ns λk d g=>?_;obtain⟨M,D,F,o,n,m⟩:=d.count (PySem.Within.cons c v q);refine ak (wpAny_lookBehind o (by rw[n];exact pastItsLine_dict (aL m (by rw[aF];lia))) ?_);exact ba (h _ ⟨(g.2 _ (Ne.symm I.ne)).trans I.obj,d,I.ne⟩ g)
theorem Nl{R:Result->Shared->Prop}{k:gy}{b:List (Str×Value)}(X:K.In s.heap)(n:PySem.W.makesIn K C=true)(l:PySem.W.findIn K (.ref C) "__init__"=some (some (.ref f)))(m:PySem.W.typeIn K (.ref f)=some (.type "function"))(h:codeAny (model e w) (A.under (.builtin "type.__call__" ⟨.ref C::k,b⟩)) (.call (.ref f) ⟨.ref (s.heap.objs.size+1)::k,b⟩) (PySem.W.InitBack (s.heap.objs.size+1) R)
 { s with heap:=(s.heap.push PySem.W.emptyDict).push (PySem.W.instObj C s.heap.objs.size) }):codeAny (model e w) A (.call (.ref C) ⟨k,b⟩) R s:=by
 obtain⟨o,g,d,t,os⟩:=s;exact PySem.W.make_core (PySem.W.makes_of X n) (PySem.W.looks_findIn X l) (λa=>PySem.W.bind_fn X a m) (.inl rfl) h
end
def bF(f:Str)(v:V):List (Str×V)->List (Str×V)
 | []=>[(f,v)]
 | (g,x)::r=>if g=f then(g,v)::r else(g,x)::bF f v r
theorem cI(f g:Str)(v:V):∀b:List (Str×V),(bF f v b).lookup g=if g=f then some v else b.lookup g
 | []=>by
   show List.lookup g [(f,v)]=_;by_cases h:g=f
   .have hb:(g==f)=true:=gR.mpr h;simp only[List.lookup,hb,aj h]
   .have hb:(g==f)=false:=beq_eq_false_iff_ne.mpr h;simp only[List.lookup,hb,ag h]
 | (k,x)::r=>by
   have c:=cI f g v r;rw[show bF f v ((k,x)::r)=(if k=f then(k,v)::r else(k,x)::bF f v r)from rfl];by_cases a:k=f
   .rw[aj a];by_cases h:g=k
    .have hb:(g==k)=true:=gR.mpr h;simp only[List.lookup,hb,aj (h.trans a)]
    .have hb:(g==k)=false:=beq_eq_false_iff_ne.mpr h;simp only[List.lookup,hb,ag (λe:g=f=>h (e.trans a.symm))]
   .rw[ag a];by_cases h:g=k
    .have hb:(g==k)=true:=gR.mpr h;simp only[List.lookup,hb,ag (λe:g=f=>a (h.symm.trans e))]
    .have hb:(g==k)=false:=beq_eq_false_iff_ne.mpr h;simp only[List.lookup,hb];exact c
theorem wY(f:Str)(v:V):∀a:List (Str×V),f∈(bF f v a).map (·.1)/\∀g,g∈a.map (·.1)->g∈(bF f v a).map (·.1)
 | []=>⟨by simp[bF],λg h=>by simp at h⟩
 | (k,x)::r=>by
   obtain⟨d,c⟩:=wY f v r;rw[show bF f v ((k,x)::r)=(if k=f then(k,v)::r else(k,x)::bF f v r)from rfl];by_cases b:k=f
   .rw[aj b];subst b;exact⟨by simp,λg h=>by simpa using h⟩
   .rw[ag b];refine⟨?_,λg h=>?_⟩
    .rw[aq];exact aG _ d
    .rw[aq]at h ⊢;rcases ax.mp h with e|e
     .exact ax.mpr (.inl e)
     .exact aG _ (c g e)
theorem yQ(f:Str)(v:V):∀a:List (Str×V),(bF f v a).length<=a.length+1
 | []=>by simp[bF]
 | (k,x)::r=>by
   have c:=yQ f v r;rw[show bF f v ((k,x)::r)=(if k=f then(k,v)::r else(k,x)::bF f v r)from rfl];by_cases b:k=f
   .rw[aj b,aF,aF];lia
   .rw[ag b,aF,aF];lia
theorem oK.some_of{v:V}{o:Option Value}(r:oK (some v) o):∃u,o=some u/\RelV v u:=by
 cases o with
 | none=>exact(show False from r).elim
 | some u=>exact⟨u,rfl,r⟩
theorem Mj{v:V}{u:Value}(r:RelV v u):PySem.W.handedIn u=true:=by
 cases v with
 | ω=>cases(show u=Value.none from r);rfl
 | bl b=>cases(show u=Value.bool b from r);rfl
 | int i=>obtain⟨t,e⟩:=(show ∃t,u=Value.int i t from r);cases e;rfl
 | str x=>obtain⟨t,e⟩:=(show ∃t,u=Value.str x t from r);cases e;rfl
 | X3 b=>obtain⟨t,e⟩:=(show ∃t,u=Value.bytes b t from r);cases e;rfl
 | flt b=>obtain⟨t,e⟩:=(show ∃t,u=Value.float b t from r);cases e;rfl
 | ref a=>cases(show u=Value.ref a from r);rfl
 | ty n=>cases(show u=Value.type n from r);rfl
section
variable{P:Program}{w:World}{H j:Hp}{h i:Heap}{a C c:Addr}{b g:List (Str×V)}
theorem CN(m:Ϭ P w H h)(e:H a=some (.ins C c b)):∃k,YQ h a c C k/\(∀f,oK (b.lookup f) (k f))/\PySem.Within k (b.map (·.1))/\b.length<=1000/\H c=some (.own a):=by
 obtain⟨d,z,ne,l,k,n,r,q⟩:=(show Γ P w H h a (.ins C c b)from m a _ e);exact⟨k,⟨l,n,ne⟩,r,q,z,d⟩
end
structure Z5(K:gg)(C:Addr):Prop where
 pg:PySem.W.plainGet K C Str.empty=true
 hd:PySem.W.hasDictIn K C=true
 po:PySem.W.plainOver K C=true
 sa:PySem.W.findIn K (.ref C) "__setattr__"=some (some (.builtin "object.__setattr__"))
theorem Z5.get{K:gg}{C:Addr}(c:Z5 K C)(f:Str):PySem.W.plainGet K C f=true:=c.pg
def Ψ(K:gg)(C:Addr)(f:Str):Prop:=PySem.W.findIn K (.ref C) f=some none
theorem Ψ.adg{K:gg}{C:Addr}{f:Str}(n:Ψ K C f):PySem.W.takerIn K C f=some none:=by
 unfold PySem.W.takerIn;rw[show PySem.W.findIn K (.ref C) f=some none from n]
 rfl
section
variable{X:Cx}{d:gn}{j:St}{H:Hp}{s:Shared}{a C k:Addr}{i:List (Str×V)}{f:Str}{v:V}{A:Around}{E:gf}
theorem Ku{b:Bool}{Q:gf}(I:Inv X d j H s)(e:H a=some (.ins C k i))(c:Z5 X.K C)(n:Ψ X.K C f)(l:i.lookup f=some v)(h:∀u m,Inv X d j H m->RelV v u->Q u m):wpAny (model X.prog X.w) A (getAttr (.ref a) f b) Q E s:=by
 obtain⟨q,O,r,_,_,_⟩:=CN I.ψ e;obtain⟨u,p,g⟩:=oK.some_of (v:=v) (o:=q f) (by rw[<-l];exact r f);exact Rf I.WC O (c.get f) c.hd n p (Mj g) (h u _ (I.tok _) g)
theorem JZ{y:V}{u:Value}{Q:Unit->Shared->Prop}(I:Inv X d j H s)(e:H a=some (.ins C k i))(c:Z5 X.K C)(n:Ψ X.K C f)(N:i.length<1000)(L:RelV y u)(h:∀t,Inv X d j (upd H a (.ins C k (bF f y i))) t->Q () t):wpAny (model X.prog X.w) A (setAttr (.ref a) f u) Q E s:=by
 obtain⟨m,O,r,B,_,p⟩:=CN I.ψ e;have J:(i.map (·.1)).length<=sizeLine:=by rw[aa,sizeLine_eq];lia
 refine Rh I.WC O c.sa c.po n.adg c.hd B J λF l D=>h _ ?_;have hd:∃o,F.get? k=some o:=let ⟨o,_,_,e',_⟩:=l.ns;⟨o,e'⟩;refine I.write (x:=a) (e:=k) (by rw[e];exact True.intro) (.inr p) (λb q G z=>(D.2 b G).trans z) hd ?_;refine⟨by rw[aR O.ne];exact p,?_,O.ne,l.obj,_,l.ns,λg=>?_,λg M=>?_⟩
 .have:=yQ f y i;lia
 .show oK ((bF f y i).lookup g) (if g=f then some u else m g);rw[cI];by_cases q:g=f
  .rw[aj q,aj q];exact L
  .rw[ag q,ag q];exact r g
 .by_cases q:g=f
  .rw[q];exact(wY f y i).1
  .refine(wY f y i).2 g (B g λz=>M ?_);show(if g=f then some u else m g)=none;rw[ag q];exact z
theorem Inv.made(I:Inv X d j H s):Inv X d j (upd (upd H s.heap.objs.size (.own (s.heap.objs.size+1))) (s.heap.objs.size+1) (.ins C s.heap.objs.size []))
 { s with heap:=(s.heap.push PySem.W.emptyDict).push (PySem.W.instObj C s.heap.objs.size) }:=by
 have c:(s.heap.push PySem.W.emptyDict).get? s.heap.objs.size=some PySem.W.emptyDict:=bf s.heap rfl;have m:((s.heap.push PySem.W.emptyDict).push (PySem.W.instObj C s.heap.objs.size)).get? (s.heap.objs.size+1)=some (PySem.W.instObj C s.heap.objs.size):=by
  have:=bf (s.heap.push PySem.W.emptyDict) (o:=PySem.W.instObj C s.heap.objs.size) rfl
  rwa [df]at this
 have l:(s.heap.push PySem.W.emptyDict).Ns s.heap.objs.size (λ_=>none):=⟨PySem.W.emptyDict,#[],_,c,rfl,(λe g=>absurd g (by simp)),λ_=>rfl⟩;have h:=I.laid (a:=s.heap.objs.size) (o:=.own (s.heap.objs.size+1)) (h':=s.heap.push PySem.W.emptyDict) (t':=s.toks) (λb u q=>ar _ q) (ap _) ⟨_,c⟩;refine h.laid (a:=s.heap.objs.size+1) (o:=.ins C s.heap.objs.size []) (t':=s.toks) (λb u q=>ar _ q) (kQ (df _ _)) ?_;have ne:s.heap.objs.size≠s.heap.objs.size+1:=aV (fW _);refine⟨by rw[aR ne,ay],bj _,ne,m,λ_=>none,(Heap.Ns1.of_empty l).at λo q=>ar _ q,λ_=>True.intro,λy n=>absurd rfl n⟩
theorem Re{c:Program}{w:World}{b:Env}{e:Expr}{f:Str}{l:Pos}{s:Shared}{Q:gf}(m:attributeBase e f b (eval e b)=eval e b)(h:wpAny (model c w) A (eval e b) (λo g=>wpAny (model c w) A (getAttr o f true) Q E g) E s):wpAny (model c w) A (eval (.Attribute e f l) b) Q E s:=Attribute_any_ h (by rw[arm_eval_Attribute,m])
end
def Q2(K:gg)(g:TE)(f:Str):TE:=λd H Q=>g d H λx c=>∃a C e b v,x=.ref a/\c a=some (.ins C e b)/\Z5 K C/\Ψ K C f/\b.lookup f=some v/\Q v c
def Qk(K:gg)(i g:TE)(f:Str):TS:=λD b H=>g b H λy h=>i b h λx d=>∃a C e c,x=.ref a/\d a=some (.ins C e c)/\Z5 K C/\Ψ K C f/\c.length<1000/\D.nx b (upd d a (.ins C e (bF f y c)))
section
variable{X:Cx}{o e b:Expr}{f:Str}{g d k:Pos}{i j:TE}
theorem dB(t:PE X e i)(y:attributeBase e f X.env (eval e X.env)=eval e X.env):PE X (.Attribute e f g) (Q2 X.K i f):=by
 intro m s p H Q I h;refine Re y (dQ (t m s p H _ I h) λu G x A D B ⟨a,C,F,L,v,z,w,c,n,l,q⟩=>?_);subst z;obtain rfl:u=Value.ref a:=B;exact Ku D w c n l λM J r E=>⟨v,A,r,E,q⟩
theorem rd(w:PE X o i)(G:PE X b j)(E:swapsWith b (some (.Attribute o f d)) g.line X.env=pure false):PS X (.Assign [.Attribute o f d] b g) (Qk X.K i j f):=by
 intro m s p H D I h;refine plainObj_wpAny_Assign_Attribute (dQ (G m s p H _ I h) λu t y L N A q=>dQ (w m t p L _ N q) λF R x Q r M ⟨a,C,P,S,z,v,c,n,l,J⟩=>?_) E;subst z;obtain rfl:F=Value.ref a:=M;exact JZ r v c n l A λO B=>⟨p,_,B,J⟩
end
section
variable{X:Cx}{d:gn}{f:St}{H:Hp}{s:Shared}{A:Around}{E:gf}{Q:gf}{c:Value}{b:Bool}
inductive As(K:gg)(H:Hp):V->Value->Prop where
 | ω:As K H .ω (.type "NoneType")
 | bl (x:Bool):As K H (.bl x) (.type "bool")
 | int (i:Int):As K H (.int i) (.type "int")
 | str (x:Str):As K H (.str x) (.type "str")
 | flt (x:UInt64):As K H (.flt x) (.type "float")
 | lst {a:Addr} {xs:List V} (e:H a=some (.lst xs)):As K H (.ref a) (.type "list")
 | X4 {a:Addr} {o:Obj} {xs:List V} (e:H a=some (.X4 o (.lst xs))):As K H (.ref a) (.type "list")
 | tup {a:Addr} {xs:List V} (e:H a=some (.tup xs)):As K H (.ref a) (.type "tuple")
 | dK {a:Addr} {θ:List (Key×V)} (e:H a=some (.dK θ)):As K H (.ref a) (.type "dict")
 | dT {a:Addr} {θ:List (List Key×V)} (e:H a=some (.dT θ)):As K H (.ref a) (.type "dict")
 | ins {a C dx:Addr} {fs:List (Str×V)} (e:H a=some (.ins C dx fs)) (cl:Z5 K C) (ha:PySem.W.findIn K (.ref C) "__class__"=some (some (.builtin "object.__class__")))
  (hn:PySem.W.specialIn K (.builtin "object.__class__") "__get__"=some (some (.builtin "getset_descriptor.__get__"))) (htk:PySem.W.takesIn K (.builtin "object.__class__")=some true)
  (hm:PySem.W.mroIn K C (.type "object")=some true):As K H (.ref a) (.ref C)
theorem Na{x:V}{u t:Value}(I:Inv X d f H s)(g:RelV x u)(B:As X.K H x t)(e:PySem.W.kitOne X.K t c=some b)(h:∀v,Q (.bool b) { s with toks:=v }):wpAny (model X.prog X.w) A (call (.builtin "isinstance") [u,c]) Q E s:=by
 cases B with
 | ω=>cases(show u=Value.none from g);exact c9 PySem.W.kitx_none I.WC True.intro e (λz=>nomatch z) h
 | bl y=>cases(show u=Value.bool y from g);exact c9 PySem.W.kitx_bool I.WC True.intro e (λz=>nomatch z) h
 | int i=>obtain⟨t,q⟩:=(show ∃t,u=Value.int i t from g);cases q;exact c9 PySem.W.kitx_int I.WC True.intro e (λz=>nomatch z) h
 | str y=>obtain⟨t,q⟩:=(show ∃t,u=Value.str y t from g);cases q;exact c9 PySem.W.kitx_str I.WC True.intro e (λz=>nomatch z) h
 | flt y=>obtain⟨t,q⟩:=(show ∃t,u=Value.float y t from g);cases q;exact c9 PySem.W.kitx_float I.WC True.intro e (λz=>nomatch z) h
 | @lst a k ea=>
   cases(show u=Value.ref a from g);obtain⟨_,_,n,_,j⟩:=(show Γ X.prog X.w H s.heap a (.lst k)from I.ψ a _ ea);exact c9 PySem.W.kitx_list I.WC ⟨_,j,rfl⟩ e (λz=>nomatch z) h
 | @X4 a ob k ea=>
   cases(show u=Value.ref a from g);obtain⟨_,_,_,n,_,j⟩:=(show Γ X.prog X.w H s.heap a (.X4 ob (.lst k))from I.ψ a _ ea);exact c9 PySem.W.kitx_list I.WC ⟨_,j,rfl⟩ e (λz=>nomatch z) h
 | @tup a k ea=>
   cases(show u=Value.ref a from g);obtain⟨_,_,_,p⟩:=(show Γ X.prog X.w H s.heap a (.tup k)from I.ψ a _ ea);obtain⟨o,j,l,_⟩:=p;exact c9 PySem.W.kitx_tuple I.WC ⟨o,j,l⟩ e (λz=>nomatch z) h
 | @dK a θ ea=>
   cases(show u=Value.ref a from g);obtain⟨_,_,G,_,p⟩:=(show Γ X.prog X.w H s.heap a (.dK θ)from I.ψ a _ ea);obtain⟨o,m,r,j,l,_⟩:=p;exact c9 PySem.W.kitx_dict I.WC ⟨o,j,l.1⟩ e (λz=>nomatch z) h
 | @dT a θ ea=>
   cases(show u=Value.ref a from g);obtain⟨_,_,k,_,o,m,r,j,l,_⟩:=(show Γ X.prog X.w H s.heap a (.dT θ)from I.ψ a _ ea);exact c9 PySem.W.kitx_dict I.WC ⟨o,j,l.1⟩ e (λz=>nomatch z) h
 | @ins a C dx fs ea cl ha hn htk hm=>
   cases(show u=Value.ref a from g);obtain⟨D,O,_⟩:=CN I.ψ ea;obtain⟨F,J,_⟩:=O.look;exact c9 (PySem.W.kitx_own (cl.get _) cl.hd ha hn htk hm) I.WC J e (λz=>nomatch z) h
end
structure ϋ(k:Nat)(A:Around):Prop where
 hd:A.handled=none
 dp:A.depth+3*k+5<recursionLimit
 un:A.units+16*k+200<cLine
theorem ϋ.mono{j k:Nat}{A:Around}(r:ϋ k A)(h:j<=k):ϋ j A:=⟨r.hd,by have:=r.dp;lia,by have:=r.un;lia⟩
theorem ϋ.deeper{k:Nat}{A:Around}(r:ϋ (k+1) A)(a:Env):ϋ k (A.deeper a):=⟨r.hd,by have:=r.dp;show A.depth+1+3*k+5<_;lia,by have:=r.un;show A.units+3+16*k+200<_;lia⟩
theorem Ld{A:Around}{C:Addr}{b:gy}{a:List (Str×Value)}:(A.under (.builtin "type.__call__" ⟨.ref C::b,a⟩)).depth=A.depth+1:=by
 first|rfl|simp[Around.under,Code.weight,Code.isCreation,Code.isGuard,Code.isCaller,Code.frames,Code.isFrame,guardIds]
theorem J9{A:Around}{C:Addr}{b:gy}{a:List (Str×Value)}:(A.under (.builtin "type.__call__" ⟨.ref C::b,a⟩)).units=A.units+1:=by
 first|rfl|simp[Around.under,Code.cUnits,Code.frames,Code.isFrame]
theorem ϋ.make{k:Nat}{A:Around}(r:ϋ (k+1) A)(C:Addr)(a:gy)(b:List (Str×Value)):ϋ k (A.under (.builtin "type.__call__" ⟨.ref C::a,b⟩)):=⟨r.hd,by have:=r.dp;rw[Ld];lia,by have:=r.un;rw[J9];lia⟩
theorem ϋ.depth{k:Nat}{A:Around}(r:ϋ k A):A.depth<recursionLimit:=by have:=r.dp;lia
theorem ϋ.units{k:Nat}{A:Around}(r:ϋ k A):A.units+64<cLine:=by have:=r.un;lia
def abr:TA:=λ_ H Q=>Q [] H
def Kj(f:TE)(c:TA):TA:=λa H Q=>f a H λx b=>c a b λe d=>Q (x::e) d
section
variable{X:Cx}{e:Expr}{c:List Expr}{d:TE}{t:TA}{a:Pos}
theorem aB:PA X [] abr:=λ_ _ _ _ H Q I h=>gQ ⟨[],H,I,.nil,h⟩
theorem ah(n:PE X e d)(l:PA X c t)(p:starEach (e::c) X.env=(false,eval e X.env)::starEach c X.env:=by rfl):PA X (e::c) (Kj d t):=by
 intro a b s f H Q I h;rw[p];show wpAny _ _ (spliced ((false,eval e X.env)::backTo a (starEach c X.env))) _ _ s;refine gF (dQ (n b s f H _ I h) λu i x r v j w=>?_);exact uv (l a b i f r _ v w) λz y k o g m q=>⟨x::k,o,g,.cons j m,q⟩
def OS(t:TA):TE:=λg H Q=>t g H λf b=>f.length<=sizeLine/\∀p,b p=none->Q (.ref p) (upd b p (.tup f))
def OV(t:TA):TE:=λg H Q=>t g H λf b=>f.length<=sizeLine/\∀p,b p=none->Q (.ref p) (upd b p (.lst f))
theorem jR{x1}(h:PA X c t):PE X (.Tuple c x1 a) (OS t):=by
 intro f s k H Q I m;refine wpAny_Tuple_spliced (uv (h a f s k H _ I m) λn g l i j r ⟨z,q⟩=>⟨by rw[<-r.length];exact z,?_⟩);have o:i g.heap.objs.size=none:=j.ψ.fresh (ap _);refine⟨.ref g.heap.objs.size,upd i g.heap.objs.size (.tup l),j.laid (t':=g.toks) (λb u e=>ar _ e) (ap _) ?_,rfl,q _ o⟩;exact⟨z,n,r,⟨_,bf _ rfl,rfl,_,rfl⟩⟩
theorem eD(h:PA X c t):PE X (.List c a) (OV t):=by
 intro f s k H Q I m;refine wpAny_List_spliced (uv (h a f s k H _ I m) λn g l i j r ⟨z,q⟩=>⟨by rw[<-r.length];exact z,?_⟩);have o:i g.heap.objs.size=none:=j.ψ.fresh (ap _);refine⟨.ref g.heap.objs.size,upd i g.heap.objs.size (.lst l),j.laid (t':=g.toks) (λb u e=>ar _ e) (ap _) ?_,rfl,q _ o⟩;exact⟨z,n,0,r,bf _ rfl⟩
end
abbrev Sp:=List V->Hp->VK->XK->Prop
abbrev Xd:=List Env->Hp->Shared->XK->Value->Shared->Prop
structure Yb(P:Program)(w:World)(K:gg)(mg:g8)(base:Heap)(A:Around)(outer:List Env)(s:Shared)(H:Hp):Prop where
 frames:A.frames=some outer
 mod:Mod K mg base
 bs:∀b o,base.get? b=some o->s.heap.get? b=some o/\H b=none
 Z1:base.objs.size<=s.heap.objs.size
 Ac:s.heap.FunFrames base outer
 frf:∀b∈ϭ outer,H b=none
 ψ:Ϭ P w H s.heap
 bare:AllBare s.gens
def CE(a:List Env)(P:Program)(w:World)(H:Hp)(s:Shared)(Q:VK)(u:Value)(b:Shared):Prop:=∃v c,b.os=s.os/\AllBare b.gens/\Un (ϭ a) [] H c s.heap b.heap/\Ϭ P w c b.heap/\RelV v u/\Q v c
def CR(c:Xd)(a:List Env)(P:Program)(w:World)(H:Hp)(s:Shared)(Q:VK)(E:XK)(r:Result)(b:Shared):Prop:=match r with
 | .ok (.ret u)=>CE a P w H s Q u b
 | .ok _=>False
 | .error e=>c a H s E e b
structure ϓ(P:Program)(w:World)(K:gg)(mg:g8)(base:Heap)(CX:Xd)(k:Nat)(f:Addr)(fd:FuncData)(ps:hD)(sp:Sp):Prop where
 len:∀vs H Q E,sp vs H Q E->vs.length=ps.length
 run:∀(A:Around)(outer:List Env)(s:Shared)(H:Hp)(args:Args)(us:gy)(vs:List V)(Q:VK)(E:XK),ϋ k A->Yb P w K mg base A outer s H->BindsTo s fd args (ps.zip us)->Vals vs us->sp vs H Q E->codeAny (model P w) A (.call (.ref f) args) (CR CX outer P w H s Q E) s
theorem Yb.make{P:Program}{w:World}{K:gg}{c:g8}{b:Heap}{A:Around}{a:List Env}{s:Shared}{H:Hp}(e:Yb P w K c b A a s H)(C:Addr)(d:gy)(f:List (Str×Value)):Yb P w K c b (A.under (.builtin "type.__call__" ⟨.ref C::d,f⟩)) a s H:=⟨by first|exact e.frames|(simpa[Around.under,Code.envs,Code.isFrame,pushEnvs]using e.frames),e.mod,e.bs,e.Z1,e.Ac,e.frf,e.ψ,e.bare⟩
section
variable{X:Cx}{a:gn}{c:St}{H:Hp}{s e:Shared}
theorem Inv.adh(I:Inv X a c H s):Yb X.prog X.w X.K X.mg X.base X.A X.stack s H:=⟨I.ok.frames,I.ok.mod,I.bs,aL I.ok.Z1 I.sz,I.stack,I.Wn,I.ψ,I.bare⟩
theorem Inv.after{Q:VK}{u:Value}(I:Inv X a c H s)(h:CE X.stack X.prog X.w H s Q u e):EP X a c Q u e:=by
 obtain⟨v,l,os,f,k,m,r,q⟩:=h;obtain⟨j,g,d,t,i⟩:=e;obtain rfl:i=s.os:=os;exact⟨v,l,I.call (h':=j) (g':=g) (d':=d) (t':=t) (ch:=[]) k m f (λb z=>absurd z (by simp)),r,q⟩
end
def vF(d:Sp)(c:List V)(E:XK)(t:TA):TE:=λa H Q=>t a H λe b=>d (e++c) b Q E
def J0(C:Addr)(f:Sp)(d:List V)(E:XK)(t:TA):TE:=λc H Q=>t c H λg b=>∀x a,b x=none->b a=none->a≠x->f (.ref x::(g++d)) (upd (upd b a (.own x)) x (.ins C a [])) (λv e=>v=.ω/\Q (.ref x) e) E
def Binds(K:gg)(d:FuncData)(b:hD)(c:gy):Prop:=∀(s:Shared)(a:gy),K.In s.heap->(a++c).length=b.length->BindsTo s d ⟨a,[]⟩ (b.zip (a++c))
theorem Binds.all{K:gg}{c:FuncData}{b:hD}(h:∀a:List Value,a.length=b.length->bindArgs c ⟨a,[]⟩=pure (b.zip a)):Binds K c b []:=λs a _ d=>by
 rw[bH]at d ⊢;exact .of_eq (h a d)
def rf(d:Xd)(X:Cx)(E:XK):Prop:=∀(a:gn)(c:St)(H:Hp)(s:Shared)(e:Value)(b:Shared),Inv X a c H s->d X.stack H s E e b->X.xe e b
section
variable{X:Cx}{j:Xd}{k:Nat}{f C:Addr}{i:FuncData}{g:hD}{l:Sp}{c:List V}{a:gy}{E:XK}{x m:Str}{p b n:Pos}{e o:Expr}{d:List Expr}{y:TE}{t:TA}
theorem U3{q:gn}{D:St}{H:Hp}{s:Shared}{Q:VK}{v:gy}{B:List V}(F:ϓ X.prog X.w X.K X.mg X.base j k f i g l)(L:ϋ k X.A)(M:Binds X.K i g a)(P:Vals c a)(O:rf j X E)(I:Inv X q D H s)(r:Vals B v)(h:l (B++c) H Q E):wpAny (model X.prog X.w) X.A (call (.ref f) v) (EP X q D Q) X.xe s:=by
 have G:Vals (B++c) (v++a):=r.append P;have J:(v++a).length=g.length:=by rw[<-G.length];exact F.len _ _ _ _ h
 refine wpAny_call (kT (F.run X.A X.stack s H ⟨v,[]⟩ (v++a) (B++c) Q E L I.adh (M s v I.WC J) G h) λr N z=>?_);cases r with
 | error e=>exact O q D H s e N I z
 | ok fl=>
   cases fl with
   | ret u=>exact I.after z
   | next=>exact False.elim z
   | brk=>exact False.elim z
   | cont=>exact False.elim z
theorem qk(F:ϓ X.prog X.w X.K X.mg X.base j k f i g l)(J:ϋ k X.A)(O:Gl X x)(N:X.mg x=some (.ref f))(G:PySem.W.keepIn X.K (.ref f)=true)(M:Binds X.K i g a)(S:Vals c a)(R:rf j X E)(L:PA X (e::d) t)(v:(x==("__debug__":Str))=false:=by decide)(D:starEach (e::d) X.env=(false,eval e X.env)::starEach d X.env:=by rfl)(P:(backTo b (starEach d X.env)).any (·.1)=false:=by rfl):PE X (.Call (.Name x p) (e::d) [] b) (vF l c E t):=by
 intro u s B H Q I h;refine ir (xW I O N ?_ v);refine PySem.W.callWith_K (h₀:=X.base) I.ok.mod.kin G (uv (L b u s B H _ I h) λU T Y V z r q=>⟨z.WC,?_⟩) D P;exact U3 F J M S R z r q
structure Mk(K:gg)(C f:Addr):Prop where
 makes:PySem.W.makesIn K C=true
 init:PySem.W.findIn K (.ref C) "__init__"=some (some (.ref f))
 fn:PySem.W.isFn K (.ref f)=true
 kp:PySem.W.keepIn K (.ref C)=true
theorem PY{q:gn}{J:St}{H:Hp}{s:Shared}{Q:VK}{z:gy}{L:List V}(M:Mk X.K C f)(F:ϓ X.prog X.w X.K X.mg X.base j k f i g l)(S:ϋ (k+1) X.A)(U:Binds X.K i g a)(hd:Vals c a)(hx:rf j X E)(I:Inv X q J H s)(r:Vals L z)(h:∀x G,H x=none->H G=none->G≠x->l (.ref x::(L++c)) (upd (upd H G (.own x)) x (.ins C G [])) (λv T=>v=.ω/\Q (.ref x) T) E):wpAny (model X.prog X.w) X.A (call (.ref C) z) (EP X q J Q) X.xe s:=by
 have O:=h (s.heap.objs.size+1) s.heap.objs.size (I.ψ.fresh (fD _)) (I.ψ.fresh (ap _)) (aV (fW _));have D:=Inv.made (C:=C) I;have N:Vals (V.ref (s.heap.objs.size+1)::(L++c)) (Value.ref (s.heap.objs.size+1)::(z++a)):=.cons rfl (r.append hd);have R:(Value.ref (s.heap.objs.size+1)::z++a).length=g.length:=by
  have e:=N.length;rw[F.len _ _ _ _ O]at e;exact e.symm
 refine wpAny_call (Nl (f:=f) I.WC M.makes M.init (gR.mp M.fn) (kT (F.run _ X.stack _ _ ⟨Value.ref (s.heap.objs.size+1)::z,[]⟩ (Value.ref (s.heap.objs.size+1)::(z++a)) _ _ E (S.make C z [])
  (D.adh.make C z []) (U _ (Value.ref (s.heap.objs.size+1)::z) D.WC R) N O) λr s' B=>?_))
 cases r with
 | error e=>exact hx q J _ _ e s' D B
 | ok fl=>
   cases fl with
   | ret u=>
     obtain⟨v,Y,Z,P,ev,W⟩:=D.after B;subst ev;exact⟨P,⟨V.ref (s.heap.objs.size+1),Y,Z,rfl,W⟩⟩
   | next=>exact False.elim B
   | brk=>exact False.elim B
   | cont=>exact False.elim B
theorem xX(M:Mk X.K C f)(F:ϓ X.prog X.w X.K X.mg X.base j k f i g l)(D:ϋ (k+1) X.A)(N:Gl X x)(L:X.mg x=some (.ref C))(J:Binds X.K i g a)(hd:Vals c a)(P:rf j X E)(G:PA X (e::d) t)(hdb:(x==("__debug__":Str))=false:=by decide)(B:starEach (e::d) X.env=(false,eval e X.env)::starEach d X.env:=by rfl)(O:(backTo b (starEach d X.env)).any (·.1)=false:=by rfl):PE X (.Call (.Name x p) (e::d) [] b) (J0 C l c E t):=by
 intro u s z H Q I h;refine ir (xW I N L ?_ hdb);refine PySem.W.callWith_K (h₀:=X.base) I.ok.mod.kin M.kp (uv (G b u s z H _ I h) λS R U T v r q=>⟨v.WC,?_⟩) B O;exact PY M F D J hd P v r q
end
structure η(N P:hD)(sc:Scope):Prop where
 kind:sc.kind=.function
 co:sc.isCoroutine=false
 gen:sc.isGenerator=false
 nd:N.Nodup
 pre:N.take P.length=P
 par:∀x∈P,sc.names.lookup x=some .local\/sc.names.lookup x=some .cell
 abt:∀y∈sc.names,y.2≠.free
theorem Du{b:Str->Option NameKind}{x:Str}:∀{a:List (Str×Value)}{m:g8},(∀v,(x,v)∉a)->bindL b a m x=m x
 | [],_,_=>rfl
 | (n,v)::r,m,h=>by
   unfold bindL;rw[Du λw c=>h w (aG _ c)];split
   .have:x≠n:=(by rintro rfl;exact h v aJ);simp[this]
   .rfl
theorem DY{b:Str->Option NameKind}{x:Str}:∀{a:List (Str×Value)}{m:g8},(∀v,(x,v)∉a)->bindC b a m x=m x
 | [],_,_=>rfl
 | (n,v)::r,m,h=>by
   unfold bindC;rw[DY λw c=>h w (aG _ c)];split
   .rfl
   .have:x≠n:=(by rintro rfl;exact h v aJ);simp[this]
theorem DW{a:Str->Option NameKind}{x:Str}{v:Value}:∀{P:hD}{b:gy}{i:Nat}{m:g8},P.Nodup->P[i]?=some x->b[i]?=some v->a x=some .local->bindL a (P.zip b) m x=some v
 | [],_,_,_,_,h,_,_=>by simp at h
 | _::_,[],_,_,_,_,h,_=>by simp at h
 | p::P,w::b,0,m,nd,h1,h2,hk=>by
   simp at h1 h2;subst h1;subst h2;show bindL a ((p,w)::P.zip b) m p=_;unfold bindL;rw[Du λv c=>(bg.mp nd).1 (hG c).1,aj hk];simp
 | p::P,w::b,i+1,m,nd,h1,h2,hk=>by
   show bindL a ((p,w)::P.zip b) m x=_;unfold bindL;exact DW (i:=i) (bg.mp nd).2 (by simpa using h1) (by simpa using h2) hk
theorem Dx{a:Str->Option NameKind}{x:Str}{v:Value}:∀{P:hD}{b:gy}{i:Nat}{m:g8},P.Nodup->P[i]?=some x->b[i]?=some v->a x≠some .local->bindC a (P.zip b) m x=some v
 | [],_,_,_,_,h,_,_=>by simp at h
 | _::_,[],_,_,_,_,h,_=>by simp at h
 | p::P,w::b,0,m,nd,h1,h2,hk=>by
   simp at h1 h2;subst h1;subst h2;show bindC a ((p,w)::P.zip b) m p=_;unfold bindC;rw[DY λv c=>(bg.mp nd).1 (hG c).1,ag hk];simp
 | p::P,w::b,i+1,m,nd,h1,h2,hk=>by
   show bindC a ((p,w)::P.zip b) m x=_;unfold bindC;exact Dx (i:=i) (bg.mp nd).2 (by simpa using h1) (by simpa using h2) hk
def start(N:hD)(a:List V):St:=a.map some++List.replicate (N.length-a.length) none
def rH(g:Xd)(P:Program)(w:World)(K:gg)(mg:g8)(base:Heap)(N:hD)(b:Str)(a:Scope)(f:Addr)(d:Value)(A:Around)(outer:List Env)(s:Shared)(H:Hp)(E:XK):Cx where
 prog:=P
 w:=w
 K:=K
 mg:=mg
 base:=base
 A:=A.deeper (envOfC b a s.heap.objs.size f d)
 N:=N
 s₀:=s
 H₀:=H
 env:=envOfC b a s.heap.objs.size f d
 outer:=outer
 stack:=envOfC b a s.heap.objs.size f d::outer
 ex:=[]
 calm:=true
 fn:=λ_=>true
 pn:=[]
 xe:=λe i=>wpAny (model P w) (A.deeper (envOfC b a s.heap.objs.size f d)) (leaving (envOfC b a s.heap.objs.size f d) e) (λ_ c=>g outer H s E e c) (λh c=>g outer H s E h c) i
theorem zx{a:Scope}{n:Nat}{x:Str}(h:a.names.lookup x=some .cell):∃c,(cellsFrom n a.names []).lookup x=some c:=by
 have q:=lR a.names n [] (.inl h);exact ft.mp q
theorem Ma{R:Xd}{P:Program}{w:World}{K:gg}{L:g8}{m:Heap}{N B:hD}{j:Str}{d:Scope}{f:Addr}{J:Value}{A:Around}{g:List Env}{s O:Shared}{H:Hp}{E:XK}{M:gy}{C:List V}(S:η N B d)(Y:A.handled=none)(o:Yb P w K L m A g s H)(hl:C.length=B.length)(r:Vals C M)(x:InCallC s s.heap.objs.size (bindL (envOfC j d s.heap.objs.size f J).kindOf (B.zip M) λ_=>none) (cellsFrom (s.heap.objs.size+1) d.names []) (bindC (envOfC j d s.heap.objs.size f J).kindOf (B.zip M) λ_=>none) O):Inv (rH R P w K L m N j d f J A g s H E) [] (start N C) H O:=by
 have Bv:B.length<=N.length:=by have:=congrArg List.length S.pre;rw[bq]at this;lia
 obtain⟨G,tk,rfl,Q⟩:=x.done;have t:∀b:Addr,b∉(rH R P w K L m N j d f J A g s H E).ex:=λb z=>absurd (show b∈([]:gw)from z) (by simp);refine⟨⟨o.mod,S.kind,rfl,rfl,ap _,λy z c G l=>?_,λy hy=>?_,λy c _ h=>?_,λ_=>Y,Around.frames_deeper o.frames,.inr ⟨rfl,rfl⟩,λb z=>absurd z (t b),o.bs,o.Z1,λb _ _=>t b,λb z=>absurd z (t b),o.Ac,o.frf⟩,rfl,o.bare,Un.kept Q,⟨_,x.toInCall.ns,λi y v G l Z=>?_⟩,λy c h=>⟨_,x.cell y c h⟩,o.ψ.fresh (ap _),λy c h=>?_,λp F=>absurd (show p∈([]:gn)from F) (by simp),o.ψ.kept Q,?_⟩
 .exact name_of_addr x.apart (dE G) (dE l)
 .have hy:d.names.lookup y=some .cell\/d.names.lookup y=some .free:=hy;rcases hy with hy|hy
  .exact zx hy
  .exact absurd rfl (S.abt _ (dE hy))
 .exact iX (x.above y c (dE h))
 .have I:i<C.length:=by
   unfold start at l;by_cases I:i<C.length
   .exact I
   .rw[c8 (by simpa using I)]at l;rw[fF]at l;split at l<;>cases l
  have X:C[i]?=some v:=by
   unfold start at l;rw[dh (by simpa using I),aA]at l;cases e:C[i]? with
   | none=>rw[e]at l;cases l
   | some a=>rw[e]at l;cases l;rfl
  obtain⟨u,T,U⟩:=r.get X;have F:B[i]?=some y:=by
   rw[<-S.pre,iA (by lia)];exact G
  have D:B.Nodup:=by rw[<-S.pre];exact S.nd.sublist (List.take_sublist _ _)
  refine⟨u,U,?_⟩;rcases S.par y (aQ F)with k|k
  .exact .inl ⟨k,DW D F T k⟩
  .obtain⟨c,e⟩:=zx (n:=s.heap.objs.size+1) k;refine .inr ⟨.inl k,c,e,?_⟩;have q:=x.cell y c e;rw[Dx D F T (by show d.names.lookup y≠_;rw[k];decide)]at q;exact q
 .exact o.ψ.fresh (iX (x.above y c (dE h)))
 .unfold start;show _=N.length;rw[aE,aa,cU]
  lia
theorem Q4{G:Xd}{P:Program}{w:World}{K:gg}{M:g8}{base:Heap}{k:Nat}{f:Addr}{l d:Str}{g:Arguments}{h:List Stmt}{a:Scope}{dV kV B pm p ct oc:Value}{an od:Option Addr}{Zj:Array (Option Value)}{N L:hD}{Y:Sp}(lk:K.lookup f=some ⟨oc,od,.func (PySem.W.fnOf l d g h a dV kV B pm an p ct),Zj⟩)(YM:PySem.W.codeIn K p d=true)(S:η N L a)(F:∀j H Q E,Y j H Q E->j.length=L.length)(XA:∀(A:Around) (c:List Env) (s:Shared) (H:Hp) (j:List V) (Q:VK) (E:XK),ϋ k (A.deeper (envOfC d a s.heap.objs.size f p))->Y j H Q E->∃t,X9 (rH G P w K M base N d a f p A c s H E) h t/\t { nx:=λ_ m=>Q .ω m,rt:=Q } (start N j) H):ϓ P w K M base G (k+1) f (PySem.W.fnOf l d g h a dV kV B pm an p ct) L Y:=by
 refine⟨F,λA c s H ai us j Q E T D hb r ZR=>?_⟩;have hl:=F _ _ _ _ ZR;have KX:K.In s.heap:=D.mod.kin.keeps λb o e=>(D.bs b o e).1;have U:s.heap.NoLimit:=D.mod.nolimit.keeps λb o e=>(D.bs b o e).1;have O:∀y∈L.zip us,a.names.lookup y.1=some .local\/(a.names.lookup y.1=some .cell/\((cellsFrom (s.heap.objs.size+1) a.names []).lookup y.1).isSome=true):=λ⟨n,v⟩ hy=>by
  rcases S.par n (hG hy).1 with q|q
  .exact .inl q
  .exact .inr ⟨q,lR _ _ _ (.inl q)⟩
 refine codeAny_call_function T.depth (KX _ _ lk) rfl S.co S.gen rfl (PySem.W.codeRec_of KX YM) (hb _ _ _ _ ?_);refine wpAny_newFunctionEnv_cells S.kind O λa7 he Z x=>?_;subst he;refine⟨U.keeps x.toInCall.keep,codeAny_func ?_⟩;obtain⟨t,ht,hq⟩:=XA A c s H j Q E (T.deeper _) ZR;have I:Inv (rH G P w K M base N d a f p A c s H E) [] (start N j) H Z:=Ma S T.hd D hl r x;refine di (ht [] Z (start N j) H _ I hq) (λfl X z=>?_) λe X z=>z;have C:∀{i:St}{m:Hp}{v:V}{u:Value},Inv (rH G P w K M base N d a f p A c s H E) [] i m X->RelV v u->Q v m->CE c P w H s Q u X:=λ{i m v u} J R q=>⟨v,m,J.os,J.bare,J.base,J.ψ,R,q⟩
 cases fl with
 | ret u=>
   obtain⟨v,i,m,J,R,q⟩:=z;exact C J R q
 | next=>
   obtain⟨i,m,J,q⟩:=z;exact C (v:=V.ω) (u:=Value.none) J rfl q
 | brk=>
   obtain⟨_,_,_,q⟩:=z;exact False.elim q
 | cont=>
   obtain⟨_,_,_,q⟩:=z;exact False.elim q
section
variable{X:Cx}{x:Str}{p a:Pos}{e:Expr}{b:List Expr}{t:TA}{c T:String}{r:List V->Hp->VK->Prop}
def tCB(r:List V->Hp->VK->Prop)(t:TA):TE:=λd H Q=>t d H λg f=>r g f Q
theorem FA(n:lD X (.builtin c) r)(o:Gl X x)(m:X.mg x=none)(v:bootBuiltins x=some (.builtin c))(l:PA X (e::b) t)(q:x≠"__name__":=by decide)(f:(x==("__debug__":Str))=false:=by decide)(i:starEach (e::b) X.env=(false,eval e X.env)::starEach b X.env:=by rfl)(u:(backTo a (starEach b X.env)).any (·.1)=false:=by rfl):PE X (.Call (.Name x p) (e::b) [] a) (tCB r t):=by
 intro d s g H Q I h;refine ir (oM I o m v ?_ q f);exact PyProof.Rows.callWith_builtin1 (uv (l a d s g H _ I h) λw j z y A k B=>n d j g y z w Q A k B) i u
theorem DH(n:lD X (.type T) r)(o:Gl X x)(m:X.mg x=none)(v:bootBuiltins x=some (.type T))(l:PA X (e::b) t)(q:x≠"__name__":=by decide)(f:(x==("__debug__":Str))=false:=by decide)(i:starEach (e::b) X.env=(false,eval e X.env)::starEach b X.env:=by rfl)(u:(backTo a (starEach b X.env)).any (·.1)=false:=by rfl):PE X (.Call (.Name x p) (e::b) [] a) (tCB r t):=by
 intro d s g H Q I h;refine ir (oM I o m v ?_ q f);exact cG (uv (l a d s g H _ I h) λw j z y A k B=>n d j g y z w Q A k B) i u
end
end L2
namespace HT
open PySem PyProof.Rows
section
variable{a:Program}{w:World}{A:Around}{E:gf}{s:Shared}
def WY(n d:Nat):Option Int->Nat
 | none=>d
 | some v=>if v<0 then(v+(n:Int)).toNat else min v.toNat n
end
end HT
namespace L2
open PySem PySem.Spec PyProof.Rows
abbrev TO:=St->Hp->(Option Int->Hp->Prop)->Prop
def PO(X:Cx)(e:Option Expr)(t:TO):Prop:=∀(a:gn)(s:Shared)(b:St)(H:Hp)(Q:Option Int->Hp->Prop),Inv X a b H s->t b H Q->wpAny (model X.prog X.w) X.A (evalPart e X.env) (λu d=>∃o c,Inv X a b c d/\IsPart u o/\Q o c) X.xe s
def Xe:TO:=λ_ H Q=>Q none H
def Kg(t:TE):TO:=λa H Q=>t a H λx b=>∃i,x=.int i/\Q (some i) b
section
variable{X:Cx}{e:Expr}{d:TE}{a c:Option Expr}{g f:TO}{j k:Pos}
theorem Ii:PO X none Xe:=by
 intro b s i H Q I h;rw[evalPart_none];exact ba ⟨none,H,I,.none,h⟩
theorem IZ(h:PE X e d):PO X (some e) (Kg d):=by
 intro b s l H Q I r;rw[evalPart_some];refine dQ (h b s l H _ I r) λu v x m o n p=>?_;obtain⟨i,rfl,q⟩:=p;obtain⟨t,rfl⟩:=n;exact⟨some i,m,o,.int i t,q⟩
def SlR(X:Cx)(r:V->Option Int->Option Int->Hp->VK->Prop):Prop:=∀(b:gn)(s:Shared)(h:St)(H:Hp)(x:V)(v m l:Value)(a c:Option Int)(i:Addr)(Q:VK),Inv X b h H s->RelV x v->s.heap.IsSliceOf i m l .none->IsPart m a->IsPart l c->r x a c H Q->∃T id,typeLookup (.type T) "__getitem__"=pure (some (.builtin id))/\s.TypeIs v T/\wpAny (model X.prog X.w) X.A (getItem v (.ref i)) (EP X b h Q) X.xe s
def tSl(r:V->Option Int->Option Int->Hp->VK->Prop)(d:TE)(g f:TO):TE:=λb H Q=>d b H λx h=>g b h λl i=>f b i λu m=>r x l u m Q
theorem Gb{r:V->Option Int->Option Int->Hp->VK->Prop}(F:SlR X r)(z:PE X e d)(D:PO X a g)(K:PO X c f):PE X (.Subscript e (.Slice a c none k) j) (tSl r d g f):=by
 intro i s n H Q I h;refine Subscript_ (dQ (z i s n H _ I h) λv B x S U C W=>?_);refine wpAny_Slice (ϑ (D i B n S _ U W) λp M ⟨l,L,y,J,R⟩=>ϑ (K i M n L _ y R) λo m ⟨u,t,P,E,N⟩=>?_);rw[evalPart_none];refine ba ?_;have G:Inv X i n t { m with heap:=m.heap.push { cls:=.type "slice",data:=.fields #[p,o,.none] } }:=P.kept (t':=m.toks) λb ob q=>ar _ q;obtain⟨T,id,Y,Z,O⟩:=F i { m with heap:=m.heap.push { cls:=.type "slice",data:=.fields #[p,o,.none] } } n t x v p o l u m.heap.objs.size Q G C (Heap.IsSliceOf.new ..) J E N;show wpAny (model X.prog X.w) X.A (subscriptTail e (.Slice a c none k) v (.ref m.heap.objs.size)) (EP X i n Q) X.xe { m with heap:=m.heap.push { cls:=.type "slice",data:=.fields #[p,o,.none] } };exact tail_any (ops:=[.ref m.heap.objs.size,v]) Z Y O (by with_unfolding_all rfl)
def wI(b:List V)(a c:Option Int):List V:=(b.drop (HT.WY b.length 0 a)).take (HT.WY b.length b.length c-HT.WY b.length 0 a)
theorem Hj(b:List V)(a c:Option Int):(wI b a c).length<=b.length:=by
 unfold wI;rw[bq,fu]
 lia
end
def Zk(n:Nat)(i:Int):Option Nat:=if 0<=i then(if i<n then some i.toNat else none)else if -(n:Int)<=i then some (i+n).toNat else none
def ϲ{b:Type}(a:List b)(i:Int):Option b:=(Zk a.length i).bind λj=>a[j]?
theorem Jl{n:Nat}{i:Int}{j:Nat}(h:Zk n i=some j):seqIndex? i n=some j/\j<n/\-(n:Int)<=i/\i<n:=by
 unfold Zk at h;by_cases b:0<=i
 .rw[aj b]at h;by_cases a:i<n
  .rw[aj a]at h;have e:i.toNat=j:=bi h;exact⟨by rw[seqIndex_of b a,e],by lia,by lia,a⟩
  .rw[ag a]at h;cases h
 .rw[ag b]at h;by_cases a:-(n:Int)<=i
  .rw[aj a]at h;have e:(i+n).toNat=j:=bi h;exact⟨by rw[seqIndex_neg (by lia) a,e],by lia,a,by lia⟩
  .rw[ag a]at h;cases h
theorem Ck{b:Type}{a:List b}{i:Int}{v:b}(h:ϲ a i=some v):∃j,seqIndex? i a.length=some j/\a[j]?=some v/\j<a.length/\-(a.length:Int)<=i/\i<a.length:=by
 unfold ϲ at h;cases e:Zk a.length i with
 | none=>rw[e]at h;cases h
 | some j=>
   rw[e]at h;obtain⟨f,g,d,c⟩:=Jl e;exact⟨j,f,h,g,d,c⟩
theorem IW{b:Type}{a:List b}{j:Nat}{v:b}(h:a[j]?=some v):ϲ a (j:Int)=some v:=by
 have c:j<a.length:=(az.mp h).1;have e:Zk a.length (j:Int)=some j:=by
  unfold Zk;rw[aj (by lia),aj (by lia)];simp
 unfold ϲ;rw[e];exact h
def Ig(b:Expr):Prop:=∀o i,subscripted b false o i=operate [o,i] (getItem o i)
def IxR(X:Cx)(r:R2):Prop:=∀(c a:Expr)(b:gn)(s:Shared)(d:St)(H:Hp)(x y:V)(v u:Value)(Q:VK),Inv X b d H s->RelV x v->RelV y u->r x y H Q->subscripted a false v u=operate [v,u] (getItem v u)->wpAny (model X.prog X.w) X.A (subscriptTail c a v u) (EP X b d Q) X.xe s
def MtR(X:Cx)(id:String)(r:V->List V->Hp->VK->Prop):Prop:=∀(a:gn)(s:Shared)(b:St)(H:Hp)(x:V)(d:List V)(v:Value)(c:gy)(Q:VK),Inv X a b H s->RelV x v->Vals d c->r x d H Q->wpAny (model X.prog X.w) X.A (call (.builtin id) (v::c)) (EP X a b Q) X.xe s
section
variable{X:Cx}{a b:Expr}{F E:TE}{D:Pos}
theorem mQ{r:R2}(f:IxR X r)(g:PE X a F)(j:PE X b E)(m:Ig b):PE X (.Subscript a b D) (tOp r F E):=by
 intro c s d H Q I h;exact Subscript_ (No g j I h λv u k x y i e n l q=>f a b c k d i x y v u Q e n l q (m _ _))
def zg(K:gg):R2:=λx y H Q=>∃p c i v,x=.ref p/\y=.int i/\ξ K H p c/\ϲ c i=some v/\Q v H
def Ou(K:gg):R2:=λx y H Q=>∃p c i v,x=.ref p/\y=.int i/\Ξ K H p c/\ϲ c i=some v/\Q v H
theorem bL:IxR X (zg X.K):=by
 intro g l c s m H x y v u Q I R M h o;obtain⟨p,T,i,z,rfl,rfl,J,B,q⟩:=h;cases R;obtain⟨t,rfl⟩:=M;obtain⟨k,r,f,U⟩:=I.list J;obtain⟨j,e,G,S,O,P⟩:=Ck B;obtain⟨w,A,L⟩:=r.get G;have C:=r.length;have hn:=tG;have d:EP X c m Q w s:=⟨z,H,I,L,q⟩;by_cases n:0<=i
 .have hj:i.toNat=j:=by
   rw[seqIndex_of n P]at e;exact bi e
  exact item_listR f.isList n (by lia) (by rw[hj];simpa using A) d o
 .have hj:(i+(k.toArray.size:Int)).toNat=j:=by
   rw[seqIndex_neg (by lia) O]at e;rw[aM,<-C];exact bi e
  exact subscriptTail_builtinR (x:=w) f.isList.typeIs slot_list_getitem.lookup
   (wpAny_getItem_list_neg (Q:=λr N=>r=w/\EP X c m Q r N) f.isList (by lia) (by rw[aM]<;>lia) (by lia) (by rw[hj];simpa using A) ⟨rfl,d⟩) o
theorem jw:IxR X (Ou X.K):=by
 intro e f c s g H x y v u Q I M C h G;obtain⟨p,P,i,z,rfl,rfl,A,l,q⟩:=h;cases M;obtain⟨t,rfl⟩:=C;obtain⟨L,r,k,R⟩:=I.tuple A;obtain⟨j,n,o,O,T,U⟩:=Ck l;obtain⟨w,N,B⟩:=r.get o;have m:=r.length;have S:=tG;have d:EP X c g Q w s:=⟨z,H,I,B,q⟩;exact subscriptTail_builtinR (x:=w) k.typeIs slot_tuple_getitem.lookup
  (getItem_tuple (j:=j) (Q:=λr J=>r=w/\EP X c g Q r J) k (by lia) (by lia) (by rw[aM,<-m];exact n) (by simpa using N) ⟨rfl,d⟩) G
theorem K4(c:gy)(n j:Nat)(u:Value):Obj.mapSeq (·.setIfInBounds j u) { cls:=.type "list",data:=.seq c.toArray n }={ cls:=.type "list",data:=.seq (c.set j u).toArray n }:=by
 simp[Obj.mapSeq]
theorem Inv.lst{d:gn}{g:St}{H:Hp}{s:Shared}{p:Addr}{f:List V}(I:Inv X d g H s)(h:H p=some (.lst f)):∃(c:gy)(n:Nat),Vals f c/\s.heap.get? p=some { cls:=.type "list",data:=.seq c.toArray n }/\f.length<=sizeLine:=by
 obtain⟨z,c,n,r,e⟩:=I.ψ p _ h;exact⟨c,n,r,e,z⟩
theorem Inv.abv{d:gn}{k:St}{H:Hp}{s:Shared}{p:Addr}{m j:List V}{g c:gy}{n i:Nat}{f:Obj->Obj}(I:Inv X d k H s)(h:H p=some (.lst m))(v:s.heap.get? p=some { cls:=.type "list",data:=.seq g.toArray n })(l:f { cls:=.type "list",data:=.seq g.toArray n }={ cls:=.type "list",data:=.seq c.toArray i })(r:Vals j c)(w:j.length<=sizeLine)(t:Nat):Inv X d k (upd H p (.lst j)) { s with heap:=s.heap.update p f,toks:=t }:=by
 have e:(s.heap.update p f).get? p=some { cls:=.type "list",data:=.seq c.toArray i }:=by
  rw[eZ f v (by rw[l]<;>rfl),l]
 refine I.write (x:=p) (e:=p) (by rw[h];trivial) (.inl rfl) (λb u o q=>(dz _ _ (Ne.symm o)).trans q) ⟨_,e⟩ ?_;exact⟨w,c,i,r,e⟩
def aaS:V->V->V->Hp->(Hp->Prop)->Prop:=λo i v H Q=>∃p c k j,o=.ref p/\i=.int k/\H p=some (.lst c)/\Zk c.length k=some j/\Q (upd H p (.lst (c.set j v)))
theorem mP:OW X aaS:=by
 intro c s z H o i v O L u Q I G J B h;obtain⟨p,C,k,j,rfl,rfl,w,A,q⟩:=h;cases G;obtain⟨t,rfl⟩:=J;obtain⟨d,n,r,g,K⟩:=I.lst w;obtain⟨e,M,l,y⟩:=Jl A;have f:=r.length;have N:=tG;have m:Inv X c z (upd H p (.lst (C.set j v))) { s with heap:=s.heap.update p (Obj.mapSeq (·.setIfInBounds j u)) }:=I.abv w g (K4 d n j u) (r.set B j) (by rw[eO];exact K) s.toks
 by_cases x:0<=k
 .have hk:k.toNat=j:=by
   rw[seqIndex_of x y]at e;exact bi e
  exact PySem.W.ki_setAt g x (by lia) (by rw[aM,<-f];exact y) (by rw[hk];exact⟨_,m,q⟩)
 .have hk:(k+(d.toArray.size:Int)).toNat=j:=by
   rw[seqIndex_neg (by lia) l]at e;rw[aM,<-f];exact bi e
  exact PySem.W.ki_setBack g (by lia) (by rw[aM,<-f];exact l) (by lia) (by rw[hk];exact⟨_,m,q⟩)
theorem EN(lo c:Option Int)(n:Nat):(sliceBounds lo c none n).1=((HT.WY n 0 lo:Nat):Int)/\(sliceBounds lo c none n).2.1=((HT.WY n n c:Nat):Int)/\(sliceBounds lo c none n).2.2=1:=by
 refine⟨?_,?_,rfl⟩
 .cases lo with
  | none=>simp[sliceBounds,HT.WY]
  | some i=>
    simp only[sliceBounds,HT.WY,Option.getD_none,show(1:Int)>0 by decide,if_true];by_cases h:i<0
    .simp only[h,if_true]<;>lia
    .simp only[h,if_false]<;>lia
 .cases c with
  | none=>simp[sliceBounds,HT.WY]
  | some i=>
    simp only[sliceBounds,HT.WY,Option.getD_none,show(1:Int)>0 by decide,if_true];by_cases h:i<0
    .simp only[h,if_true]<;>lia
    .simp only[h,if_false]<;>lia
theorem Er(c:gy)(lo d:Option Int):slicePick c.toArray lo d none=((c.drop (HT.WY c.length 0 lo)).take (HT.WY c.length c.length d-HT.WY c.length 0 lo)).toArray:=by
 obtain⟨f,g,e⟩:=EN lo d c.toArray.size;unfold slicePick;rw[f,g,e];simp only[sliceRange_one,pick_run,aM]<;>rfl
def SJ(K:gg):V->Option Int->Option Int->Hp->VK->Prop:=λx lo d H Q=>∃a c,x=.ref a/\ξ K H a c/\∀p,H p=none->Q (.ref p) (upd H p (.lst (wI c lo d)))
theorem IQ:SlR X (SJ X.K):=by
 intro f s t H x v z w lo e y Q I n l j i h;obtain⟨a,c,rfl,p,q⟩:=h;cases n;obtain⟨m,r,g,k⟩:=I.list p;have d:=r.length;refine⟨"list",_,slot_list_getitem.lookup,g.isList.typeIs,?_⟩;refine wpAny_getItem_list_slice g.isList l j i .none (by simp) ?_ (by rw[aM]<;>lia);rw[Er,<-d];refine⟨.ref s.heap.objs.size,_,I.laid (t':=s.toks) (o:=.lst (wI c lo e)) (λb u q=>ar _ q) (ap _) ?_,rfl,q _ (I.ψ.fresh (ap _))⟩;exact⟨aL (Hj c lo e) k,_,0,(r.drop (HT.WY c.length 0 lo)).take (HT.WY c.length c.length e-HT.WY c.length 0 lo),bf _ rfl⟩
theorem kF:lD X (.builtin "len") (λf H Q=>∃p d,f=[.ref p]/\(ξ X.K H p d\/Ξ X.K H p d)/\Q (.int d.length) H):=by
 intro e s i H f j Q I r h;obtain⟨p,d,rfl,hq,q⟩:=h;obtain⟨u,rfl,g⟩:=qY r;cases g;have hn:=tG;rcases hq with hq|hq
 .obtain⟨its,r',pl,hz⟩:=I.list hq;have c:=r'.length;exact Calls.call_len_list pl.isList (by simp only[aM]<;>lia) ⟨.int d.length,H,I.tok _,⟨s.toks+1,by rw[aM,c]⟩,q⟩
 .obtain⟨its,r',pl,hz⟩:=I.tuple hq;have c:=r'.length;exact len_tuple pl (by simp only[aM]<;>lia) ⟨.int d.length,H,I.tok _,⟨s.toks+1,by rw[aM,c]⟩,q⟩
theorem mB:lD X (.type "list") (λA H Q=>∃p g,A=[.ref p]/\(ξ X.K H p g\/Ξ X.K H p g)/\∀l,H l=none->Q (.ref l) (upd H l (.lst g))):=by
 intro k s B H A G Q I r h;obtain⟨p,g,rfl,hq,q⟩:=h;obtain⟨u,rfl,C⟩:=qY r;cases C;have j:∀(c:gy),Vals g c->g.length<=sizeLine->∀(d:Heap)(i:Nat),(∀b z,s.heap.get? b=some z->d.get? b=some z)->d.get? s.heap.objs.size=some { cls:=.type "list",dict:=none,data:=.seq c.toArray i,slots:=#[] }->EP X k B Q (.ref s.heap.objs.size) { s with heap:=d }:=λc f t d i v e=>
  ⟨.ref s.heap.objs.size,_,I.laid (t':=s.toks) v (ap _) (show Γ X.prog X.w _ d _ (.lst g)from⟨t,c,i,f,e⟩),rfl,q _ (I.ψ.fresh (ap _))⟩
 rcases hq with hq|hq
 .obtain⟨c,f,pl,t⟩:=I.list hq;have m:=f.length;obtain⟨o,x,y,n,hd⟩:=pl.isList;exact call_list_seq p (.inl rfl) x y hd (λd i v e=>j c f t d i v e) (by simp only[aM]<;>lia)
 .obtain⟨c,f,pl,t⟩:=I.tuple hq;have m:=f.length;obtain⟨o,x,y,n,hd⟩:=pl;exact call_list_seq p (.inr rfl) x y hd (λd i v e=>j c f t d i v e) (by simp only[aM]<;>lia)
theorem oW:lD X (.type "tuple") (λi H Q=>∃p d,i=[.ref p]/\((ξ X.K H p d/\∀l,H l=none->Q (.ref l) (upd H l (.tup d)))\/(Ξ X.K H p d/\Q (.ref p) H))):=by
 intro c s g H i v Q I r h;obtain⟨p,d,rfl,h⟩:=h;obtain⟨u,rfl,t⟩:=qY r;cases t;rcases h with⟨hq,q⟩|⟨hq,q⟩
 .obtain⟨its,r',pl,hz⟩:=I.list hq;have j:=r'.length;refine call_tuple_list pl.isList (λf n=>?_) (by simp only[aM]<;>lia);have k:Inv X c g H { s with heap:=f }:=I.kept (t':=s.toks) n;have m:Inv X c g (upd H f.objs.size (.tup d)) { s with heap:=f.push { cls:=.type "tuple",data:=.seq its.toArray } }:=k.laid (t':=s.toks) (λb o e=>ar _ e) (ap _) (show Γ X.prog X.w _ _ _ (.tup d)from⟨hz,its,r',IsTup.new _ _⟩)
  exact⟨.ref f.objs.size,_,m,rfl,q _ (k.ψ.fresh (ap _))⟩
 .obtain⟨its,r',pl,hz⟩:=I.tuple hq;exact call_tuple_same pl ⟨.ref p,H,I,rfl,q⟩
def tyV(K:gg)(T:String)(x:V)(H:Hp):Prop:=match x with
 | .str _=>T="str"
 | .int _=>T="int"
 | .ref p=>(T="list"/\∃d,ξ K H p d)\/(T="tuple"/\∃o,K.lookup p=some o/\o.cls=.type "tuple"/\o.dict=none)\/(T="dict"/\((∃c,H p=some (.dK c))\/∃c,H p=some (.dT c)))\/(T="set"/\∃S n,H p=some (.set S n))
 | _=>False
theorem L1{f:gn}{l:St}{H:Hp}{s:Shared}{T:String}{x:V}{v:Value}(I:Inv X f l H s)(r:RelV x v)(g:tyV X.K T x H):s.TypeIs v T/\∀a,v=.ref a->∃k,s.heap.get? a=some k/\k.dict=none:=by
 cases x with
 | str z=>
   obtain⟨t,rfl⟩:=r;cases(show T="str" from g);exact⟨typeIs_str s z t,λ_ e=>nomatch e⟩
 | int i=>
   obtain⟨t,rfl⟩:=r;cases(show T="int" from g);exact⟨typeIs_int s i t,λ_ e=>nomatch e⟩
 | ref p=>
   cases r;rcases g with⟨rfl,xs,hq⟩|⟨rfl,o,hk,hc,j⟩|⟨rfl,hk⟩|⟨rfl,S,n,hk⟩
   .obtain⟨its,_,pl,_⟩:=I.list hq;refine⟨pl.isList.typeIs,λa e=>?_⟩;cases e;obtain⟨o,n,e,c,j,_⟩:=pl;exact⟨o,e,j⟩
   .refine⟨⟨o,I.WC p o hk,hc⟩,λa e=>?_⟩;cases e;exact⟨o,I.WC _ o hk,j⟩
   .have z:∃o,s.heap.get? p=some o/\o.ExactDict:=by
     rcases hk with⟨θ,hk⟩|⟨θ,hk⟩
     .obtain⟨_,_,_,_,o,_,_,e,d,_⟩:=I.ψ p _ hk;exact⟨o,e,d⟩
     .obtain⟨_,_,_,_,o,_,_,e,d,_⟩:=I.ψ p _ hk;exact⟨o,e,d⟩
    obtain⟨o,e,d⟩:=z;refine⟨⟨o,e,d.1⟩,λa h=>?_⟩;cases h;exact⟨o,e,d.2.1⟩
   .obtain⟨o,_,_,_,e,d,_⟩:=I.ψ p _ hk;refine⟨⟨o,e,d.1⟩,λa h=>?_⟩;cases h;exact⟨o,e,d.2.1⟩
 | _=>exact False.elim g
def Qg(K:gg)(T:String)(r:V->List V->Hp->VK->Prop)(A:TE):TE:=λd H Q=>A d H λx c=>tyV K T x c/\r x [] c Q
def tBM(K:gg)(T:String)(r:V->List V->Hp->VK->Prop)(A:TE)(t:TA):TE:=λc H Q=>A c H λx d=>tyV K T x d/\t c d λf e=>r x f e Q
variable{o e:Expr}{C:List Expr}{A:TE}{t:TA}{d:Str}{g m:Pos}{T B:String}{r:V->List V->Hp->VK->Prop}
theorem Ay(G:PlainAttrs T)(i:Slot T d B)(j:typeOf (.builtin B)=pure (.type "method_descriptor"))(z:MtR X B r)(w:PE X o A)(q:attributeBase o d X.env (eval o X.env)=eval o X.env:=by rfl)(f:(g.endLine==m.line)=true:=by rfl):PE X (.Call (.Attribute o d g) [] [] m) (Qg X.K T r A):=by
 intro c s k H Q I h;refine wpAny_Call_method0_late q f (dQ (w c s k H _ I h) λv p x J n l ⟨L,M⟩=>?_);obtain⟨u,y⟩:=L1 n l L;exact⟨T,B,G,i,j,u,y,Calls.callWith_builtin rfl (PySem.evalArgs_none (z c p k J x [] v [] Q n l .nil M))⟩
theorem iU(V:PlainAttrs T)(i:Slot T d B)(k:typeOf (.builtin B)=pure (.type "method_descriptor"))(P:MtR X B r)(N:PE X o A)(L:PA X (e::C) t)(z:attributeBase o d X.env (eval o X.env)=eval o X.env:=by rfl)(l:((backTo m (starEach (e::C) X.env)).all (λx=>!x.1)&&(backToKw m (keywordEach [] X.env)).all (λx=>x.1.isSome)
 && decide ((e::C).length+([]:List Keyword).length+(if([]:List Keyword).isEmpty then 0 else 1)<30))=true:=by rfl)(f:(g.endLine==m.line)=true:=by rfl)(S:starEach (e::C) X.env=(false,eval e X.env)::starEach C X.env:=by rfl)(n:(backTo m (starEach C X.env)).any (·.1)=false:=by rfl):PE X (.Call (.Attribute o d g) (e::C) [] m) (tBM X.K T r A t):=by
 intro c s j H Q I h;refine wpAny_Call_method_late z l f rfl (dQ (N c s j H _ I h) λv y x Y u p ⟨ty,q1⟩=>?_);obtain⟨G,O⟩:=L1 u p ty;refine⟨T,B,V,i,k,G,O,?_⟩;have q:=L m c y j Y _ u q1;rw[S]at q ⊢;refine Calls.callWith_builtin (by show(false||(backTo m (starEach C X.env)).any (·.1))=false;rw[n]<;>rfl) (Calls.evalArgs_plain ?_);exact ϑ q λU R ⟨Z,M,w,J,W⟩=>P c R j M x Z v U Q w p J W
end
def MtM(X:Cx)(id:String)(r:V->List V->Hp->VK->Prop):Prop:=∀(a:gn)(s:Shared)(b:St)(H:Hp)(x:V)(d:List V)(v:Value)(c:gy)(Q:VK),Inv X a b H s->RelV x v->Vals d c->r x d H Q->wpAny (model X.prog X.w) X.A (call (.builtin id) (v::c)) (EP X a b Q) X.xe s
theorem Vals.one{x:V}{a:gy}(h:Vals [x] a):∃u,a=[u]/\RelV x u:=by
 cases h with
 | cons r t=>cases t;exact⟨_,rfl,r⟩
theorem Vals.two{x y:V}{a:gy}(h:Vals [x,y] a):∃u v,a=[u,v]/\RelV x u/\RelV y v:=by
 cases h with
 | cons r t=>
   obtain⟨v,e,q⟩:=Vals.one t;subst e;exact⟨_,v,rfl,r,q⟩
theorem Vals.zero:∀{a:gy},Vals [] a->a=[]
 | _,.nil=>rfl
theorem Vals.dropLast{b:List V}{a:gy}(h:Vals b a):Vals b.dropLast a.dropLast:=by
 induction h with
 | nil=>exact .nil
 | cons r t ih=>
   cases t with
   | nil=>exact .nil
   | cons q t'=>exact .cons r ih
theorem Vals.reverse{b:List V}{a:gy}(h:Vals b a):Vals b.reverse a.reverse:=by
 induction h with
 | nil=>exact .nil
 | cons r t ih=>rw[dZ,dZ];exact Vals.append ih (.cons r .nil)
theorem Vals.rep{b:List V}{a:gy}(h:Vals b a):∀k:Nat,Vals (List.replicate k b).flatten (List.replicate k a).flatten
 | 0=>.nil
 | k+1=>by
   rw[cw,cw,fx,fx];exact Vals.append h (Vals.rep h k)
theorem JS{c:Type}(l:List c):l.eraseIdx (l.length-1)=l.dropLast:=by
 induction l with
 | nil=>rfl
 | cons a r ih=>
   cases r with
   | nil=>rfl
   | cons b r=>
     have e:(a::b::r).length-1=((b::r).length-1)+1:=by
      have d:(a::b::r).length=r.length+2:=rfl;have f:(b::r).length=r.length+1:=rfl
      lia
     rw[e,List.eraseIdx_cons_succ,ih]
     all_goals rfl
theorem DR(a:gy):∀(k:Nat)(b:gy),List.foldl (λc d=>c++d) b.toArray (List.replicate k a.toArray)=(b++(List.replicate k a).flatten).toArray
 | 0,b=>by simp
 | k+1,b=>by
   have e:b.toArray++a.toArray=(b++a).toArray:=by simp
   have f:(b++a)++(List.replicate k a).flatten=b++(List.replicate (k+1) a).flatten:=by
    rw[cw,fx,bX]
   rw[<-f,<-DR a k (b++a),<-e,cw,List.foldl_cons]
section
variable{X:Cx}{a:gn}{c:St}{H:Hp}{s:Shared}{l b:Addr}{g d i:List V}
theorem Inv.Z6{h its':gy}{n:Nat}{f:Array Value->Array Value}{p:Nat}(I:Inv X a c H s)(j:H l=some (.lst g))(e:s.heap.get? l=some { cls:=.type "list",data:=.seq h.toArray n })(t:f h.toArray=its'.toArray)(k:Vals d its')(o:d.length<=sizeLine):Inv X a c (upd H l (.lst d)) { s with heap:=s.heap.update l (Obj.mapSeq f),toks:=p }:=by
 have q:=PySem.IsL.update e f;rw[t]at q;refine I.write (x:=l) (e:=l) (by rw[j];exact trivial) (.inl rfl) (λv u r m=>(dz s.heap (Obj.mapSeq f) (Ne.symm r)).trans m) ⟨_,q⟩ ?_;exact⟨o,its',_,k,q⟩
theorem Inv.adp{e:gy}{t':Nat}(I:Inv X a c H s)(f:Vals d e)(h:d.length<=sizeLine):Inv X a c (upd H s.heap.objs.size (.lst d)) { s with heap:=s.heap.push { cls:=.type "list",data:=.seq e.toArray },toks:=t' }:=I.laid (λ_ _ q=>ar _ q) (ap _) ⟨h,e,0,f,bf _ rfl⟩
theorem Inv.fresh(I:Inv X a c H s):H s.heap.objs.size=none:=I.ψ.fresh (ap _)
theorem Inv.XB(I:Inv X a c H s)(h:H l=some (.lst g)):g.length<=sizeLine/\∃(f:gy)(n:Nat),Vals g f/\g.length=f.length/\s.heap.get? l=some { cls:=.type "list",data:=.seq f.toArray n }:=by
 obtain⟨z,f,n,r,e⟩:=I.ψ l _ h;exact⟨z,f,n,r,r.length,e⟩
theorem Fm{n:Nat}(h:n<=sizeLine):Builtin.List.listTooLong n=false:=by
 unfold Builtin.List.listTooLong;exact bA (by lia)
end
section
variable{X:Cx}
def Xf:V->List V->Hp->VK->Prop:=λx b H Q=>∃l a y,x=.ref l/\b=[y]/\H l=some (.lst a)/\a.length<sizeLine/\Q .ω (upd H l (.lst (a++[y])))
theorem fN:MtM X "list.append" Xf:=by
 intro b s i H x p v o Q I f d h;obtain⟨l,k,y,rfl,rfl,c,m,q⟩:=h;cases f;obtain⟨u,rfl,g⟩:=d.one;obtain⟨z,a,n,r,j,e⟩:=I.XB c;refine call_meets F.slot_list_append ⟨_,e,rfl⟩ F.entry_list_append (F.args_list_append_2 _ _) (PySem.list_append l a.toArray n u (by rw[aM];lia)) ⟨e,?_⟩;refine⟨.ω,_,I.Z6 (its':=a++[u]) c e (by simp) (r.append (.cons g .nil)) ?_,rfl,q⟩;rw[aE,List.length_singleton]
 lia
def Z7:V->List V->Hp->VK->Prop:=λx d H Q=>∃l b a c,x=.ref l/\d=[.ref b]/\H l=some (.lst a)/\H b=some (.lst c)/\a.length+c.length<=sizeLine/\Q .ω (upd H l (.lst (a++c)))
theorem xo:MtM X "list.extend" Z7:=by
 intro f s A H x K v J Q I w i h;obtain⟨l,b,C,E,rfl,rfl,g,t,G,q⟩:=h;cases w;obtain⟨u,rfl,y⟩:=i.one;cases y;obtain⟨z,a,n,r,B,e⟩:=I.XB g;obtain⟨D,c,o,k,m,p⟩:=I.XB t;have d:a.toArray.size+c.toArray.size<=sizeLine:=by rw[aM,aM];lia
 have j:¬(!a.toArray.isEmpty&&Builtin.List.listTooLong (a.toArray.size+c.toArray.size))=true:=by
  rw[Fm d,Bool.and_false];exact bz
 refine call_meets F.slot_list_extend ⟨_,e,rfl⟩ F.entry_list_extend (F.args_list_extend_2 _ _)
  (AutoSeq1.list_extend_list_list_0 l a.toArray n b c.toArray o j (by rw[aM];lia) (by lia)) ⟨e,p,?_⟩
 refine⟨.ω,_,I.Z6 (its':=a++c) g e (by simp) (r.append k) ?_,rfl,q⟩;rw[aE]
 lia
def adq:V->List V->Hp->VK->Prop:=λx b H Q=>∃l a y,x=.ref l/\b=[]/\H l=some (.lst a)/\a[a.length-1]?=some y/\Q y (upd H l (.lst a.dropLast))
theorem BL:MtM X "list.pop" adq:=by
 intro d s p H x A v w Q I m g h;obtain⟨l,t,y,rfl,rfl,f,k,q⟩:=h;cases m;have c:=g.zero;subst c;obtain⟨z,a,n,r,i,e⟩:=I.XB f;obtain⟨u,j,o⟩:=r.get k;have b:a.toArray[a.toArray.size-1]?=some u:=by
  show a.toArray[a.length-1]?=some u;rw[<-Array.getElem?_toList,<-i];exact j
 refine call_meets F.slot_list_pop ⟨_,e,rfl⟩ F.entry_list_pop (F.args_list_pop_1 _) (MeetsSeq.list_pop_last l a.toArray n u b (by rw[aM];lia)) ⟨e,?_⟩;refine⟨y,_,I.Z6 (its':=a.dropLast) f e ?_ r.dropLast ?_,o,q⟩
 .show a.toArray.eraseIdxIfInBounds (a.toArray.size-1)=a.dropLast.toArray;rw[aM,List.eraseIdxIfInBounds_toArray,JS]
 .rw[List.length_dropLast]
  lia
def ads:R2:=λx y H Q=>∃l b a c,x=.ref l/\y=.ref b/\H l=some (.lst a)/\H b=some (.lst c)/\a.length+c.length<=sizeLine/\∀p,H p=none->Q (.ref p) (upd H p (.lst (a++c)))
theorem GJ:iS X (binaryOp .Add) ads:=by
 intro c s t H x y v u Q I p j h;obtain⟨l,b,A,D,rfl,rfl,m,o,E,q⟩:=h;cases p;cases j;obtain⟨z,a,n,r,w,e⟩:=I.XB m;obtain⟨B,d,C,g,i,k⟩:=I.XB o;refine PySem.P.add_list e k ?_ (by rw[aM,aM];lia);have f:a.toArray++d.toArray=(a++d).toArray:=by simp
 rw[f];exact⟨.ref _,_,I.adp (t':=s.toks) (r.append g) (by rw[aE];lia),rfl,q _ I.fresh⟩
def ail:R2:=λx y H Q=>∃l k a,x=.ref l/\y=.int k/\H l=some (.lst a)/\-(2^63)<=k/\k<2^63/\a.length*k.toNat<=sizeLine/\∀p,H p=none->Q (.ref p) (upd H p (.lst (List.replicate k.toNat a).flatten))
theorem RS{b:Type}(a:List b)(k:Nat):(List.replicate k a).flatten.length=k*a.length:=by
 induction k with
 | zero=>simp
 | succ k ih=>rw[cw,fx,aE,ih,Nat.succ_mul,Nat.add_comm]
theorem sM:iS X (binaryOp .Mult) ail:=by
 intro o s L H x y v u Q I K E h;obtain⟨l,k,M,rfl,rfl,J,A,D,p,q⟩:=h;cases K;obtain⟨t,rfl⟩:=E;obtain⟨z,b,n,r,w,e⟩:=I.XB J;have c:b.toArray.size*k.toNat<=sizeLine:=by rw[aM,<-w];exact p
 have i:¬b.toArray.size*k.toNat>(2^63-1)/8:=by
  have:(sizeLine:Nat)<=(2^63-1)/8:=by decide
  lia
 have j:¬(!Builtin.List.listFitsIndex k)=true:=by
  rw[fitsIndex_both A D];exact bz
 have B:¬Builtin.List.listTooLong (b.toArray.size*k.toNat)=true:=by
  rw[Fm c];exact bz
 have f:List.foldl (λd g=>d++g) #[] (List.replicate (if b.toArray.isEmpty=true then 0 else k.toNat) b.toArray)=(List.replicate k.toNat b).flatten.toArray:=by
  have C:∀m:Nat,List.foldl (λd g=>d++g) #[] (List.replicate m b.toArray)=(List.replicate m b).flatten.toArray:=λm=>by
   have:=DR b m [];rw[f8]at this;exact this
  rw[C];cases b with
  | nil=>simp
  | cons a r'=>rw[ag (by simp)]
 refine wpAny_binaryOp_repeat_ref (T:="list") (U:="int") (by decide) ⟨_,e,rfl⟩ (λG=>typeIs_int G k t) noFill_list_mul F.fills_int_mul F.slot_int_rmul repeat_list F.slot_int_index.lookup
  (call_meets F.slot_int_rmul (typeIs_int s k t) F.entry_int_rmul (F.args_int_rmul_2 _ _) (int___rmul___int_list k t l b.toArray n)
   ⟨e,rfl,⟨_,e,rfl⟩,call_meets F.slot_list_mul ⟨_,e,rfl⟩ F.entry_list_mul (F.args_list_mul_2 _ _) (AutoListH.list___mul___list_int_3 l b.toArray n k t j i B) ⟨e,?_⟩⟩)
 rw[f];exact⟨.ref _,_,I.adp (t':=s.toks) (r.rep k.toNat) (by rw[RS,g6];exact p),rfl,q _ I.fresh⟩
end
section
variable{a:Program}{w:World}{A:Around}{E:gf}{s:Shared}
set_option maxRecDepth 100000 in
end
section
variable{c:Type}[DecidableEq c]
def gh(b:List (c×V))(k:c):Option V:=(b.find? λa=>decide (a.1=k)).map (·.2)
def iG(b:List (c×V))(k:c)(v:V):List (c×V):=if(b.any λa=>decide (a.1=k))=true then b.map (λa=>if a.1=k then(a.1,v)else a)else b++[(k,v)]
theorem jh{p:c×V}{r:List (c×V)}{k:c}(e:p.1=k):gh (p::r) k=some p.2:=by simp[gh,gA,e]
theorem jd{p:c×V}{r:List (c×V)}{k:c}(e:¬p.1=k):gh (p::r) k=gh r k:=by simp[gh,gA,e]
theorem sE(k:c):∀a:List (c×V),(a.any λb=>decide (b.1=k))=(gh a k).isSome
 | []=>rfl
 | p::r=>by
   rw[nj];by_cases e:p.1=k
   .simp only[jh e,bh e,Bool.true_or,Option.isSome_some]
   .rw[jd e,bA e,nh];exact sE k r
theorem Ga(k j:c)(y:V):∀d:List (c×V),gh (d.map λa=>if a.1=k then(a.1,y)else a) j=(gh d j).map λx=>if j=k then y else x
 | []=>rfl
 | p::r=>by
   have b:=Ga k j y r;rw[aq];by_cases h:p.1=k
   .rw[aj h];by_cases e:p.1=j
    .rw[jh (p:=(p.1,y)) e,jh e,jq,aj (e.symm.trans h)]
    .rw[jd (p:=(p.1,y)) e,jd e,b]
   .rw[ag h];by_cases e:p.1=j
    .rw[jh (p:=p) e,jh e,jq,ag (λz=>h (e.trans z))]
    .rw[jd (p:=p) e,jd e,b]
theorem DV(k j:c)(y:V):∀a:List (c×V),gh a k=none->gh (a++[(k,y)]) j=if j=k then some y else gh a j
 | [],_=>by
   by_cases e:k=j
   .rw[aj e.symm];exact jh (p:=(k,y)) e
   .rw[ag (λz=>e z.symm)];exact jd (p:=(k,y)) e
 | p::r,hn=>by
   rw[fH];have b:¬p.1=k:=λz=>by rw[jh z]at hn;cases hn
   rw[jd b]at hn;have d:=DV k j y r hn;by_cases e:p.1=j
   .rw[jh e,jh e,ag (λz=>b (e.trans z))]
   .rw[jd e,jd e,d]
theorem zA(b:List (c×V))(k j:c)(y:V):gh (iG b k y) j=if j=k then some y else gh b j:=by
 unfold iG;by_cases a:(b.any λd=>decide (d.1=k))=true
 .rw[aj a,Ga];rw[sE]at a;by_cases e:j=k
  .obtain⟨x,hx⟩:=ft.mp a;rw[aj e,e,hx,jq,aj rfl]
  .rw[ag e];cases gh b j with
   | none=>rfl
   | some x=>rw[jq,ag e]
 .rw[ag a];refine DV k j y b ?_;rw[sE]at a;cases q:gh b k with
  | none=>rfl
  | some x=>rw[q]at a;exact(a rfl).elim
theorem oP(a:List (c×V))(k:c)(v:V):(iG a k v).length<=a.length+1:=by
 unfold iG;split
 .rw[aa];lia
 .rw[aE,aF,dW];lia
theorem Fa{a:List (c×V)}{k:c}(v:V)(h:gh a k=none):iG a k v=a++[(k,v)]:=by
 unfold iG;rw[sE,h];exact ag (by decide)
theorem oK.Ϡ{o:Option V}{u:Option Value}(r:oK o u):o.isSome=u.isSome:=by
 cases o with
 | none=>cases u with
   | none=>rfl
   | some _=>exact(show False from r).elim
 | some _=>cases u with
   | none=>exact(show False from r).elim
   | some _=>rfl
theorem KV.val{f:List (c×V)}{a:List (c×Value)}(r:KV f a)(k:c):oK (gh f k) (valueAt a k):=by
 unfold KV at r
 induction r with
 | nil=>exact True.intro
 | @cons p q ps qs h t ih=>
   obtain⟨d,g⟩:=h;by_cases e:p.1=k
   .have e':q.1=k:=d.symm.trans e;have b:valueAt (q::qs) k=some q.2:=(by simp[valueAt,gA,e']);rw[jh e,b];exact g
   .have e':¬q.1=k:=λz=>e (d.trans z);have b:valueAt (q::qs) k=valueAt qs k:=(by simp[valueAt,gA,e']);rw[jd e,b];exact ih
theorem KV.any{d:List (c×V)}{b:List (c×Value)}(r:KV d b)(k:c):(d.any λa=>decide (a.1=k))=b.any λa=>decide (a.1=k):=by
 unfold KV at r
 induction r with
 | nil=>rfl
 | cons h t ih=>rw[nj,nj,ih,h.1]
theorem KV.repl{f:List (c×V)}{d:List (c×Value)}(r:KV f d)(k:c){y:V}{u:Value}(g:RelV y u):KV (f.map λa=>if a.1=k then(a.1,y)else a) (d.map λa=>if a.1=k then(a.1,u)else a):=by
 unfold KV at r ⊢
 induction r with
 | nil=>exact .nil
 | @cons p q ps qs h t ih=>
   rw[aq,aq];refine .cons ?_ ih;obtain⟨b,i⟩:=h;by_cases e:p.1=k
   .rw[aj e,aj (b.symm.trans e)];exact⟨b,g⟩
   .rw[ag e,ag (λz=>e (b.trans z))];exact⟨b,i⟩
theorem KV.put{d:List (c×V)}{a:List (c×Value)}(r:KV d a)(k:c){y:V}{u:Value}(b:RelV y u):KV (iG d k y) (stored a k u):=by
 unfold iG stored;rw[r.any k];by_cases e:(a.any λf=>decide (f.1=k))=true
 .rw[aj e,aj e];exact r.repl k b
 .rw[ag e,ag e];exact Paired.snoc r ⟨rfl,b⟩
theorem KV.length{b:List (c×V)}{a:List (c×Value)}(r:KV b a):b.length=a.length:=Paired.length r
end
theorem xO{P:Program}{w:World}{k:Key}{u:Value}(r:RelV (kV k) u):(ik P w).is k u=true:=by
 cases k with
 | inl i=>obtain⟨t,e⟩:=(show ∃t,u=Value.int i t from r);subst e;exact Ht P w i t
 | inr x=>obtain⟨t,e⟩:=(show ∃t,u=Value.str x t from r);subst e;exact Hb P w x t
theorem DC{P:Program}{w:World}:∀{a:List Key}{b:gy},Vals (a.map kV) b->ItemsAre (ik P w) a b
 | [],_,r=>by rw[d6]at r;cases r;exact .nil
 | k::a,_,r=>by
   rw[aq]at r;cases r with
   | cons h t=>exact .cons (xO h) (DC t)
abbrev KT(H:Hp):List (List Key×V)->List (List Key×Addr×Value)->Prop:=Paired λp q=>p.1=q.1/\H q.2.1=some (.tup (p.1.map kV))/\RelV p.2 q.2.2
theorem KT.val{H:Hp}{d:List (List Key×V)}{c:List (List Key×Addr×Value)}(r:KT H d c)(k:List Key):oK (gh d k) ((atKey c k).map (·.2)):=by
 induction r with
 | nil=>exact True.intro
 | @cons p q ps qs h t ih=>
   obtain⟨a,_,f⟩:=h;by_cases e:p.1=k
   .have e':q.1=k:=a.symm.trans e;have b:atKey (q::qs) k=some q.2:=(by simp[atKey,gA,e']);rw[jh e,b];exact f
   .have e':¬q.1=k:=λz=>e (a.trans z);have b:atKey (q::qs) k=atKey qs k:=(by simp[atKey,gA,e']);rw[jd e,b];exact ih
theorem KT.repl{H:Hp}{f:List (List Key×V)}{c:List (List Key×Addr×Value)}(r:KT H f c)(k:List Key){y:V}{u:Value}(g:RelV y u):KT H (f.map λb=>if b.1=k then(b.1,y)else b) (c.map (putAt k u)):=by
 induction r with
 | nil=>exact .nil
 | @cons p q ps qs h t ih=>
   rw[aq,aq];refine .cons ?_ ih;obtain⟨a,d,i⟩:=h;unfold putAt;by_cases e:p.1=k
   .rw[aj e,aj (a.symm.trans e)];exact⟨a,d,g⟩
   .rw[ag e,ag (λz=>e (a.trans z))];exact⟨a,d,i⟩
theorem KT.put{H:Hp}{c:List (List Key×V)}{a:List (List Key×Addr×Value)}(r:KT H c a)(k:List Key){b:Addr}{y:V}{u:Value}(f:H b=some (.tup (k.map kV)))(d:RelV y u):KT H (iG c k y) (storedH a k b u):=by
 have e:(c.any λg=>decide (g.1=k))=(atKey a k).isSome:=by
  rw[sE,(r.val k).Ϡ,gI]
 unfold iG storedH;rw[e];by_cases q:(atKey a k).isSome=true
 .rw[aj q,aj q];exact r.repl k d
 .rw[ag q,ag q];exact Paired.snoc r ⟨rfl,f,d⟩
theorem KT.keeps{H a:Hp}{e:List (List Key×V)}{d:List (List Key×Addr×Value)}(r:KT H e d)(f:∀b c,H b=some (.tup c)->a b=some (.tup c)):KT a e d:=Paired.Z0 r λ_ _ z=>⟨z.1,f _ _ z.2.1,z.2.2⟩
section
variable{P:Program}{w:World}{H:Hp}{h:Heap}{a:Addr}
theorem Q5{u:HO}(ok:Ϭ P w H h)(e:Rd H a u):Γ P w H h a u:=e.ok ok
theorem xM{b:List (Key×V)}(d:Ϭ P w H h)(e:Rd H a (.dK b)):b.length<=sizeLine/\(a==sysModules)=false/\∃c,KV b c/\h.DictOf (ik P w) a c:=show Γ P w H h a (.dK b)from Q5 d e
theorem EJ{b:List (Key×V)}(d:Ϭ P w H h)(e:H a=some (.dK b)):b.length<=sizeLine/\(a==sysModules)=false/\∃c,KV b c/\h.DictOf (ik P w) a c:=xM d (.inl e)
theorem wG{c:List Key}(d:Ϭ P w H h)(e:H a=some (.tup (c.map kV))):(tupleKind (ik P w)).is h c a:=by
 obtain⟨_,b,r,o,g,i,n,f⟩:=(show Γ P w H h a (.tup (c.map kV))from d a _ e);exact⟨o,b.toArray,n,g,i,f,by simpa using DC r⟩
theorem BU{c:List (List Key×V)}(f:Ϭ P w H h)(e:Rd H a (.dT c)):c.length<=sizeLine/\(a==sysModules)=false/\∃b,KT H c b/\h.DictOfH (tupleKind (ik P w)) a b:=by
 obtain⟨z,y,b,r,o,j,n,i,k,g,s,u⟩:=(show Γ P w H h a (.dT c)from Q5 f e);refine⟨z,y,b,r,o,j,n,i,k,g,s,λx hx=>?_,u⟩;have d:∀{l:List (List Key×V)}{m:List (List Key×Addr×Value)},KT H l m->∀x∈m,(tupleKind (ik P w)).is h x.1 x.2.1:=by
  intro l m q
  induction q with
  | nil=>intro x hx;exact nomatch hx
  | @cons p q ps qs hq t ih=>
    intro x hx;rcases ax.mp hx with e|hx
    .subst e;exact wG f (by rw[<-hq.1];exact hq.2.1)
    .exact ih x hx
 exact d r x hx
theorem VF{b:List (List Key×V)}(d:Ϭ P w H h)(e:H a=some (.dT b)):b.length<=sizeLine/\(a==sysModules)=false/\∃c,KT H b c/\h.DictOfH (tupleKind (ik P w)) a c:=BU d (.inl e)
end
def ϵ(H:Hp)(a:Addr)(y:V)(r:Option V):Prop:=(∃c k,Rd H a (.dK c)/\y=kV k/\r=gh c k)\/∃c k b,Rd H a (.dT c)/\y=.ref b/\H b=some (.tup (k.map kV))/\r=gh c k
def WM(H:Hp)(a:Addr)(y v:V)(d:Hp):Prop:=(∃c k,H a=some (.dK c)/\y=kV k/\c.length<sizeLine/\d=upd H a (.dK (iG c k v)))\/∃c k b,H a=some (.dT c)/\y=.ref b/\H b=some (.tup (k.map kV))/\c.length<sizeLine/\d=upd H a (.dT (iG c k v))
theorem ϵ.k{H:Hp}{a:Addr}{b:List (Key×V)}{k:Key}(e:H a=some (.dK b)):ϵ H a (kV k) (gh b k):=.inl ⟨b,k,.inl e,rfl,rfl⟩
theorem ϵ.t{H:Hp}{a b:Addr}{c:List (List Key×V)}{k:List Key}(e:H a=some (.dT c))(d:H b=some (.tup (k.map kV))):ϵ H a (.ref b) (gh c k):=.inr ⟨c,k,b,.inl e,rfl,d,rfl⟩
theorem WM.k{H:Hp}{a:Addr}{b:List (Key×V)}{k:Key}{v:V}(e:H a=some (.dK b))(c:b.length<sizeLine):WM H a (kV k) v (upd H a (.dK (iG b k v))):=.inl ⟨b,k,e,rfl,c,rfl⟩
theorem WM.t{H:Hp}{a b:Addr}{c:List (List Key×V)}{k:List Key}{v:V}(e:H a=some (.dT c))(d:H b=some (.tup (k.map kV)))(f:c.length<sizeLine):WM H a (.ref b) v (upd H a (.dT (iG c k v))):=.inr ⟨c,k,b,e,rfl,d,f,rfl⟩
section
variable{X:Cx}{d:gn}{f:St}{H:Hp}{s:Shared}{a:Addr}{y v:V}{u r:Value}{o:Option V}{A:Around}{E:gf}
theorem Inv.big(I:Inv X d f H s):sysModules<s.heap.objs.size:=by
 have h:mainGlobals<s.heap.objs.size:=(I.mod.glob.keeps I.bk).lt;exact Nat.lt_trans (by decide) h
theorem Mu{Q:gf}(C:A.units+1<cLine)(I:Inv X d f H s)(g:ϵ H a y (some v))(t:RelV y u)(h:∀i x,Inv X d f H x->RelV v i->Q i x):wpAny (model X.prog X.w) A (getItem (.ref a) u) Q E s:=by
 rcases g with⟨θ,k,e,ey,l⟩|⟨θ,k,b,e,ey,eb,l⟩
 .subst ey;obtain⟨z,G,F,c,n⟩:=xM I.ψ e;obtain⟨i,j,m⟩:=oK.some_of (v:=v) (o:=valueAt F k) (by rw[l];exact c.val k);exact wpAny_getItem_of (xO t) n.mapOf j (h i _ (I.tok _) m)
 .subst ey;cases(show u=Value.ref b from t);obtain⟨z,G,B,c,n⟩:=BU I.ψ e;obtain⟨i,j,m⟩:=oK.some_of (v:=v) (o:=(atKey B k).map (·.2)) (by rw[l];exact c.val k);obtain⟨p,D,q⟩:=eI.mp j;refine wpAny_getItem_heap (tupleKind_room_in1 C) (wG I.ψ eb) n D ?_;rw[q];exact h i _ (I.tok _) m
theorem VM{Q:gf}(p:A.units+1<cLine)(I:Inv X d f H s)(g:ϵ H a y o)(m:RelV y u)(h:∀n,Inv X d f H n->Q (.bool o.isSome) n):wpAny (model X.prog X.w) A (compareOp .In u (.ref a)) Q E s:=by
 rcases g with⟨θ,k,e,ey,l⟩|⟨θ,k,b,e,ey,eb,l⟩
 .subst ey;obtain⟨z,j,t,c,i⟩:=xM I.ψ e;refine wpAny_in_of (xO m) j i.mapOf ?_;rw[<-(c.val k).Ϡ,<-l];exact h _ (I.tok _)
 .subst ey;cases(show u=Value.ref b from m);obtain⟨z,j,x,c,i⟩:=BU I.ψ e;refine wpAny_in_heap (tupleKind_room_in1 p) (wG I.ψ eb) j i ?_;have q:=(c.val k).Ϡ;rw[gI]at q;rw[<-q,<-l];exact h _ (I.tok _)
theorem RE{Q:gf}(p:A.units+1<cLine)(I:Inv X d f H s)(g:ϵ H a y o)(m:RelV y u)(h:∀n,Inv X d f H n->Q (.bool (!o.isSome)) n):wpAny (model X.prog X.w) A (compareOp .NotIn u (.ref a)) Q E s:=by
 rcases g with⟨θ,k,e,ey,l⟩|⟨θ,k,b,e,ey,eb,l⟩
 .subst ey;obtain⟨z,j,t,c,i⟩:=xM I.ψ e;refine wpAny_notIn_of (xO m) j i.mapOf ?_;rw[<-(c.val k).Ϡ,<-l];exact h _ (I.tok _)
 .subst ey;cases(show u=Value.ref b from m);obtain⟨z,j,x,c,i⟩:=BU I.ψ e;refine wpAny_notIn_heap (tupleKind_room_in1 p) (wG I.ψ eb) j i ?_;have q:=(c.val k).Ϡ;rw[gI]at q;rw[<-q,<-l];exact h _ (I.tok _)
theorem xY{c:Heap}{k:Nat}{g:HO}(I:Inv X d f H s)(j:Mut (H a))(m:Heap.SameBut a s.heap c)(i:∃q,c.get? a=some q)(h:Γ X.prog X.w (upd H a g) c a g):Inv X d f (upd H a g) { s with heap:=c,toks:=k }:=I.write (x:=a) (e:=a) j (.inl rfl) (λb q l z=>(m.2 b l).trans z) i h
theorem Gp{P:Program}{w:World}{h:Hp}{g:Heap}{e:List (Key×V)}{c:List (Key×Value)}(z:e.length<=sizeLine)(j:(a==sysModules)=false)(b:KV e c)(i:g.DictOf (ik P w) a c):Γ P w h g a (.dK e):=⟨z,j,c,b,i⟩
theorem MQ{J:Hp}{Q:Unit->Shared->Prop}(P:A.units+1<cLine)(I:Inv X d f H s)(g:WM H a y v J)(G:RelV y u)(D:RelV v r)(h:∀K,Inv X d f J K->Q () K):wpAny (model X.prog X.w) A (setItem (.ref a) u r) Q E s:=by
 rcases g with⟨θ,k,e,ey,l,eH⟩|⟨θ,k,b,e,ey,eb,l,eH⟩
 .subst ey eH;obtain⟨z,B,V,i,t⟩:=EJ I.ψ e;have p:V.length<=sizeLine:=by rw[<-i.length];exact z
  have n:(iG θ k v).length<=sizeLine:=by have:=oP θ k v;lia
  refine wpAny_setItem_pairs (hsz:=p) (xO G) t λF j x=>h _ ?_;have L:∃q,F.get? a=some q:=let ⟨q,_,_,m,_⟩:=j;⟨q,m⟩;exact xY I (by rw[e];exact True.intro) x L (Gp n B (i.put k D) j)
 .subst ey eH;cases(show u=Value.ref b from G);obtain⟨z,B,N,i,t⟩:=VF I.ψ e;have p:N.length<=sizeLine:=by rw[<-Paired.length i];exact z
  have n:(iG θ k v).length<=sizeLine:=by have:=oP θ k v;lia
  refine wpAny_setItem_heap (hsz:=p) (tupleKind_room_in1 P) (wG I.ψ eb) t λF j x=>h _ ?_;obtain⟨q,O,S,m,R,M,T,_,U⟩:=j;refine xY I (by rw[e];exact True.intro) x ⟨q,m⟩ ⟨n,B,_,(i.put k eb D).keeps λc W C=>?_,q,O,S,m,R,M,T,U⟩;rw[aR (gV C e (λz=>nomatch z))];exact C
end
section
variable{X:Cx}{b:gn}{c:St}{H:Hp}{s:Shared}{a:Addr}{d:List (Key×V)}{k:Key}{u:Value}{A:Around}{E:gf}
theorem VC{Q:gf}(I:Inv X b c H s)(e:Rd H a (.dK d))(h:∀t g,Inv X b c H g->Q (.int d.length t) g):wpAny (model X.prog X.w) A (call (.builtin "len") [.ref a]) Q E s:=by
 obtain⟨z,j,l,f,i⟩:=xM I.ψ e;refine call_len_dict j i (by rw[<-f.length];rw[sizeLine_eq]at z;lia) ?_;rw[<-f.length];exact h _ _ (I.tok _)
end
def U5(i:Expr):Prop:=∀b a,subscripted i false b a=operate [b,a] (getItem b a)
theorem Rx{a:Program}{w:World}{A:Around}{E:gf}{s:Shared}{k:Env}{c b:Expr}{n:Pos}{T id:String}{Q:gf}(q:typeLookup (.type T) "__getitem__"=pure (some (.builtin id)))(t:U5 b)(h:wpAny (model a w) A (eval c k) (λo f=>wpAny (model a w) A (eval b k) (λi d=>d.TypeIs o T/\wpAny (model a w) A (getItem o i) Q E d) E f) E s):wpAny (model a w) A (eval (.Subscript c b n) k) Q E s:=by
 refine Subscript_ (di h (λo f l=>di l (λi d e=>?_) λ_ _ x=>x) λ_ _ x=>x);obtain⟨p,e⟩:=e;unfold subscriptTail;refine ak ?_;rw[getitemInPython_of_ne p.not_modules];refine ak (lK p q ?_);have j:wpAny (model a w) A (subscripted b false o i) (λr g=>wpAny (model a w) A (letTemporaryGo c o r>>=λ_=>pure r) Q E g) E d:=by
  rw[t o i];exact wpAny_operating (di e (λr g m=>ak (wpAny_letTemporaryGo (ba m))) λ_ _ x=>x)
 first
  | exact ba (ak j)
  | exact ak (ba (ak j))
  | exact ak j
theorem HM{X:Cx}{c:gn}{d:St}{H:Hp}{s:Shared}{a:Addr}{y:V}{o:Option V}(I:Inv X c d H s)(g:ϵ H a y o):s.TypeIs (.ref a) "dict":=by
 rcases g with⟨θ,k,e,_,_⟩|⟨θ,k,b,e,_,_,_⟩
 .obtain⟨_,_,vs,_,dd⟩:=xM I.ψ e;exact dd.typeIs
 .obtain⟨_,_,xs,_,dd⟩:=BU I.ψ e;exact dd.typeIs
def JW(e f:TE):TE:=λb H Q=>e b H λx d=>f b d λy c=>∃a v,x=.ref a/\ϵ c a y (some v)/\Q v c
def Nh(f e:TE):TE:=λb H Q=>f b H λy d=>e b d λx c=>∃a o,x=.ref a/\ϵ c a y o/\Q (.bl o.isSome) c
def Dd(f e:TE):TE:=λb H Q=>f b H λy d=>e b d λx c=>∃a o,x=.ref a/\ϵ c a y o/\Q (.bl (!o.isSome)) c
def Kr(g i d:TE):TS:=λD b H=>d b H λv e=>g b e λx f=>i b f λy h=>∃a c,x=.ref a/\WM h a y v c/\D.nx b c
section
variable{X:Cx}{o i e b:Expr}{j f l:Pos}{c d k:TE}
theorem IJ(r:X.A.units+1<cLine)(w:PE X o c)(K:PE X i d)(E:U5 i):PE X (.Subscript o i j) (JW c d):=by
 intro m s n H Q I h;refine Rx PySem.F.slot_dict_getitem.lookup E (dQ (w m s n H _ I h) λu q x J M L N=>dQ (K m q n J _ M N) λP R y t p C ⟨a,v,B,g,G⟩=>?_);subst B;obtain rfl:u=Value.ref a:=L;exact⟨HM p g,Mu r p g C λS O D z=>⟨v,t,D,z,G⟩⟩
theorem US(r:X.A.units+1<cLine)(F:PE X i d)(v:PE X o c):PC X .In i o (Nh d c):=by
 intro m s n H Q I h;refine dQ (F m s n H _ I h) λM q y E J z K=>dQ (v m q n E _ J K) λu N x t p G ⟨a,C,w,g,D⟩=>?_;subst w;obtain rfl:u=Value.ref a:=G;exact VM r p g z λL B=>⟨.bl C.isSome,t,B,rfl,D⟩
theorem LD(r:X.A.units+1<cLine)(F:PE X i d)(v:PE X o c):PC X .NotIn i o (Dd d c):=by
 intro m s n H Q I h;refine dQ (F m s n H _ I h) λM q y E J z K=>dQ (v m q n E _ J K) λu N x t p G ⟨a,C,w,g,D⟩=>?_;subst w;obtain rfl:u=Value.ref a:=G;exact RE r p g z λL B=>⟨.bl (!C.isSome),t,B,rfl,D⟩
theorem xT(z:X.A.units+1<cLine)(C:PE X o c)(Q:PE X i d)(N:PE X b k)(M:swapsWith b (some (.Subscript o i f)) j.line X.env=pure false):PS X (.Assign [.Subscript o i f] b j) (Kr c d k):=by
 intro m s n H D I h;refine wpAny_Assign_Subscript (dQ (N m s n H _ I h) λr q v P S t T=>dQ (C m q n P _ S T) λu E x B p R O=>dQ (Q m E n B _ p O) λW U y Y L K ⟨a,F,J,g,G⟩=>?_) M;subst J;obtain rfl:u=Value.ref a:=R;exact MQ z L g K t λV w=>⟨n,F,w,G⟩
end
theorem F1{P:Program}{w:World}{H:Hp}(h:Heap)(a:sysModules<h.objs.size):Γ P w H (h.push { cls:=.type "dict",data:=.dict #[] }) h.objs.size (.dK []):=⟨bj _,beq_eq_false_iff_ne.mpr (Ne.symm (aV a)),[],.nil,Heap.DictOf.new h⟩
theorem Ph{P:Program}{w:World}{H:Hp}(h:Heap)(a:sysModules<h.objs.size):Γ P w H (h.push { cls:=.type "dict",data:=.dict #[] }) h.objs.size (.dT []):=⟨bj _,beq_eq_false_iff_ne.mpr (Ne.symm (aV a)),[],.nil,_,#[],0,bf _ rfl,⟨rfl,rfl,rfl⟩,rfl,rfl,mh⟩
def Ye:TE:=λ_ H Q=>∀p,H p=none->Q (.ref p) (upd H p (.dK []))
def Yg:TE:=λ_ H Q=>∀p,H p=none->Q (.ref p) (upd H p (.dT []))
section
variable{X:Cx}{b:Pos}
theorem Pa:PE X (.Dict [] [] b) Ye:=λc s d H Q I h=>
 wpAny_Dict_empty ⟨.ref s.heap.objs.size,_,I.laid (a:=s.heap.objs.size) (o:=.dK []) (t':=s.toks) (λ_ _ q=>ar _ q) (ap _) (F1 s.heap I.big),rfl,h _ (I.ψ.fresh (ap _))⟩
theorem OC:PE X (.Dict [] [] b) Yg:=λc s d H Q I h=>
 wpAny_Dict_empty ⟨.ref s.heap.objs.size,_,I.laid (a:=s.heap.objs.size) (o:=.dT []) (t':=s.toks) (λ_ _ q=>ar _ q) (ap _) (Ph s.heap I.big),rfl,h _ (I.ψ.fresh (ap _))⟩
end
def wX:List (TE×TE)->St->Hp->(List (V×V)->Hp->Prop)->Prop
 | [],_,H,Q=>Q [] H
 | (tk,tv)::r,σ,H,Q=>tk σ H λx b=>tv σ b λy a=>wX r σ a λc d=>Q ((x,y)::c) d
abbrev VV:List (V×V)->List (Value×Value)->Prop:=Paired λp q=>RelV p.1 q.1/\RelV p.2 q.2
def PPs(X:Cx)(d:Pos)(c:List (Option Expr))(a:List Expr)(i:List (TE×TE)):Prop:=∀(b:gn)(s:Shared)(e:St)(H:Hp)(Q:List (V×V)->Hp->Prop),Inv X b e H s->wX i e H Q->wpAny (model X.prog X.w) X.A (evalPairs (pairTrees c a X.env d)) (λh j=>∃g f,Inv X b e f j/\VV g h/\Q g f) X.xe s
theorem Jt{X:Cx}{a:Pos}:PPs X a [] [] []:=λb s c H Q I h=>pairTrees_nil_walk ⟨[],H,I,.nil,h⟩
theorem FZ{X:Cx}{b:Pos}{k v:Expr}{g:List (Option Expr)}{i:List Expr}{e f:TE}{j:List (TE×TE)}(n:PE X k e)(B:PE X v f)(o:PPs X b g i j):PPs X b (some k::g) (v::i) ((e,f)::j):=λa s c H Q I h=>
 pairTrees_cons_walk (dQ (n a s c H _ I h) λu m x C F E G=>dQ (B a m c C _ F G) λK t y p l z D=>
  ϑ (o a t c p _ l D) λL J ⟨q,r,A,d,w⟩=>⟨(x,y)::q,r,A,.cons ⟨E,z⟩ d,w⟩)
def jS(d a:List (Key×V)):List (Key×V):=a.foldl (λb c=>iG b c.1 c.2) d
theorem KV.merge:∀{a:List (Key×V)}{d:List (Key×Value)}{c:List (Key×V)}{b:List (Key×Value)},KV a d->KV c b->KV (jS c a) (merged b d):=by
 intro a d c b r;unfold KV at r
 induction r generalizing c b with
 | nil=>intro q;exact q
 | @cons p q ps qs h t ih=>
   intro f;have e:KV (iG c p.1 p.2) (stored b q.1 q.2):=by
    have:=f.put p.1 h.2;rw[<-h.1];exact this
   exact ih e
theorem oU:∀(b a:List (Key×V)),(jS a b).length<=a.length+b.length
 | [],a=>by show a.length<=a.length+0;lia
 | p::r,a=>by
   have c:=oU r (iG a p.1 p.2);have d:=oP a p.1 p.2;show(jS (iG a p.1 p.2) r).length<=_;rw[aF];lia
theorem BS{P:Program}{w:World}:∀{e:List (Key×V)}{f:List (Value×Value)},VV (e.map λg=>(kV g.1,g.2)) f->∃d,Carries (ik P w) f d/\KV e d
 | [],_,r=>by rw[d6]at r;cases r;exact⟨[],True.intro,.nil⟩
 | p::e,_,r=>by
   rw[aq]at r;cases r with
   | @cons a b as bs h t=>
     obtain⟨d,c,q⟩:=BS (P:=P) (w:=w) t;obtain⟨j,i⟩:=b;exact⟨(p.1,i)::d,⟨xO h.1,rfl,c⟩,.cons ⟨rfl,h.2⟩ q⟩
def EL(f:List (TE×TE)):TE:=λd H Q=>∀p,H p=none->wX f d (upd H p (.dK [])) λe b=>b p=some (.dK [])/\∃a:List (Key×V),e=a.map (λc=>(kV c.1,c.2))/\a.length<=15/\Q (.ref p) (upd b p (.dK (jS [] a)))
theorem Il{X:Cx}{i:Pos}{b:List (Option Expr)}{d:List Expr}{p:List (TE×TE)}(h:PPs X i b d p)(k:b.all (·.isSome)=true)(v:b.length=d.length)(E:b≠[])(j:b.length<=15):PE X (.Dict b d i) (EL p):=by
 intro f s t H Q I q;have G:=I.ψ.fresh (ap s.heap.objs.size);have L:=I.laid (a:=s.heap.objs.size) (o:=.dK []) (h':=s.heap.push { cls:=.type "dict",data:=.dict #[] }) (t':=s.toks) (λ_ _ q=>ar _ q) (ap _) (F1 s.heap I.big);refine wpAny_Dict_walk (knd:=ik X.prog X.w) k v E j (ϑ (h f _ t _ _ L (q _ G)) λO S ⟨R,N,m,l,e,n,B,T,K⟩=>?_);subst B;obtain⟨r,c,A⟩:=BS (P:=X.prog) (w:=X.w) l;obtain⟨z,M,D,y,F⟩:=EJ m.ψ e;cases y;refine⟨r,c,F,λh' g J=>⟨.ref s.heap.objs.size,_,?_,rfl,K⟩⟩;have C:(jS [] n).length<=sizeLine:=by
  have x:=oU n [];rw[dW]at x;rw[sizeLine_eq];lia
 have u:∃q,h'.get? s.heap.objs.size=some q:=let ⟨q,_,_,hq,_⟩:=g;⟨q,hq⟩;exact xY m (by rw[e];exact True.intro) J u (Gp C M (A.merge .nil) g)
end L2
namespace Att
open PySem PySem.W PySem.Calls PyProof.Rows
theorem Aw{P:Params}{h:Heap}:∀(c:f3)(d:gy),WellAll P h d (c.map WData.int)->IntsAre d c:=by
 intro c
 induction c with
 | nil=>
   intro d w;rw[d6]at w;cases w;exact .nil
 | cons n c ih=>
   intro d w;rw[aq]at w;cases w with
   | cons a b=>
     cases a;exact .cons _ _ (ih _ b)
theorem Mh{l:OpenLaw}{n:Nat}(w:l.most=some n){P:Params}{h:Heap}{b:List WData}{e:gy}(m:l.row.toRowW.claim.pre b=true)(k:WellAll P h e b):∃a p c,e=[Value.ref a]/\b=[WData.list (c.map WData.int)]/\h.get? a=some { cls:=.type "list",data:=.seq p.toArray }/\IntsAre p c/\c.length<=n:=by
 have j:WShape.hasAll [] b [.list .int]=true:=(pre_splitW m).1;have o:l.pre.holds [] { args:=b }=true:=(pre_splitW m).2;obtain⟨d,r,rfl,u,v⟩:=hasAllW_cons j;obtain rfl:=hasAllW_nil v;obtain⟨x,rfl,s⟩:=hasW_list u;obtain⟨c,rfl⟩:=items_int s;have f:c.length<=n:=by
  unfold OpenLaw.pre at o;have g:(WTm.not (.lt (.lit (.int (n:Int))) (.len (.arg 0)))).holds [] { args:=[.list (c.map .int)] }=true:=by
   have g:=(holds_andW o).1;rw[w]at g;exact g
  have i:=condW_of g (w_not (w_lt w_lit (w_len_list (w_arg rfl))));rw[aa]at i;refine Nat.le_of_not_lt λq=>?_;have t:(n:Int)<((c.length:Nat):Int):=by lia
  first
   | (rw[bh t]at i;exact absurd i (by decide))
   | (simp at i;lia)
 cases k with
 | cons w1 w2=>
   cases w2;cases w1 with
   | list ho aby=>exact⟨_,_,c,rfl,rfl,ho,Aw c _ aby,f⟩
theorem Ms(l:OpenLaw)(a:List WData):l.row.toRowW.claim.post a (.bool true) a=true:=postW_of (r:=l.row.toRowW) (X:=(true==true))
 (show WShape.has [] (.bool true) .bool=true by first|rfl|decide|simp[WShape.has,WShape.arms,WShape.armsAll])
 (show(WTm.eq .res (.lit (.bool true))).value [] { args:=a,res:=some (.bool true),after:=a }=some (.bool (true==true))from w_eq_bool (w_res rfl) w_lit) rfl
theorem XC{l:OpenLaw}{n:Nat}{q:Program}{e:hD}{E:(Str->Option Value)->Heap->Prop}{D:World->Heap->Prop}{d:DefRec}(T:l.most=some n)(u:d.params.defaults=[])(call:∀(w:World) (c b:Shared) (p z:g8) (j:Addr) (o:Obj) (x t g:Value) (a:Addr) (i:gy) (m:f3),Ground q e [] E w c p z b.heap->D w b.heap->b.heap.get? j=some o->o.data=.func (docDef d.name d.params d.body d.scope x t g)->b.heap.CodeRec t d.name->p d.name=some (.ref j)->b.heap.get? a=some { cls:=.type "list",data:=.seq i.toArray }->IntsAre i m->m.length<=n->b.gens=#[]->codeAny (model l.prog w) callerA (.call (.ref j) ⟨[.ref a],[]⟩) (λr s=>r=.ok (.ret (.bool true))/\OldK b.heap s.heap/\s.os=b.os/\AllBare s.gens) b):WalkO q e E D l.row.toRowW d [] (λf i=>PySem.call f i):=by
 intro w c b p z G Y j o x t g K kV M V L C y S F B as H R J v P;obtain rfl:K=.none:=Dflts.none C u;obtain rfl:kV=.none:=Dflts.noKw C;obtain⟨a,i,m,rfl,rfl,A,h,k⟩:=Mh T H v;refine enter_call (kT (call w c b p z j o x t g a i m G Y M (fd_plain V) L y A h k S) λr s O=>?_);obtain⟨rfl,Q,I,U⟩:=O;exact⟨.inl ⟨.bool true,.bool true,[],rfl,λ_=>rfl,.bool true,Ms l _,λ_=>⟨List.Pairwise.nil,λ_ N=>(nomatch N)⟩⟩,Q,I,U⟩
end Att
namespace L2
open PySem PySem.Spec PyProof.Rows
theorem DD:∀{a:gy}{b:f3},IntsAre a b->Vals (b.map V.int) a
 | _,_,.nil=>.nil
 | _,_,.cons n t h=>.cons ⟨t,rfl⟩ (DD h)
def QU(H:Hp):Prop:=∀b,H b=none\/∃o a,H b=some (.X4 o (.lst a))
theorem Og{P:Program}{w:World}{K:gg}{D S:g8}{Z:Xd}{k:Nat}{M a:Addr}{X:FuncData}{x:Str}{sp:Sp}{c:Shared}{p:gy}{t:f3}(KX:K.In c.heap)(B:c.heap.Ns mainGlobals D)(f:c.heap.Ns builtinsNs S)(T:∀x:Str,x≠"__name__"->S x=bootBuiltins x)(N:c.heap.NoLimit)(hg:c.gens=#[])(I:c.heap.get? a=some { cls:=.type "list",data:=.seq p.toArray })(hi:IntsAre p t)(Y:t.length<=sizeLine)(hr:ϋ k callerA)(F:∀g:Heap,K.In g->g.Ns mainGlobals D->ϓ P w K D g Z k M X [x] sp)(R:∀(s:Shared) (u:Value),BindsTo s X ⟨[u],[]⟩ [(x,u)])(ZR:∀H:Hp,QU H->ξ K H a (t.map V.int)->sp [.ref a] H (λv _=>v=.bl true) λ_ _ _=>False)(O:∀H e i,Z [] H c (λ_ _ _=>False) e i->False):codeAny (model P w) callerA (.call (.ref M) ⟨[.ref a],[]⟩) (λr i=>r=.ok (.ret (.bool true))/\OldK c.heap i.heap/\i.os=c.os/\AllBare i.gens) c:=by
 have rv:=DD hi;have Q:=hi.length;have l:∀H:Hp,QU H->ξ K H a (t.map V.int)->Ϭ P w H c.heap->(∀b,H b≠none->b=a)->(H a≠none->K.lookup a=none)->codeAny (model P w) callerA (.call (.ref M) ⟨[.ref a],[]⟩) (λr i=>r=.ok (.ret (.bool true))/\OldK c.heap i.heap/\i.os=c.os/\AllBare i.gens) c:=by
  intro H hO hS ψ hA hK;have Ys:∀{b:Addr}{o:Obj},c.heap.get? b=some o->H b=none->(vP c.heap H).get? b=some o:=λe n=>Qn e n;have J:∀{b:Addr}{o:Obj}{y:Array DictEntry}{C:Nat},c.heap.get? b=some o->o.data=.dict y C->H b=none:=λ{b o y C} e d=>by
   cases q:H b with
   | none=>rfl
   | some u=>
     have L:b=a:=hA b (by rw[q];simp);subst L;rw[I]at e;cases e;have d':Data.seq p.toArray _=Data.dict y C:=d;cases d'
  have j:∀{b:Addr}{m:g8},c.heap.Ns b m->(vP c.heap H).Ns b m:=λ{b m} ⟨o,y,C,e,d,r⟩=>⟨o,y,C,Ys e (J e d),d,r⟩;have E:K.In (vP c.heap H):=λb o e=>Ys (KX b o e) (by
   cases q:H b with
   | none=>rfl
   | some u=>
     have L:b=a:=hA b (by rw[q];simp);subst L;rw[hK (by rw[q];simp)]at e;cases e)
  have hM:Mod K D (vP c.heap H):=⟨E,j B,⟨S,j f,T⟩,let ⟨mc,h1,h2⟩:=N;⟨mc,j h1,h2⟩⟩;have e0:Yb P w K D (vP c.heap H) callerA [] c H:=⟨rfl,hM,λb o e=>Ro e,kQ (LF _ _),trivial,λb f=>absurd (show b∈([]:gw)from f) (by simp),ψ,.of_eq hg⟩;refine kT ((F _ E (j B)).run callerA [] c H ⟨[.ref a],[]⟩ [.ref a] [.ref a] _ _ hr e0 (R c (.ref a)) (.cons rfl .nil) (ZR H hO hS)) λr i h=>?_;cases r with
  | error e=>exact(O H e i h).elim
  | ok fl=>
    cases fl with
    | next=>exact False.elim h
    | brk=>exact False.elim h
    | cont=>exact False.elim h
    | ret u=>
      obtain⟨v,H',os,G,un,U,r',q⟩:=h;have q':v=.bl true:=q;subst q';obtain rfl:u=Value.bool true:=r';refine⟨rfl,OldK.of_keep λb o e=>?_,os,G⟩;cases q:H b with
      | none=>exact un.keep b o e q (by intro z;exact absurd (show b∈([]:gw)from z) (by simp)) (by simp)
      | some u=>
        rcases hO b with z|⟨ob,xs,z⟩
        .rw[q]at z;cases z
        .have z2:=un.iN b ob _ z;obtain⟨e1,_⟩:=ψ b _ z;obtain⟨e2,_⟩:=U b _ z2;rw[e]at e1;cases e1;exact e2
 cases hk:K.lookup a with
 | some o=>
   have e:=KX a o hk;rw[I]at e;cases e;refine l (λ_=>none) (λ_=>.inl rfl) (.inr ⟨_,p.toArray,_,hk,rfl,rfl,rfl,by rw[aM,Q];exact Y,by simpa using rv⟩) (λb u z=>by have A:(none:Option HO)=some u:=z;cases A) (λb z=>absurd rfl z) λz=>absurd rfl z
 | none=>
   refine l (λb=>if b=a then some (.X4 { cls:=.type "list",data:=.seq p.toArray } (.lst (t.map V.int)))else none) (λb=>?_) (.inl (.inr ⟨{ cls:=.type "list",data:=.seq p.toArray },aj rfl⟩)) (λb u z=>?_) (λb z=>?_) λ_=>hk
   .by_cases f:b=a
    .exact .inr ⟨_,_,aj f⟩
    .exact .inl (ag f)
   .by_cases f:b=a
    .have A:=(aj f).symm.trans z;cases A;subst f;exact⟨I,by rw[aa];exact Y,p,_,rv,I⟩
    .have A:=(ag f).symm.trans z;cases A
   .by_cases f:b=a
    .exact f
    .exact absurd (ag f) z
theorem aac{l:PySem.W.OpenLaw}{n k:Nat}{q:Program}{m:hD}{S:(Str->Option Value)->Heap->Prop}{L:World->Heap->Prop}{d:DefRec}{K:Params->PySem.W.Frag}{CX:World->Xd}{sp:World->Sp}{x:Str}(hn:l.most=some n)(B:n<=sizeLine)(z:d.params.defaults=[])(O:ϋ k callerA)(hY:∀(w:World) (h:Heap),L w h->(K w.params).In h)(F:∀(w:World) (p:g8) (y:Addr) (h:Heap),(K w.params).In h->h.Ns mainGlobals p->p d.name=some (.ref y)->∃A:FuncData,(∀(s:Shared) (u:Value),BindsTo s A ⟨[u],[]⟩ [(x,u)])/\∀c:Heap,(K w.params).In c->c.Ns mainGlobals p->ϓ l.prog w (K w.params) p c (CX w) k y A [x] (sp w))(R:∀(w:World) (H:Hp) (a:Addr) (t:f3),t.length<=n->QU H->ξ (K w.params) H a (t.map V.int)->sp w [.ref a] H (λv _=>v=.bl true) λ_ _ _=>False)(C:∀(w:World) (H:Hp) (s:Shared) (e:Value) (D:Shared),CX w [] H s (λ_ _ _=>False) e D->False):PySem.W.WalkO q m S L l.row.toRowW d [] (λf N=>PySem.call f N):=by
 refine Att.XC hn z λw J r p mb y o pm cd P a N t G Y ho hd YM E I j i Z=>?_;have M:=hY w _ Y;obtain⟨A,Q,U⟩:=F w p y _ M G.T.g E;exact Og M G.T.g G.T.b G.T.builtins G.T.nolimit Z I j (aL i B) O U Q (λH hO X=>R w H a t i hO X) λH e D=>C w H r e D
def IU(s:Stmt)(j:Nat):Stmt:=match s with
 | .ClassDef _ _ _ body _ _ _ _ _ _ _=>body.getD j (.Pass ⟨0,0,0,0⟩)
 | _=>.Pass ⟨0,0,0,0⟩
def je(s:Stmt):Arguments:=match s with
 | .FunctionDef _ a _ _ _ _ _ _ _ _=>a
 | _=>{ posonlyargs:=[],args:=[],vararg:=none,kwonlyargs:=[],kw_defaults:=[],kwarg:=none,defaults:=[] }
def iq(s:Stmt):List Stmt:=match s with
 | .FunctionDef _ _ b _ _ _ _ _ _ _=>b
 | _=>[]
def aK(s:Stmt):Scope:=match s with
 | .FunctionDef _ _ _ _ _ _ sc _ _ _=>sc
 | _=>{ kind:=.function,names:=[],isGenerator:=false,isCoroutine:=false }
abbrev CX0:Xd:=λ_ _ _ _ _ _=>False
abbrev E0:XK:=λ_ _ _=>False
structure Yh(K:gg)(x qual:Str)(st:Stmt)(f:Addr)(fd:FuncData):Prop where
 ex:∃(oc:Value)(od:Option Addr)(kV doc pm:Value)(an:Option Addr)(Α ct:Value)(Zj:Array (Option Value)),fd=PySem.W.fnOf x qual (je st) (iq st) (aK st) .none kV doc pm an Α ct/\K.lookup f=some ⟨oc,od,.func fd,Zj⟩/\PySem.W.codeIn K Α qual=true
 kp:PySem.W.keepIn K (.ref f)=true
section
variable{P:Program}{w:World}{K:gg}{b:g8}{a:Heap}
theorem Yh.binds{x c:Str}{st:Stmt}{f:Addr}{l:FuncData}{ps:hD}(F:Yh K x c st f l)(h:∀(kV d g:Value) (e:Option Addr) (k i:Value) (j:gy),j.length=ps.length->bindArgs (PySem.W.fnOf x c (je st) (iq st) (aK st) .none kV d g e k i) ⟨j,[]⟩=pure (ps.zip j)):Binds K l ps []:=by
 obtain⟨m,p,kV,d,g,e,k,i,q,rfl,o,n⟩:=F.ex;exact .all (h kV d g e k i)
theorem BN{x d:Str}{st:Stmt}{f:Addr}{m:Value}{n j:Option Addr}{o:Array (Option Value)}{kV e h g i:Value}(l:K.lookup f=some ⟨m,n,.func (PySem.W.fnOf x d (je st) (iq st) (aK st) .none kV e h j g i),o⟩)(c:PySem.W.codeIn K g d=true)(k:PySem.W.keepIn K (.ref f)=true):Yh K x d st f (PySem.W.fnOf x d (je st) (iq st) (aK st) .none kV e h j g i):=⟨⟨m,n,kV,e,h,j,g,i,o,rfl,l,c⟩,k⟩
end
theorem sg{A:Around}{k:Nat}(a:ϋ k A):A.units+1<cLine:=gm (Nat.add_le_add_left (by decide:1<=64) _) a.units
section
variable{X:Cx}
theorem pv(i:Nat){x:Str}{a:Pos}(c:X.N[i]?=some x:=by rfl)(b:Vis X.env.scope x:=by first|exact Or.inl rfl|exact Or.inr (Or.inl rfl)|exact Or.inr (Or.inr rfl))(e:(x==("__debug__":Str))=false:=by decide)(d:(x==("__classdict__":Str))=false:=by decide):PE X (.Name x a) (xI i):=Ft c b e d
end
theorem Ud{A B:Prop}(h:B):if false=true then A else B:=by
 rw[ag bz];exact h
theorem SZ{A B:Prop}(h:A):if true=true then A else B:=by
 rw[aj rfl];exact h
def δ(H a:Hp):Prop:=∀b o,H b=some o->a b=some o
theorem δ.refl(H:Hp):δ H H:=λ_ _ h=>h
theorem δ.trans{H e d:Hp}(a:δ H e)(b:δ e d):δ H d:=λc o h=>b c o (a c o h)
theorem δ.free{H a:Hp}(e:δ H a){l:Addr}(h:a l=Option.none):H l=Option.none:=by
 cases q:H l with
 | none=>rfl
 | some o=>
   rw[e l o q]at h;cases h
theorem δ.seq{K:gg}{H b:Hp}{a:Addr}{c:List V}(e:δ H b)(h:ξ K H a c):ξ K b a c:=by
 rcases h with(h|⟨o,h⟩)|h
 .exact .inl (.inl (e _ _ h))
 .exact .inl (.inr ⟨o,e _ _ h⟩)
 .exact .inr h
section
variable{X:Cx}
theorem MB:lD X (.builtin "len") (λc H Q=>∃a b,c=[V.ref a]/\H a=some (.dK b)/\Q (.int b.length) H):=by
 intro d s i H c k Q I r h;obtain⟨a,b,rfl,e,q⟩:=h;obtain⟨u,rfl,g⟩:=qY r;cases g;exact VC I (.inl e) λt j f=>⟨.int b.length,H,f,⟨t,rfl⟩,q⟩
end
def Cx.comp(X:Cx)(d:hD)(a:Scope)(cl:List (Str×Addr))(C:Addr)(c:Shared)(b:Hp)(e:gw):Cx where
 prog:=X.prog
 w:=X.w
 K:=X.K
 mg:=X.mg
 base:=X.base
 A:=X.A
 N:=d
 s₀:=c
 H₀:=b
 env:=compEnvC a cl C X.env
 outer:=X.stack
 stack:=X.stack
 ex:=e
 fn:=λ_=>false
 calm:=X.calm
 pn:=[]
 xe:=λ_ _=>False
structure ϥ(X:Cx)(Nc:hD)(own:Nat)(js:List Nat)(scope:Scope)(cl:List (Str×Addr)):Prop where
 abB:closureFor scope X.env=pure cl
 kind:scope.kind=.function
 Yi:∀y∈scope.names,y.2≠.cell
 names:∀y∈scope.names,y.2=.local->scope.names.lookup y.1=some .local
 cells:∀x c,cl.lookup x=some c->X.env.cells.lookup x=some c
 has:∀x,((relabel scope X.env).names.lookup x=some .cell\/(relabel scope X.env).names.lookup x=some .free)->∃c,cl.lookup x=some c
 len:Nc.length=own+js.length
 outer:∀i x,Nc[own+i]?=some x->∃j,js[i]?=some j/\X.N[j]?=some x/\X.env.scope.names.lookup x=some .cell/\(relabel scope X.env).names.lookup x=some .cell
def mN(a:Nat)(b:List Nat)(c:St):St:=List.replicate a none++b.map λj=>(c[j]?).getD none
def KL(h:Nat)(q:List Nat)(t:TI)(g:TG)(u:TT)(r:TE):TE:=λj H Q=>t j H λJ o=>∀p,o p=none->∃W:Nat->Nat->List V->St->Hp->Prop,(∃m,W 0 m [] (mN h q j) (upd o p (.lst [])))/\∀i m c d f,W i m c d f->(J.stop i f/\Q (.ref p) f)\/(J.go i f/\∀x n,J.yld i f x n->g x d n λa s=>u a s λb k=>
 if b=true then r a k λy l=>l p=some (.lst c)/\c.length<sizeLine/\∃e,e<m/\W (i+1) e (c++[y]) a (upd l p (.lst (c++[y])))
 else ∃e,e<m/\W (i+1) e c a k)
def PTs(X:Cx)(d:List Expr)(t:TT):Prop:=∀(a:gn)(s:Shared)(b:St)(H:Hp)(Q:Bool->Hp->Prop),Inv X a b H s->t b H Q->wpAny (model X.prog X.w) X.A (forIn d true λc r=>if r=true then do let e <-isTrue c X.env (eval c X.env);pure (ForInStep.yield e)else pure (ForInStep.yield r)) (TP X a b Q) X.xe s
def abC:TT:=λ_ H Q=>Q true H
theorem jg{X:Cx}:PTs X [] abC:=λa s b H Q I h=>wpAny_tests_nil ⟨H,I,h⟩
theorem yb{X:Cx}{c:Expr}{t:TT}(h:PT X c t):PTs X [c] t:=λa s b H Q I q=>wpAny_tests_one (h a s b H Q I q)
section
variable{a:Program}{w:World}{A:Around}{E:gf}{R:Result->Shared->Prop}{s:Shared}
theorem yR{t b q:Expr}{u:List Expr}{i:Scope}{B:Pos}{H y:Value}{e:Env}(I:Nat->Shared->Prop)(F:∀n s,I n s->wpAny (model a w) A (pyNext H) (λr g=>match r with
 | none=>R (.ok .next) g
 | some v=>wpAny (model a w) A (letOwnedTupleGo b H v) (λ_ C=>wpAny (model a w) A (assign b e v) (λ_ o=>
  wpAny (model a w) A (forIn u true λc r=>if r=true then do let ok <-isTrue c e (eval c e);pure (ForInStep.yield ok)else pure (ForInStep.yield r)) (λok j=>
   if ok=true then wpAny (model a w) A (eval t e) (λx k=>
    wpAny (model a w) A (call (.builtin "list.append") [y,x]) (λ_ p=>∃m,m<n/\I m p) (λ_ _=>False) k) (λ_ _=>False) j
   else ∃m,m<n/\I m j) (λ_ _=>False) o) (λ_ _=>False) C) (λ_ _=>False) g) (λ_ _=>False) s)(n:Nat)(h:I n s):codeAny (model a w) A (.compLoop (.ListComp t [⟨b,q,u,0⟩] i B) 0 H y e) R s:=by
 refine codeAny_loop rfl I (λn s K=>?_) n h;show wpAny _ A ((compTurn (.ListComp t [⟨b,q,u,0⟩] i B) 0 H y e).onRaise (λx=>do noteFrame x e;theTreesLotGoes x)) _ _ s;refine wpAny_noted ?_;rw[compTurn_list];refine ak (jY (ak (di (F n s K) (λr g l=>?_) λ_ _ f=>f.elim)));cases r with
 | none=>exact ba l
 | some v=>
   refine ak (di l (λ_ C J=>?_) λ_ _ f=>f.elim);refine ak (di J (λ_ o z=>ak (di z (λok j d=>?_) λ_ _ f=>f.elim)) λ_ _ f=>f.elim);cases ok with
   | true=>
     rw[aj rfl]at d;simp only[if_true];exact ak (ak (di d (λx k G=>ak (di G (λ_ p D=>ba (ba ⟨rfl,D⟩)) λ_ _ f=>f.elim)) λ_ _ f=>f.elim))
   | false=>
     rw[ag bz]at d;simp only[dI,if_false]
     first
      | exact ba ⟨rfl,d⟩
      | exact ak (ba (ba ⟨rfl,d⟩))
end
section
variable{X:Cx}{Nc:hD}{f:Nat}{B:List Nat}{scope:Scope}{l:List (Str×Addr)}
theorem CV{g:gn}{m:St}{d:Hp}{a:Shared}{C:Addr}{j:gw}(T:ϥ X Nc f B scope l)(I:Inv X g m d a)(k:a.heap.objs.size<=C)(i:∀b∈j,ph X g d b)(r:∀b∈j,b<a.heap.objs.size):(X.comp Nc scope l C a d j).Ok where
 mod:=I.ok.mod
 kind:=by show(relabel scope X.env).kind=_;exact T.kind
 glob:=I.ok.glob
 blt:=I.ok.blt
 above:=k
 inj:=λx y c n p=>I.ok.inj x y c (T.cells x c n) (T.cells y c p)
 has:=λx h=>T.has x h
 cab:=λx c h=>by cases h
 hd:=I.ok.hd
 frames:=I.ok.frames
 stk:=.inl rfl
 exf:=λb hb=>⟨aV (aZ (r b hb) k),λx c h=>(i b hb).2.2.2.2.1 x c (T.cells x c h)⟩
 bs:=I.bs
 Z1:=aL I.ok.Z1 I.sz
 YK:=λb o e hb=>by
  rcases(i b hb).2.2.2.1 with z|z
  .exact I.ok.YK b o e z
  .exact absurd (aZ (aH (I.ok.bs b o e).1) z) (cW _)
 X6:=λb hb q=>by
  rcases ax.mp (I.X8 b q)with z|z
  .exact(i b hb).2.1 z
  .exact(i b hb).2.2.1 z
 Ac:=I.stack
 frf:=I.Wn
theorem GG{s:gn}{w:St}{h:Hp}{a:Shared}{C D:Addr}{L:gw}{g:Heap}{t:Nat}{m:g8}(T:ϥ X Nc f B scope l)(I:Inv X s w h a)(P:a.heap.objs.size<=C)(E:a.heap.objs.size<=D)(J:D≠C)(W:∀b∈L,ph X s h b)(ό:∀b∈L,b<a.heap.objs.size)(A:∀b o,a.heap.get? b=some o->g.get? b=some o)(H:g.Ns C m)(M:∃n,g.get? D=some { cls:=.type "list",data:=.seq ([]:gy).toArray n }):Inv (X.comp Nc scope l C a h L) [] (mN f B w) (upd h D (.lst [])) { a with heap:=g,toks:=t }:=by
 obtain⟨U,M⟩:=M;have r:∀c v,a.heap.IsCell c v->g.IsCell c v:=λc v ⟨o,G,hd⟩=>⟨o,A c o G,hd⟩;refine⟨CV T I P W ό,rfl,I.bare,Un.laid A E (I.ψ.fresh E),⟨m,H,λi x v V e2 e3=>?_⟩,λx c e=>?_,?_,λx c e=>?_,λp Z=>(by cases Z),I.ψ.laid A E ?_,?_⟩
 .have hN:Nc[i]?=some x:=V;have d:(mN f B w)[i]?=some (some v):=e2;unfold mN at d;by_cases Q:i<f
  .rw[dh (by simpa using Q),fF]at d;simp[Q]at d
  .obtain⟨k,rfl⟩:∃k,i=f+k:=⟨i-f,by lia⟩;rw[c8 (by simp)]at d;simp only[cU,Nat.add_sub_cancel_left,aA]at d;obtain⟨j,R,hx,N,O⟩:=T.outer k x hN;rw[R]at d;replace d:some (w[j]?.getD none)=some (some v):=d;have F:w[j]?=some (some v):=by
    cases q:w[j]? with
    | none=>rw[q]at d;simp at d
    | some y=>rw[q]at d;simpa using d
   obtain⟨m0,S,K⟩:=I.loc;obtain⟨u,ru,Y⟩:=K j x v hx F (.inr (.inl N));refine⟨u,ru,.inr ⟨.inl O,?_⟩⟩;rcases Y with⟨z,_⟩|⟨_,c,hc,ϸ⟩
   .have z':X.env.scope.names.lookup x=some .local:=z;rw[N]at z';cases z'
   .obtain⟨c',YL⟩:=T.has x (.inl O);have:=T.cells x c' YL;rw[hc]at this;cases this;exact⟨c,YL,r c _ ϸ⟩
 .obtain⟨v,z⟩:=I.cell x c (T.cells x c e);exact⟨v,r c v z⟩
 .show upd h D (.lst []) C=none;rw[aR (Ne.symm J)];exact I.ψ.fresh P
 .have e':=T.cells x c e;obtain⟨v,o,G,_⟩:=I.cell x c e';rw[aR (aV (aZ (aH G) E))];exact I.Ϟ x c e'
 .exact⟨bj _,[],U,.nil,M⟩
 .show(mN f B w).length=Nc.length;rw[T.len];simp[mN]
theorem D0{g:gn}{x s:St}{d i:Hp}{c s':Shared}{C:Addr}{p:gw}{h':Heap}(I:Inv X g x d c)(D:c.heap.objs.size<=C)(r:∀b∈p,ph X g d b)(j:Inv (X.comp Nc scope l C c d p) [] s i s')(E:Heap.SameBut C s'.heap h'):Inv X g x i { s' with heap:=h' }:=by
 have u:Un (ϭ X.stack) p d i c.heap s'.heap:=j.base;have ne:∀b o,c.heap.get? b=some o->b≠C:=λb o e=>aV (aZ (aH e) D);have k:∀b o,b≠C->s'.heap.get? b=some o->h'.get? b=some o:=λb o n e=>E.extBut b o n e;have F:Un (ϭ X.stack) p d i c.heap h':=⟨λb o e n h m=>k b o (ne b o e) (u.keep b o e n h m),λb o e n h m=>let ⟨sl,q⟩:=u.slot b o e n h m;⟨sl,k b _ (ne b o e) q⟩,u.free,λb o e m=>let ⟨o',q⟩:=u.there b o e m;⟨o',k b o' (ne b o e) q⟩,u.oR,u.iN,u.rW⟩
 have A:i C=none:=j.free;have t:Ϭ X.prog X.w i h':=λa o e=>(j.ψ a o e).iF (λb v h q=>k b v (λz=>by
  rcases h with y|y
  .rw[y]at z;rw[z,A]at e;cases e
  .rw[z,A]at y;cases y) q) (λ_ q=>q) λ_ _ q=>q
 exact I.aaJ (s':={ s' with heap:=h' }) (ch:=p) j.os F t j.bare λb h=>⟨(r b h).2.2.2.1,(r b h).2.1,(r b h).2.2.2.2.1,(r b h).2.2.2.2.2⟩
theorem gZ{ac a E:Expr}{ad:List Expr}{au:Pos}{wi:TI}{g:TG}{tc:TT}{te:TE}(hc:X.calm=true)(T:ϥ X Nc f B scope l)(hi:PI X a E wi)(hg:∀C m z k,PG (X.comp Nc scope l C m z k) a g)(ht:∀C m z k,PTs (X.comp Nc scope l C m z k) ad tc)(he:∀C m z k,PE (X.comp Nc scope l C m z k) ac te)(hs:∀x,foldedSetIterable E X.env x=pure x:=by intro _;rfl):PE X (.ListComp ac [⟨a,E,ad,0⟩] scope au) (KL f B wi g tc te):=by
 intro Y s σ H Q I h;rw[eval_ListComp];refine wpAny_comprehension_free (use:=none) rfl hs T.abB T.kind T.names (ϑ (hi Y s σ H _ I h) λv s1 h1=>ϑ h1 λcS j h2=>?_);obtain⟨it,k,tn,J,H1,rfl,I1,U,st,f1,R⟩:=h2;have P:∀b∈k,b<j.heap.objs.size:=λb D=>let ⟨o,e,_⟩:=U.obj _ _ st b D;aH e;refine gJ (wpAny_newFunctionEnv T.Yi (by intro y hy;simp at hy) (λF aC Ϧ=>?_) T.kind);dsimp only at aC Ϧ ⊢;generalize ab:j.heap.push { cls:=.type "list",dict:=none,data:=.seq ([]:gy).toArray }=L at aC Ϧ ⊢;have hC:L.objs.size=j.heap.objs.size+1:=by rw[<-ab,df]
 have av:j.heap.objs.size≠L.objs.size:=by rw[hC];exact aV (fW _)
 have Wr:j.heap.objs.size<=L.objs.size:=by rw[hC];exact fD _
 have b6:∀b,b<j.heap.objs.size->b≠L.objs.size:=λb D=>by rw[hC];exact aV (gH D)
 have a1:∀b o,j.heap.get? b=some o->F.get? b=some o:=λb o e=>Ϧ.extBut b o (b6 b (aH e)) (ar _ (ab▸ar _ e));have By:∃n,F.get? j.heap.objs.size=some { cls:=.type "list",data:=.seq ([]:gy).toArray n }:=⟨_,Ϧ.extBut _ _ av (ar _ (ab▸bf _ rfl))⟩;have XD:tn 0 F:=U.keep _ _ _ st λb _ o e=>a1 b o e;obtain⟨W,⟨m0,w0⟩,a2⟩:=R j.heap.objs.size I1.fresh;have Ic:=GG (t:=j.toks+([]:List (Str×Value)).length) T I1 Wr (ap _) av f1 P a1 aC By;generalize N:X.comp Nc scope l L.objs.size j H1 k=Xc at Ic;have M:∀{S:Hp},(∀b∈k,S b=none)->∀b∈k,ph Xc [] S b:=λ{S} hn b D=>by
  subst N;exact⟨hn b D,b6 b (P b D),(CV T I1 Wr f1 P).X6 b D,.inl D,λx c e=>(f1 b D).2.2.2.2.1 x c (T.cells x c e),λp hp=>by cases hp⟩
 have bS:∀b∈k,upd H1 j.heap.objs.size (.lst []) b=none:=λb D=>by
  rw[aR (aV (P b D))];exact(f1 b D).1
 have d1:Xc.calm=true:=by subst N;exact hc
 have Z:∀K:Shared,K={ j with heap:=F,toks:=j.toks+([]:List (Str×Value)).length }->codeAny (model X.prog X.w) X.A (.compLoop (.ListComp ac [⟨a,E,ad,0⟩] scope au) 0 (.ref it) (.ref j.heap.objs.size) (compEnvC scope l L.objs.size X.env))
  (compPost (model X.prog X.w) X.A X.xe none (EP X Y σ Q) (.ref j.heap.objs.size) L.objs.size) K:=by
  rintro K rfl;refine yR (λn s'=>∃i ys a0 S,Inv Xc [] a0 S s'/\tn i s'.heap/\(∀b∈k,S b=none)/\W i n ys a0 S) ?_ m0 ⟨0,[],_,_,Ic,XD,bS,w0⟩;rintro n s3 ⟨i,ys,O,H3,I3,a3,aT,w3⟩;rcases a2 i n ys O H3 w3 with⟨stop,q⟩|⟨go,step⟩
  .subst N;refine ϑ (U.done (X.comp Nc scope l L.objs.size j H1 k) rfl rfl rfl hc i [] s3 O H3 _ I3 (M aT) a3 stop) λr s4 ⟨hr,I4⟩=>?_;subst hr;obtain⟨m4,bl,_⟩:=id I4.loc;exact⟨m4,bl,λh' bm=>⟨.ref j.heap.objs.size,H3,D0 I1 Wr f1 I4 bm,rfl,q⟩⟩
  .subst N;refine ϑ (U.item (X.comp Nc scope l L.objs.size j H1 k) rfl rfl rfl hc i [] s3 O H3 _ I3 (M aT) a3 go) λr s4 ⟨u,hr,h4⟩=>?_;subst hr;refine ϑ h4 λ_ s5 ⟨x,H5,I5,r5,y5,Zi,Z4⟩=>?_;have b0:=I5.pinned (M Z4) (U.obj _ _ Zi);have V:∀{ae:St}{H7:Hp}{s7:Shared},Inv (X.comp Nc scope l L.objs.size j H1 k) ([]++u6 k s5.heap) ae H7 s7->Inv (X.comp Nc scope l L.objs.size j H1 k) [] ae H7 s7/\tn (i+1) s7.heap/\∀b∈k,H7 b=none:=λ{ae H7 s7} I7=>by
    refine⟨I7.ϯ,U.keep _ _ _ Zi λb D o e=>(I7.pin (b,o) (aW _ (aW _ (nW D e)))).1,λb D=>?_⟩;obtain⟨o,e,d⟩:=U.obj _ _ Zi b D;exact(I7.pin (b,o) (aW _ (aW _ (nW D e)))).2.1
   refine ϑ (hg _ _ _ _ _ s5 O H5 x u _ b0 r5 (step x H5 y5)) λ_ s6 ⟨G,H6,I6,q6⟩=>?_;refine CI (ht _ _ _ _ _ s6 G H6 _ I6 q6) λok s7 H7 I7 q7=>?_;cases ok with
   | false=>
     rw[ag bz]at q7 ⊢;obtain⟨m',hm,w7⟩:=q7;obtain⟨J1,J2,J3⟩:=V I7;exact⟨m',hm,i+1,ys,G,H7,J1,J2,J3,w7⟩
   | true=>
     rw[aj rfl]at q7 ⊢;refine dQ (he _ _ _ _ _ s7 G H7 _ I7 q7) λy s8 yv H8 I8 r8 ⟨cc,bd,m',hm,w8⟩=>?_;refine ϑ (fN _ s8 G H8 (.ref j.heap.objs.size) [yv] _ [y] (λv' S=>W (i+1) m' (ys++[yv]) G S) I8 rfl (.cons r8 .nil) ⟨_,ys,yv,rfl,rfl,cc,bd,w8⟩) λv9 s9 ⟨_,H9,I9,_,w9⟩=>?_;obtain⟨J1,J2,J3⟩:=V I9;exact⟨m',hm,i+1,ys++[yv],G,H9,J1,J2,J3,w9⟩
 exact codeAny_compStart_list (Z _ rfl) (U.self _ 0 _ _ _ XD (Z _ rfl))
end
section
variable{X:Cx}
def Yt:V->List V->Hp->VK->Prop:=λx b H Q=>∃(l:Addr)(a:List V)(i:Int)(y:V),x=.ref l/\b=[.int i,y]/\H l=some (.lst a)/\0<=i/\i<=a.length/\a.length<sizeLine/\Q .ω (upd H l (.lst (a.take i.toNat++y::a.drop i.toNat)))
theorem Dy:MtM X "list.insert" Yt:=by
 intro f s w H x K v J Q I o j h;obtain⟨l,B,i,y,rfl,rfl,g,E,A,D,q⟩:=h;cases o;obtain⟨C,b,rfl,⟨t,rfl⟩,p⟩:=j.two;obtain⟨z,a,n,r,k,e⟩:=I.XB g;have G:=tG;have u:Builtin.List.listFitsIndex i=true:=by
  unfold Builtin.List.listFitsIndex;rw[b9];exact⟨bh (by lia),bh (by lia)⟩
 have d:¬(!Builtin.List.listFitsIndex i)=true:=by rw[u];decide
 have c:a.toArray.size<=sizeLine:=by rw[aM,<-k];exact z
 refine call_meets iz ⟨_,e,rfl⟩ PySem.F.entry_list_insert (PySem.F.args_list_insert_3 _ _ _) (PySem.AutoSeq1.list_insert_list_int_val_1 l a.toArray n i t b d c) ⟨e,?_⟩;refine⟨.ω,_,I.Z6 (its':=a.take i.toNat++b::a.drop i.toNat) g e ?_ ((r.take i.toNat).append (.cons p (r.drop i.toNat))) ?_,rfl,q⟩
 .show(a.toArray.extract 0 (if i<0 then(i+(a.toArray.size:Int)).toNat else min i.toNat a.toArray.size)).push b++a.toArray.extract (if i<0 then(i+(a.toArray.size:Int)).toNat else min i.toNat a.toArray.size)=_;have m:(if i<0 then(i+(a.toArray.size:Int)).toNat else min i.toNat a.toArray.size)=i.toNat:=by
   rw[ag (by lia),aM]
   lia
  rw[m];exact PySem.W.kl_ins_eq a i.toNat b
 .rw[aE,aF,bq,fu]
  lia
theorem pI:iS X (binaryOp .Mult) (rI (λi j=>IntMulOk i j) λi j=>.int (i*j)):=opI λi j t u s Q E h q=>PyProof.Rows.mul_int q h
def R5(K:gg):List V->Hp->VK->Prop:=λd H Q=>∃x c t b,d=[x,c]/\As K H x t/\(∀a,RelV c a->PySem.W.kitOne K t a=some b)/\Q (.bl b) H
theorem uh:lD X (.builtin "isinstance") (R5 X.K):=by
 intro a s k H l m Q I r h;obtain⟨x,c,t,b,rfl,i,d,q⟩:=h;obtain⟨u,g,rfl,j,e⟩:=J4 r;exact Na I j i (d g e) λf=>⟨.bl b,H,I.tok f,rfl,q⟩
theorem Fq(M:X.calm=true):lD X (.builtin "all") (λw H Q=>∃(p:Addr)(c:List Bool),w=[.ref p]/\ξ X.K H p (c.map V.bl)/\Q (.bl (c.all id)) H):=by
 intro C s T H w Y Q I r h;obtain⟨p,c,rfl,N,q⟩:=h;obtain⟨u,rfl,l⟩:=qY r;cases l;obtain⟨a,m,y,W⟩:=I.list N;have n:=y.isList;have S:=y.lt;have D:X.A.in1.handled=none:=I.ok.hd M;have d:a.length=c.length:=by rw[<-m.length,aa]
 refine call_all_walk (iK n ?_);refine⟨s.heap.objs.size,[s.heap.objs.size,p],[s.heap.objs.size],a.toArray.size,_,_,λi=>(c[i]?).getD true,rfl,Walks.list (A:=X.A.in1) D _ p (aV S) a.toArray,⟨⟨_,bf _ rfl,rfl,rfl⟩,n.push _⟩,λi v P O U G j=>?_,λJ R E=>?_⟩
 .have f:a[i]?=some v:=by simpa using G
  have g:i<c.length:=by rw[<-d];exact(az.mp f).1
  obtain⟨u,B,l⟩:=m.get (i:=i) (x:=V.bl c[i]) (by rw[aA,ao g];rfl);rw[f]at B;cases B;cases l;replace j:O (c[i]?.getD true) P:=j;rw[ao g]at j;exact cP j
 .have e:((List.range a.toArray.size).all λi=>(c[i]?).getD true)=c.all id:=by
   rw[aM,d];rw[dU,dX,dX]
   constructor
   .intro z b hb;obtain⟨i,f,rfl⟩:=jQ hb;have:=z i (bU.mpr f);rw[ao f]at this;exact this
   .intro z i f;have t:=bU.mp f;rw[ao t];exact z _ (dj t)
  have F:∀b o,s.heap.get? b=some o->J.get? b=some o:=λb o k=>E b o (λL=>by rw[aI.mp L]at k;exact cW _ (aH k)) (ar _ k);rw[e];exact⟨.bl _,H,I.kept (t':=R) F,rfl,q⟩
end
mutual
inductive BV(K:gg)(H:Hp):V->PyData->Prop
 | ω:BV K H .ω .none
 | bl (b:Bool):BV K H (.bl b) (.bool b)
 | int (i:Int):BV K H (.int i) (.int i)
 | str {x:Str}:PyData.canLay0 (.str x)=true->BV K H (.str x) (.str x)
 | lst {a:Addr} {xs:List V} {ds:List PyData}:ξ K H a xs->Ω K H xs ds->BV K H (.ref a) (.list ds)
 | tup {a:Addr} {xs:List V} {ds:List PyData}:Ξ K H a xs->Ω K H xs ds->BV K H (.ref a) (.tuple ds)
inductive Ω(K:gg)(H:Hp):List V->List PyData->Prop
 | nil:Ω K H [] []
 | cons {x:V} {d:PyData} {xs:List V} {ds:List PyData}:BV K H x d->Ω K H xs ds->Ω K H (x::xs) (d::ds)
end
mutual
theorem BV.reads{X:Cx}{f:gn}{p:St}{H:Hp}{s:Shared}(I:Inv X f p H s):∀{x:V}{d:PyData}{u:Value},BV X.K H x d->RelV x u->(∃as,Reads s.heap u d as)/\d.canLay0=true
 | _,_,_,.ω,r=>by cases(show _=Value.none from r);exact⟨⟨_,.none⟩,by simp[PyData.canLay0]⟩
 | _,_,_,.bl b,r=>by cases(show _=Value.bool b from r);exact⟨⟨_,.bool b⟩,by simp[PyData.canLay0]⟩
 | _,_,_,.int i,r=>by obtain⟨t,e⟩:=(show ∃t,_=Value.int i t from r);cases e;exact⟨⟨_,.int i t⟩,by simp[PyData.canLay0]⟩
 | _,_,_,.str (x:=x) h,r=>by obtain⟨t,e⟩:=(show ∃t,_=Value.str x t from r);cases e;exact⟨⟨_,.str x t⟩,h⟩
 | _,_,_,.lst (a:=a) h hs,r=>by
   cases(show _=Value.ref a from r);obtain⟨m,g,⟨o,n,e,c,_,k⟩,q⟩:=I.list h;obtain⟨⟨as,l⟩,j⟩:=Ω.reads I hs g;exact⟨⟨_,.list e c k (by simpa using l)⟩,by simpa[PyData.canLay0]using j⟩
 | _,_,_,.tup (a:=a) h hs,r=>by
   cases(show _=Value.ref a from r);obtain⟨m,g,⟨o,e,c,n,k⟩,q⟩:=I.tuple h;obtain⟨⟨as,l⟩,j⟩:=Ω.reads I hs g;exact⟨⟨_,.tuple e c k (by simpa using l)⟩,by simpa[PyData.canLay0]using j⟩
theorem Ω.reads{X:Cx}{a:gn}{e:St}{H:Hp}{s:Shared}(I:Inv X a e H s):∀{d:List V}{b:List PyData}{c:gy},Ω X.K H d b->Vals d c->(∃as,ReadsAll s.heap c b as)/\PyData.canLayAll0 b=true
 | _,_,_,.nil,.nil=>⟨⟨_,.nil⟩,by simp[PyData.canLayAll0]⟩
 | _,_,_,.cons h hs,.cons r rs=>by
   obtain⟨⟨as,j⟩,f⟩:=BV.reads I h r;obtain⟨⟨k,g⟩,i⟩:=Ω.reads I hs rs;exact⟨⟨_,.cons j g⟩,by simp[PyData.canLayAll0,f,i]⟩
end
section
variable{X:Cx}
def Nz(K:gg):R2:=λx y H Q=>∃d e,BV K H x d/\BV K H y e/\d.depth<=40/\Q (.bl (!PyData.eqv d e)) H
theorem MF(m:X.A.units+64<cLine):iS X (compareOp .NotEq) (Nz X.K):=by
 intro a s l H x y v u Q I i f h;obtain⟨d,e,k,b,n,q⟩:=h;obtain⟨⟨as,g⟩,j⟩:=k.reads I i;obtain⟨⟨o,c⟩,cb⟩:=b.reads I f;exact PySem.SeqAt.compareNe_reads g c j cb (by lia) ⟨.bl _,H,I,rfl,q⟩
end
structure Ge(P:Program)(w:World)(l:Addr)(ob:Obj)(src:Heap->Array Value->Prop)(at':Addr->Nat->Heap->Prop):Prop where
 start:∀(A:Around)(s:Shared)(vs:Array Value)(Q:gf)(E:gf),src s.heap vs->Q (.ref s.heap.objs.size) { s with heap:=s.heap.push ob }->wpAny (model P w) A (pyIter (.ref l)) Q E s
 first:∀it h,h.get? it=some ob->at' it 0 h
 atK:∀it i h h',at' it i h->(∀o,h.get? it=some o->h'.get? it=some o)->at' it i h'
 Xg:∀h h' vs,src h vs->(∀o,h.get? l=some o->h'.get? l=some o)->src h' vs
 obj:∀it i h,at' it i h->∃o,h.get? it=some o/\∀v,o.data≠.cell v
 item:∀(A:Around)(s:Shared)(it:Addr)(i:Nat)(vs:Array Value)(x:Value)(Q:gf)(E:gf),at' it i s.heap->src s.heap vs->vs[i]?=some x->(∀h',at' it (i+1) h'->Heap.SameBut it s.heap h'->Q x { s with heap:=h' })->wpAny (model P w) A (Builtin.SmallTypes.nextOf (.ref it)) Q E s
 fin:∀(A:Around)(s:Shared)(it:Addr)(i:Nat)(vs:Array Value)(Q:gf)(E:gf),A.handled=none->at' it i s.heap->src s.heap vs->vs[i]?=none->(∀h' e,Heap.ExtBut it s.heap h'->(∃o,h'.get? e=some o/\o.cls=.type "StopIteration")->E (.ref e) { s with heap:=h' })->wpAny (model P w) A (Builtin.SmallTypes.nextOf (.ref it)) Q E s
theorem MR{P:Program}{w:World}(l:Addr):Ge P w l { cls:=.type "list_iterator",data:=.fields #[.ref l,.int 0 0] } (λh c=>h.IsList l c) (λa i h=>h.IsListIter a l i) where
 start:=λA s c Q E m b=>iK m b
 first:=λa h e=>⟨_,e,rfl,rfl⟩
 atK:=λa i h n x k=>x.at k
 Xg:=λh n c x k=>x.at k
 obj:=λa i h x=>by
  obtain⟨o,p,_,hd⟩:=x;exact⟨o,p,λv z=>by rw[hd]at z;cases z⟩
 item:=λA s a i c x Q E d f g b=>wpAny_nextOf_list_item d f g b
 fin:=λA s a i c Q E j d f g b=>wpAny_nextOf_list_end j d f g b
section
variable{P:Program}{w:World}{A:Around}{E:gf}{s:Shared}
theorem yd{c t:Addr}{i:Nat}{j:Array Value}{x:Value}{Q:gf}(h:s.heap.IsTupleIter c t i)(m:s.heap.IsTuple t j)(l:j[i]?=some x)(k:∀e,e.IsTupleIter c t (i+1)->Heap.SameBut c s.heap e->Q x { s with heap:=e }):wpAny (model P w) A (Builtin.SmallTypes.nextOf (.ref c)) Q E s:=by
 obtain⟨o,b,d,a⟩:=id h;obtain⟨p,g,_,n,f⟩:=m;unfold Builtin.SmallTypes.nextOf;refine ak (wpAny_callSpecial?_slot (name:=Str.ofString "__next__") h.typeIs f6 (gP f6 h.typeIs kh ?_ (jT _)));show wpAny (model P w) _ (field (.ref c) 0>>=_) _ _ s;refine ak (cD b a (x:=.ref t) rfl ?_);show wpAny (model P w) _ (if(Value.ref t==Value.none)=true then _ else _) _ _ s;rw[ag (by exact bz)];show wpAny (model P w) _ (field (.ref c) 1>>=_) _ _ s;refine ak (cD b a (x:=.int i 0) rfl ?_);show wpAny (model P w) _ (seqItems? (.ref t)>>=_) _ _ s;refine ak (d4 g f ?_);simp only[bJ,l];refine ak (im b a (by simp) (ba ⟨x,rfl,ba (k _ ?_ (Heap.SameBut.update ..))⟩));exact⟨_,eZ _ b (gN (eM a _)),(Obj.cls_mapFields ..).trans d,by rw[eM a];simp[rawInt]⟩
theorem zY{d t:Addr}{i:Nat}{l:Array Value}{Q:gf}(k:A.handled=none)(j:s.heap.IsTupleIter d t i)(r:s.heap.IsTuple t l)(q:l[i]?=none)(p:∀f e,Heap.ExtBut d s.heap f->(∃o,f.get? e=some o/\o.cls=.type "StopIteration")->E (.ref e) { s with heap:=f }):wpAny (model P w) A (Builtin.SmallTypes.nextOf (.ref d)) Q E s:=by
 obtain⟨v,c,n,b⟩:=id j;obtain⟨y,h,_,u,g⟩:=r;unfold Builtin.SmallTypes.nextOf;refine ak (wpAny_callSpecial?_slot (name:=Str.ofString "__next__") j.typeIs f6 (gP f6 j.typeIs kh ?_ (jT _)));show wpAny (model P w) _ (field (.ref d) 0>>=_) _ _ s;refine ak (cD c b (x:=.ref t) rfl ?_);show wpAny (model P w) _ (if(Value.ref t==Value.none)=true then _ else _) _ _ s;rw[ag (by exact bz)];show wpAny (model P w) _ (field (.ref d) 1>>=_) _ _ s;refine ak (cD c b (x:=.int i 0) rfl ?_);show wpAny (model P w) _ (seqItems? (.ref t)>>=_) _ _ s;refine ak (d4 h g ?_);simp only[bJ,q];refine ak (wpAny_rule (ak (im c b (by simp) ?_)));show wpAny (model P w) _ (newExc (.type "StopIteration") []>>=_) _ _ _;refine ak ?_;simp only[newExc,newTuple];refine ak (gJ ?_ (by size_fits));refine ak (m:=firstArgMember _ _) (wpAny_of_eq (a:=Value.none) (by first|rfl|(simp only[firstArgMember];rfl)) ?_);refine gJ ?_ (by size_fits);simp only[raiseNew];refine ak (wpAny_handled ?_)
 first|rw[show A.in1.handled=none from k]|rw[k]
 refine ak (ba (wpAny_throw ?_));exact p _ _ (((Heap.SameBut.update ..).extBut.push _).push _) ⟨_,bf _ rfl,rfl⟩
end
theorem Ob{P:Program}{w:World}(l:Addr):Ge P w l { cls:=.type "tuple_iterator",data:=.fields #[.ref l,.int 0 0] } (λh d=>h.IsTuple l d) (λa i h=>h.IsTupleIter a l i) where
 start:=λA s d Q E n c=>kb n c
 first:=λa h e=>⟨_,e,rfl,rfl⟩
 atK:=λa i h p x k=>let ⟨o,b,r⟩:=x;⟨o,k o b,r⟩
 Xg:=λh p d x k=>let ⟨o,b,r⟩:=x;⟨o,k o b,r⟩
 obj:=λa i h x=>by
  obtain⟨o,b,_,hd⟩:=x;exact⟨o,b,λv z=>by rw[hd]at z;cases z⟩
 item:=λA s a i d x Q E f g j c=>yd f g j c
 fin:=λA s a i d Q E m f g j c=>zY m f g j c
structure ZAp(z TI TO i1 i2 l1 l2:Addr):Prop where
 a1:TI≠z
 a2:TO≠z
 a3:i1≠z
 a4:i2≠z
 a5:TI≠TO
 a6:TI≠i1
 a7:TI≠i2
 a8:TO≠i1
 a9:TO≠i2
 a0:i1≠i2
 b1:l1≠z/\l1≠TO/\l1≠i1/\l1≠i2
 b2:l2≠z/\l2≠TO/\l2≠i1/\l2≠i2
section
variable{P:Program}{w:World}{A:Around}{E:gf}{s:Shared}{p l:Addr}{f i:Obj}{m k:Heap->Array Value->Prop}{n j:Addr->Nat->Heap->Prop}
theorem Fz(J:Ge P w p f m n)(G:Ge P w l i k j){z TI TO h g:Addr}{M L:Nat}{T ys:Array Value}{x y a b:Value}{Q:gf}(D:ZAp z TI TO h g p l)(I:IsZip s.heap z TI TO .none)(HI:IsPair s.heap TI (.ref h) (.ref g))(ad:IsPair s.heap TO a b)(p1:n h M s.heap)(p2:j g L s.heap)(q1:m s.heap T)(q2:k s.heap ys)(hx:T[M]?=some x)(hy:ys[L]?=some y)(hQ:∀q,IsZip q z TI TO (rawInt s.heap.objs.size)->IsPair q TO x y->n h (M+1) q->j g (L+1) q->IsPair q s.heap.objs.size x y->q.objs.size=s.heap.objs.size+1->(∀c o,c≠z->c≠TO->c≠h->c≠g->s.heap.get? c=some o->q.get? c=some o)->Q (.ref s.heap.objs.size) { s with heap:=q }):wpAny (model P w) A (Builtin.«zip.__next__» ⟨[.ref z],[]⟩) (λfn s'=>∃v,fn=.done (.ret v)/\Q v s') E s:=by
 show wpAny (model P w) _ (field (.ref z) 2>>=_) _ _ _;refine ak (cD I rfl (x:=.bool false) rfl ?_);show wpAny (model P w) _ (field (.ref z) 3>>=_) _ _ _;refine ak (cD I rfl (x:=.ref TI) rfl ?_);refine ak (d4 HI rfl ?_);show wpAny (model P w) _ (Builtin.SmallTypes.ownedTupleIsFree (.ref z)>>=_) _ _ _;refine ak ?_;unfold Builtin.SmallTypes.ownedTupleIsFree;refine ak (cD I rfl (x:=.none) rfl (ba ?_));simp only[if_true];refine ak (wpAny_rule ?_);refine ak (cD I rfl (x:=.ref TO) rfl ?_);refine ak (fI I (by simp) λg1 z1 t=>?_);replace z1:IsZip g1 z TI TO .ellipsis:=z1;refine ak ?_;simp only[List.zipIdx_cons,List.zipIdx_nil,lY,List.forIn_nil];refine ak (ak (jX ?_));show wpAny (model P w) _ (Builtin.SmallTypes.nextOf (.ref h)>>=_) _ _ _;refine ak (J.item _ { s with heap:=g1 } h M T x _ _ (J.atK _ _ _ _ p1 λo e=>t.extBut _ _ D.a3 e) (J.Xg _ _ _ q1 λo e=>t.extBut _ _ D.b1.1 e) hx λg2 X B=>ba ?_);have o2:IsPair g2 TO a b:=B.extBut _ _ D.a8 (t.extBut _ _ D.a2 ad);refine ak (d4 o2 rfl ?_);refine ak (ju o2 λg3 o3 u=>?_);replace o3:IsPair g3 TO x b:=o3;refine ak (lH (ba ?_));refine ak (ak (jX ?_));show wpAny (model P w) _ (Builtin.SmallTypes.nextOf (.ref g)>>=_) _ _ _;refine ak (G.item _ { s with heap:=g3 } g L ys y _ _ (G.atK _ _ _ _ p2 λo e=>u.extBut _ _ D.a9.symm (B.extBut _ _ D.a0.symm (t.extBut _ _ D.a4 e))) (G.Xg _ _ _ q2 λo e=>u.extBut _ _ D.b2.2.1 (B.extBut _ _ D.b2.2.2.1 (t.extBut _ _ D.b2.1 e))) hy λg4 ae C=>ba ?_);have o4:IsPair g4 TO x b:=C.extBut _ _ D.a9 o3;refine ak (d4 o4 rfl ?_);refine ak (ju o4 λd R K=>?_);replace R:IsPair d TO x y:=R;refine ak (lH (ba (ba ?_)));refine ak (d4 R rfl ?_);refine ak (wpAny_newTuple ?_);have sz:d.objs.size=s.heap.objs.size:=by rw[K.1,C.1,u.1,B.1,t.1]
 have z5:IsZip d z TI TO .ellipsis:=K.extBut _ _ D.a2.symm (C.extBut _ _ D.a4.symm (u.extBut _ _ D.a2.symm (B.extBut _ _ D.a3.symm z1)));have k5:∀c o,c≠z->c≠TO->c≠h->c≠g->s.heap.get? c=some o->d.get? c=some o:=λc o r O W V e=>
  K.extBut _ _ O (C.extBut _ _ V (u.extBut _ _ O (B.extBut _ _ W (t.extBut _ _ r e))))
 have U:n h (M+1) d:=J.atK _ _ _ _ X λo e=>K.extBut _ _ D.a8.symm (C.extBut _ _ D.a0 (u.extBut _ _ D.a8.symm e));have af:j g (L+1) d:=G.atK _ _ _ _ ae λo e=>K.extBut _ _ D.a9.symm e;have H:z<d.objs.size:=aH z5;show wpAny (model P w) _ (Builtin.SmallTypes.ownedTupleHandOut (.ref z) (.ref d.objs.size)>>=_) _ _ _;refine ak ?_;unfold Builtin.SmallTypes.ownedTupleHandOut;have z6:IsZip (d.push { cls:=.type "tuple",data:=.seq #[x,y] }) z TI TO .ellipsis:=ar _ z5;refine ak (fI z6 (by simp) λg7 Y Z=>?_);replace Y:IsZip g7 z TI TO (rawInt d.objs.size):=Y;refine fI Y (by simp) λF N S=>?_;replace N:IsZip F z TI TO (rawInt d.objs.size):=N;have up:∀c o,c≠z->d.get? c=some o->F.get? c=some o:=λc o r e=>S.extBut _ _ r (Z.extBut _ _ r (ar _ e));have t8:IsPair F d.objs.size x y:=S.extBut _ _ (eW H) (Z.extBut _ _ (eW H) (bf _ rfl));have s8:F.objs.size=d.objs.size+1:=by rw[S.1,Z.1,df]
 rw[sz]at N t8 s8;refine ba ⟨_,rfl,?_⟩;show Q (.ref d.objs.size) _;rw[sz];exact hQ F N (up _ _ D.a2 R) (J.atK _ _ _ _ U λo e=>up _ o D.a3 e) (G.atK _ _ _ _ af λo e=>up _ o D.a4 e) t8 s8 λc o r O W V e=>up c o r (k5 c o r O W V e)
theorem HA(K:Ge P w p f m n)(S:Ge P w l i k j){z TI TO q B:Addr}{C M:Nat}{y L:Array Value}{a b:Value}{Q:Fin->Shared->Prop}(hh:A.handled=none)(D:ZAp z TI TO q B p l)(H:IsZip s.heap z TI TO .none)(HI:IsPair s.heap TI (.ref q) (.ref B))(Y:IsPair s.heap TO a b)(p1:n q C s.heap)(p2:j B M s.heap)(q1:m s.heap y)(q2:k s.heap L)(V:y[C]?=none\/L[M]?=none)(hE:∀T e,(∀c o,c≠z->c≠TO->c≠q->c≠B->s.heap.get? c=some o->T.get? c=some o)->(∃o,T.get? e=some o/\o.cls=.type "StopIteration")->E (.ref e) { s with heap:=T }):wpAny (model P w) A (Builtin.«zip.__next__» ⟨[.ref z],[]⟩) Q E s:=by
 show wpAny (model P w) _ (field (.ref z) 2>>=_) _ _ _;refine ak (cD H rfl (x:=.bool false) rfl ?_);show wpAny (model P w) _ (field (.ref z) 3>>=_) _ _ _;refine ak (cD H rfl (x:=.ref TI) rfl ?_);refine ak (d4 HI rfl ?_);show wpAny (model P w) _ (Builtin.SmallTypes.ownedTupleIsFree (.ref z)>>=_) _ _ _;refine ak ?_;unfold Builtin.SmallTypes.ownedTupleIsFree;refine ak (cD H rfl (x:=.none) rfl (ba ?_));simp only[if_true];refine ak (wpAny_rule ?_);refine ak (cD H rfl (x:=.ref TO) rfl ?_);refine ak (fI H (by simp) λJ N v=>?_);replace N:IsZip J z TI TO .ellipsis:=N;refine ak ?_;simp only[List.zipIdx_cons,List.zipIdx_nil,lY,List.forIn_nil];refine ak (ak (jX ?_));show wpAny (model P w) _ (Builtin.SmallTypes.nextOf (.ref q)>>=_) _ _ _;have G:n q C J:=K.atK _ _ _ _ p1 λo e=>v.extBut _ _ D.a3 e;have F:m J y:=K.Xg _ _ _ q1 λo e=>v.extBut _ _ D.b1.1 e;cases hx:y[C]? with
 | none=>
   refine ak (K.fin _ { s with heap:=J } q C y _ _ hh G F hx λW e r O=>?_);obtain⟨Z,d,g⟩:=O;have z2:IsZip W z TI TO .ellipsis:=r _ _ D.a3.symm N;have X:e≠z:=λt=>by subst t;rw[z2]at d;cases d;simp at g
   refine fI z2 (by simp) λR _ u=>hE R e (λc o I _ U _ t=>u.extBut _ _ I (r _ _ U (v.extBut _ _ I t))) ⟨Z,u.extBut _ _ X d,g⟩
 | some x=>
   have hy:L[M]?=none:=by
    rcases V with h|h
    .rw[hx]at h;cases h
    .exact h
   refine ak (K.item _ { s with heap:=J } q C y x _ _ G F hx λW aC r=>ba ?_);have o2:IsPair W TO a b:=r.extBut _ _ D.a8 (v.extBut _ _ D.a2 Y);refine ak (d4 o2 rfl ?_);refine ak (ju o2 λR o3 u=>?_);refine ak (lH (ba ?_));refine ak (ak (jX ?_));show wpAny (model P w) _ (Builtin.SmallTypes.nextOf (.ref B)>>=_) _ _ _;refine ak (S.fin _ { s with heap:=R } B M L _ _ hh (S.atK _ _ _ _ p2 λo e=>u.extBut _ _ D.a9.symm (r.extBut _ _ D.a0.symm (v.extBut _ _ D.a4 e))) (S.Xg _ _ _ q2 λo e=>u.extBut _ _ D.b2.2.1 (r.extBut _ _ D.b2.2.2.1 (v.extBut _ _ D.b2.1 e))) hy λg4 e e4 O=>?_);obtain⟨Z,d,g⟩:=O;have z4:IsZip g4 z TI TO .ellipsis:=e4 _ _ D.a4.symm (u.extBut _ _ D.a2.symm (r.extBut _ _ D.a3.symm N));have X:e≠z:=λt=>by subst t;rw[z4]at d;cases d;simp at g
   refine fI z4 (by simp) λg5 _ e5=>hE g5 e (λc o I c2 U c4 t=>e5.extBut _ _ I (e4 _ _ c4 (u.extBut _ _ c2 (r.extBut _ _ U (v.extBut _ _ I t))))) ⟨Z,e5.extBut _ _ X d,g⟩
abbrev zp1(h:Heap)(f i:Obj):Heap:=(h.push f).push i
abbrev zp2(h:Heap)(f i:Obj):Heap:=(zp1 h f i).push { cls:=.type "tuple",data:=.seq #[.ref h.objs.size,.ref (h.push f).objs.size] }
abbrev zp3(h:Heap)(f i:Obj):Heap:=(zp2 h f i).push { cls:=.type "tuple",data:=.seq #[.none,.none] }
abbrev zp4(h:Heap)(f i:Obj):Heap:=(zp3 h f i).push { cls:=.type "zip",data:=.fields #[.none,.bool false,.bool false,.ref (zp1 h f i).objs.size,.ref (zp2 h f i).objs.size] }
theorem Ez(B:∀P w,Ge P w p f m n)(c:∀P w,Ge P w l i k j)(ne:∀h D,k h D->∃o,h.get? l=some o)(q v:Array Value):Meets (Builtin.«zip.__new__» ⟨[.type "zip",.ref p,.ref l],[]⟩) (λ_ R s=>m s.heap q/\k s.heap v/\R (.ok (.ret (.ref (zp3 s.heap f i).objs.size))) { s with heap:=zp4 s.heap f i }):=.of_wp λa w A R s b=>by
 obtain⟨t,g,d,u,os⟩:=s;obtain⟨F,C,r⟩:=b;have z:=sub_zip;have x:m (Shared.heap ⟨t,g,d,u,os⟩) q:=F;have y:k (Shared.heap ⟨t.push f,g,d,u,os⟩) v:=(c a w).Xg _ _ _ C λo e=>ar _ e
 wp_walk using ((B a w).start _ _ _ _ _ x),((c a w).start _ _ _ _ _ y)
 exact⟨_,rfl,r⟩
theorem Pu(B:∀P w,Ge P w p f m n)(t:∀P w,Ge P w l i k j)(ne:∀h J,k h J->∃o,h.get? l=some o){u C:Array Value}{Q:gf}(K:m s.heap u)(I:k s.heap C)(h:∀a,IsZip a (s.heap.objs.size+4) (s.heap.objs.size+2) (s.heap.objs.size+3) .none->IsPair a (s.heap.objs.size+2) (.ref s.heap.objs.size) (.ref (s.heap.objs.size+1))->IsPair a (s.heap.objs.size+3) .none .none->n s.heap.objs.size 0 a->j (s.heap.objs.size+1) 0 a->(∀c o,s.heap.get? c=some o->a.get? c=some o)->Q (.ref (s.heap.objs.size+4)) { s with heap:=a })(H:f.isFreed=false)(G:i.isFreed=false):wpAny (model P w) A (call (.type "zip") [.ref p,.ref l]) Q E s:=by
 refine callType_new F.called_zip (by decide) (F.typeCall_zip_2 _ _) (F.newCall_zip_2 _ _) (λb=>F.args_object_init_3 b _ _) F.entry_zip_new (Ez B t ne u C) ⟨K,I,?_⟩;have r:(s.heap.push f).objs.size=s.heap.objs.size+1:=df ..;have g:(zp1 s.heap f i).objs.size=s.heap.objs.size+2:=by rw[df,r]
 have d:(zp2 s.heap f i).objs.size=s.heap.objs.size+3:=by rw[df,g]
 have v:(zp3 s.heap f i).objs.size=s.heap.objs.size+4:=by rw[df,d]
 have q:(zp4 s.heap f i).get? (zp3 s.heap f i).objs.size=some _:=bf _ rfl;have x:(zp4 s.heap f i).get? (zp2 s.heap f i).objs.size=some _:=ar _ (bf _ rfl);have z:(zp4 s.heap f i).get? (zp1 s.heap f i).objs.size=some _:=ar _ (ar _ (bf _ rfl));have y:(zp4 s.heap f i).get? (s.heap.push f).objs.size=some i:=ar _ (ar _ (ar _ (bf _ G)));have D:(zp4 s.heap f i).get? s.heap.objs.size=some f:=ar _ (ar _ (ar _ (ar _ (bf _ H))));show _/\_;rw[g,d,v]at q;rw[r,g]at z;rw[d]at x;rw[r]at y;rw[v];exact⟨⟨_,q,rfl⟩,h _ q z x ((B P w).first _ _ D) ((t P w).first _ _ y) λc o e=>ar _ (ar _ (ar _ (ar _ (ar _ e))))⟩
end
def Ϫ(K:gg):Bool->Hp->Addr->List V->Prop
 | true,H,a,xs=>ξ K H a xs
 | false,H,a,xs=>Ξ K H a xs
def Itz(K:gg)(c d:Bool)(a b:Addr):It:=⟨λi H=>∃e f x y,Ϫ K c H a e/\Ϫ K d H b f/\e[i]?=some x/\f[i]?=some y,λi H v g=>∃p x y,H p=none/\v=.ref p/\g=upd H p (.tup [x,y])/\(∀e,Ϫ K c H a e->e[i]?=some x)/\∀f,Ϫ K d H b f->f[i]?=some y,λi H=>∃e f,Ϫ K c H a e/\Ϫ K d H b f/\(e.length<=i\/f.length<=i)⟩
def U8(a:Addr):Bool->Obj
 | true=>{ cls:=.type "list_iterator",data:=.fields #[.ref a,.int 0 0] }
 | false=>{ cls:=.type "tuple_iterator",data:=.fields #[.ref a,.int 0 0] }
def JN(a:Addr):Bool->Heap->Array Value->Prop
 | true,h,vs=>h.IsList a vs
 | false,h,vs=>h.IsTuple a vs
def zAt(a:Addr):Bool->Addr->Nat->Heap->Prop
 | true,it,i,h=>h.IsListIter it a i
 | false,it,i,h=>h.IsTupleIter it a i
theorem j0(a:Addr)(c:Bool)(P:Program)(w:World):Ge P w a (U8 a c) (JN a c) (zAt a c):=by
 cases c
 .exact Ob a
 .exact MR a
theorem wZ(a:Addr)(c:Bool):(U8 a c).isFreed=false:=by cases c<;>rfl
theorem rY(a:Addr)(c:Bool)(h:Heap)(b:Array Value)(e:JN a c h b):∃o,h.get? a=some o:=by
 cases c
 .obtain⟨o,ho,_⟩:=e;exact⟨o,ho⟩
 .obtain⟨o,ho,_⟩:=e;exact⟨o,ho⟩
theorem Inv.WZ{X:Cx}{d:gn}{f:St}{H:Hp}{s:Shared}{c:Bool}{a:Addr}{e:List V}(I:Inv X d f H s)(h:Ϫ X.K c H a e):∃b:List Value,Vals e b/\JN a c s.heap b.toArray:=by
 cases c with
 | true=>
   obtain⟨b,r,g,_⟩:=I.list h;exact⟨b,r,g.isList⟩
 | false=>
   obtain⟨b,r,⟨o,i,j,n,k⟩,_⟩:=I.tuple h;exact⟨b,r,⟨o,i,j,n,k⟩⟩
theorem Inv.Xh{X:Cx}{b:gn}{g:St}{H:Hp}{s:Shared}{c:Bool}{a:Addr}{e f:List V}(I:Inv X b g H s)(h:Ϫ X.K c H a e)(d:Ϫ X.K c H a f):e=f:=by
 cases c with
 | true=>exact I.iO h d
 | false=>exact I.WX h d
theorem O3{P:Program}{w:World}{K:gg}{Y:List Expr}{x1}{Wf:Pos}(c d:Bool)(a b z TI TO i1 i2:Addr)(D:ZAp z TI TO i1 i2 a b):Turn P w K (.Tuple Y x1 Wf) (Itz K c d a b) [z,TI,TO,i1,i2] z (λi h=>IsZip h z TI TO .none/\IsPair h TI (.ref i1) (.ref i2)/\(∃u v,IsPair h TO u v)/\zAt a c i1 i h/\zAt b d i2 i h) where
 mem:=by simp
 obj:=λi h t e he=>by
  obtain⟨t1,J,⟨u,v,M⟩,N,L⟩:=t;simp only[ax,dL,or_false]at he;rcases he with rfl|rfl|rfl|rfl|rfl
  .exact⟨_,t1,λv z=>by cases z⟩
  .exact⟨_,J,λv z=>by cases z⟩
  .exact⟨_,M,λv z=>by cases z⟩
  .exact(j0 a c P w).obj _ _ _ N
  .exact(j0 b d P w).obj _ _ _ L
 keep:=λi h h' t k=>by
  obtain⟨t1,J,⟨u,v,M⟩,N,L⟩:=t;exact⟨k z (by simp) _ t1,k TI (by simp) _ J,⟨u,v,k TO (by simp) _ M⟩,(j0 a c P w).atK _ _ _ _ N λo e=>k i1 (by simp) o e,(j0 b d P w).atK _ _ _ _ L λo e=>k i2 (by simp) o e⟩
 item:=λX e1 e2 e3 hc i C s σ H E I f t g=>by
  subst e1 e2 e3;obtain⟨t1,J,⟨u,v,M⟩,N,L⟩:=t;obtain⟨xs,ys,x,y,s1,s2,hx,hy⟩:=g;obtain⟨us,r1,q1⟩:=I.WZ s1;obtain⟨vs,r2,q2⟩:=I.WZ s2;obtain⟨xu,al,rx⟩:=r1.get hx;obtain⟨yu,am,ry⟩:=r2.get hy;have hT:s.TypeIs (.ref z) "zip":=⟨_,t1,rfl⟩;unfold pyNext;refine ak (wpAny_attempt (wpAny_callSpecial?_slot (name:=Str.ofString "__next__") hT jF (gP jF hT F.entry_zip_next
   (Fz (j0 a c _ _) (j0 b d _ _) D t1 J M N L q1 q2 (x:=xu) (y:=yu) (by simpa using al) (by simpa using am) λh' w1 w2 w3 w4 w5 w6 w7=>ba ?_) (F.args_zip_next_1 _))))
  refine⟨_,rfl,wpAny_letOwnedTupleGo_zip w1 λV n1 S=>?_⟩;have G:∀q∈[z,TI,TO,i1,i2],ph X C H q:=f;have bs:s.heap.objs.size≠z:=eW (aH t1);have a0:IsPair V s.heap.objs.size xu yu:=S.extBut _ _ bs w5;have kp:∀q o,q∉[z,TI,TO,i1,i2]->s.heap.get? q=some o->V.get? q=some o:=λq o j e=>by
   simp only[ax,dL,or_false,not_or]at j;exact S.extBut _ _ j.1 (w7 q o j.1 j.2.2.1 j.2.2.2.1 j.2.2.2.2 e)
  have bv:V.get? TI=some _:=S.extBut _ _ D.a1 (w7 TI _ D.a1 D.a5 D.a6 D.a7 J);have Z:∀q u,H q=some u->q∉[z,TI,TO,i1,i2]:=λq u e j=>by rw[(G q j).1]at e;cases e
  have B:Inv X C σ H { s with heap:=V }:=by
   refine I.step (g':=s.gens) (d':=s.drawn) (t':=s.toks) (ch:=[z,TI,TO,i1,i2]) (λq j=>⟨(G q j).2.2.2.1,(G q j).2.1,(G q j).2.2.2.2.1,(G q j).2.2.2.2.2⟩) (λq o _ _ j e _=>kp q o j e) (λq o _ _ j e _=>⟨o.slots,kp q o j e⟩) (λ_ _ _ _ n=>n)
    (λq o j e=>⟨o,kp q o j e⟩) (λ_ _ e=>e) (λ_ _ _ e=>e) (λq ps e=>⟨#[],by rw[e];simp⟩) (λm hm=>?_) (λq u e=>?_) I.bare
   .obtain⟨o,es,ep,O,r⟩:=hm;exact⟨o,es,ep,kp _ o (λj=>(G _ j).2.1 rfl) O,r⟩
   .refine(I.ψ q u e).iF (λU v Wo l=>kp U v ?_ l) (λ_ l=>l) λ_ _ l=>l;rcases Wo with rfl|Wo
    .exact Z _ u e
    .exact Z _ _ Wo
  have R:H s.heap.objs.size=none:=I.fresh;have I3:Inv X C σ (upd H s.heap.objs.size (.tup [x,y])) { s with heap:=V }:=by
   refine⟨B.ok,B.os,B.bare,?_,B.loc,B.cell,?_,λn c e=>?_,λp hp=>?_,λq u e=>?_,B.len⟩
   .refine⟨B.base.keep,B.base.slot,λq o e n hx=>?_,B.base.there,λq xs e=>?_,λq o u e=>?_,λq ps e=>?_⟩
    .have lt:q<X.s₀.heap.objs.size:=aH e;rw[aR (aV (aZ lt I.sz))];exact B.base.free q o e n hx
    .have l:=B.base.oR q xs e;rw[aR (λz=>by rw[z,R]at l;cases l)];exact l
    .have l:=B.base.iN q o u e;rw[aR (λz=>by rw[z,R]at l;cases l)];exact l
    .obtain⟨more,l⟩:=B.base.rW q ps e;exact⟨more,by rw[aR (λz=>by rw[z,R]at l;cases l)];exact l⟩
   .rw[aR (aV I.lt)];exact B.free
   .obtain⟨vv,o,O,_⟩:=I.cell n c e;rw[aR (aV (aH O))];exact B.Ϟ n c e
   .obtain⟨k1,k2,k3⟩:=I.pin p hp;rw[aR (aV (aH k1))];exact B.pin p hp
   .by_cases j:q=s.heap.objs.size
    .subst j;rw[ay]at e;cases e;exact⟨by show 2<=sizeLine;decide,[xu,yu],.cons rx (.cons ry .nil),_,a0,rfl,_,rfl⟩
    .rw[aR j]at e;refine(B.ψ q u e).iF (λ_ _ _ l=>l) (λU l=>?_) λU xs l=>?_
     .rw[aR (λz=>by rw[z,R]at l;cases l)];exact l
     .rw[aR (λz=>by rw[z,R]at l;cases l)];exact l
  refine⟨.ref s.heap.objs.size,_,I3,rfl,⟨_,x,y,R,rfl,rfl,λco q=>?_,λaT q=>?_⟩,⟨n1,bv,⟨_,_,S.extBut _ _ D.a2 w2⟩,(j0 a c X.prog X.w).atK _ _ _ _ w3 λo e=>S.extBut _ _ D.a3 e,(j0 b d X.prog X.w).atK _ _ _ _ w4 λo e=>S.extBut _ _ D.a4 e⟩,λq j=>?_⟩
  .rw[<-I.Xh s1 q];exact hx
  .rw[<-I.Xh s2 q];exact hy
  .have ό:q<s.heap.objs.size:=by
    simp only[ax,dL,or_false]at j;rcases j with rfl|rfl|rfl|rfl|rfl
    .exact aH t1
    .exact aH J
    .exact aH M
    .exact let ⟨o,e,_⟩:=(j0 a c X.prog X.w).obj _ _ _ N;aH e
    .exact let ⟨o,e,_⟩:=(j0 b d X.prog X.w).obj _ _ _ L;aH e
   rw[aR (aV ό)];exact(G q j).1
 done:=λX e1 e2 e3 hc i C s σ H E I f t g=>by
  subst e1 e2 e3;obtain⟨t1,J,⟨u,v,M⟩,N,L⟩:=t;obtain⟨xs,ys,s1,s2,au⟩:=g;obtain⟨us,r1,q1⟩:=I.WZ s1;obtain⟨vs,r2,q2⟩:=I.WZ s2;have G:∀q∈[z,TI,TO,i1,i2],ph X C H q:=f;have hh:X.A.handled=none:=I.ok.hd hc;have hT:s.TypeIs (.ref z) "zip":=⟨_,t1,rfl⟩;have be:us.toArray[i]?=none\/vs.toArray[i]?=none:=by
   rcases au with e|e
   .exact .inl (by have:=r1.length;simp;lia)
   .exact .inr (by have:=r2.length;simp;lia)
  unfold pyNext;refine ak (wpAny_attempt (wpAny_callSpecial?_slot (name:=Str.ofString "__next__") hT jF (gP jF hT F.entry_zip_next
   (HA (j0 a c _ _) (j0 b d _ _) hh D t1 J M N L q1 q2 be λh' e hk he=>?_) (F.args_zip_next_1 _))))
  obtain⟨o,O,bt⟩:=he;refine ak (wpAny_isInstance (T:="StopIteration") (b:=true) ⟨o,O,bt⟩ isSubtype_stop (ba ⟨rfl,?_⟩));have kp:∀q o,q∉[z,TI,TO,i1,i2]->s.heap.get? q=some o->h'.get? q=some o:=λq o j e=>by
   simp only[ax,dL,or_false,not_or]at j;exact hk q o j.1 j.2.2.1 j.2.2.2.1 j.2.2.2.2 e
  have Z:∀q u,H q=some u->q∉[z,TI,TO,i1,i2]:=λq u e j=>by rw[(G q j).1]at e;cases e
  refine I.step (g':=s.gens) (d':=s.drawn) (t':=s.toks) (ch:=[z,TI,TO,i1,i2]) (λq j=>⟨(G q j).2.2.2.1,(G q j).2.1,(G q j).2.2.2.2.1,(G q j).2.2.2.2.2⟩) (λq o _ _ j e _=>kp q o j e) (λq o _ _ j e _=>⟨o.slots,kp q o j e⟩) (λ_ _ _ _ n=>n)
   (λq o j e=>⟨o,kp q o j e⟩) (λ_ _ e=>e) (λ_ _ _ e=>e) (λq ps e=>⟨#[],by rw[e];simp⟩) (λm hm=>?_) (λq u e=>?_) I.bare
  .obtain⟨o,es,ep,O,r⟩:=hm;exact⟨o,es,ep,kp _ o (λj=>(G _ j).2.1 rfl) O,r⟩
  .refine(I.ψ q u e).iF (λU v Wo l=>kp U v ?_ l) (λ_ l=>l) λ_ _ l=>l;rcases Wo with rfl|Wo
   .exact Z _ u e
   .exact Z _ _ Wo
 self:=λA i s Q E t q=>wpAny_pyIter_zip t.1 q
section
variable{X:Cx}{b:gn}{f:St}{H d:Hp}{s g:Shared}{a:Addr}{o:HO}
theorem Inv.adG(I:Inv X b f H s)(i:Inv X b f d g)(k:s.heap.objs.size<=a)(j:d a=none)(m:Γ X.prog X.w (upd d a o) g.heap a o):Inv X b f (upd d a o) g:=by
 refine⟨i.ok,i.os,i.bare,?_,i.loc,i.cell,?_,λn c e=>?_,λp t=>?_,λq u e=>?_,i.len⟩
 .refine⟨i.base.keep,i.base.slot,λq l e n y=>?_,i.base.there,λq r e=>?_,λq l u e=>?_,λq x e=>?_⟩
  .rw[aR (aV (aZ (aZ (aH e) I.sz) k))];exact i.base.free q l e n y
  .have h:=i.base.oR q r e;rw[aR (λz=>by rw[z,j]at h;cases h)];exact h
  .have h:=i.base.iN q l u e;rw[aR (λz=>by rw[z,j]at h;cases h)];exact h
  .obtain⟨more,h⟩:=i.base.rW q x e;exact⟨more,by rw[aR (λz=>by rw[z,j]at h;cases h)];exact h⟩
 .rw[aR (aV (aZ I.lt k))];exact i.free
 .obtain⟨vv,oc,ho,_⟩:=I.cell n c e;rw[aR (aV (aZ (aH ho) k))];exact i.Ϟ n c e
 .obtain⟨k1,k2,k3⟩:=I.pin p t;rw[aR (aV (aZ (aH k1) k))];exact i.pin p t
 .by_cases hq:q=a
  .subst hq;rw[ay]at e;cases e;exact m
  .rw[aR hq]at e;refine(i.ψ q u e).iF (λ_ _ _ h=>h) (λv h=>?_) λv r h=>?_
   .rw[aR (λz=>by rw[z,j]at h;cases h)];exact h
   .rw[aR (λz=>by rw[z,j]at h;cases h)];exact h
end
theorem Kv:typeLookup (.type "list_reverseiterator") "__len__"=pure none:=by rw[typeLookup_type,builtinLookup_eq_fast];kernel_rfl
theorem Nu:typeLookup (.type "list_reverseiterator") "__length_hint__"=pure (some (.builtin "list_reverseiterator.__length_hint__")):=by rw[typeLookup_type,builtinLookup_eq_fast];kernel_rfl
section
variable{P:Program}{w:World}{A:Around}{E:gf}{s:Shared}
theorem ON{f:Addr}{Q:Bool->Shared->Prop}(e:s.TypeIs (.ref f) "list_reverseiterator")(h:Q false s):wpAny (model P w) A (Builtin.List.listLengthHint (.ref f)) Q E s:=by
 unfold Builtin.List.listLengthHint;refine ak (lK e Kv ?_);refine ga (λa=>absurd a (by decide)) (λ_=>?_);refine ga (λa=>absurd a (by decide)) (λ_=>?_);refine ak (lK e Nu ?_);generalize c:("list_reverseiterator.__length_hint__":String)=d
 wp_delta
 rw[show splitId d=some ("list_reverseiterator","__length_hint__")from by subst c;decide +kernel];subst c;refine ak (wpAny_isInstance (T:="list_reverseiterator") (b:=true) e (by rw[isSubtype_type];kernel_rfl) ?_);refine ga (λa=>absurd a (by decide)) (λ_=>?_);refine ga (λ_=>?_) (λa=>absurd (by decide +kernel) a);refine ga (λa=>absurd a (by decide +kernel)) (λ_=>?_);exact ba h
end
def Ks(I l:Addr)(a:Array Value)(i:Nat)(h:Heap):Prop:=i<=a.size/\h.IsRevIter I l ((a.size:Int)-1-(i:Int))/\h.IsList l a
def K3(a:Array Value)(i:Nat)(v:Value):Prop:=a[a.size-1-i]?=some v
section
variable{P:Program}{w:World}{A:Around}{E:gf}{s:Shared}{R:Result->Shared->Prop}
theorem KM(n:A.handled=none){I l S:Addr}{its:Array Value}{g:Value}{k:Nat}(st:Ks I l its 0 s.heap)(ne:l≠I)(j:S≠I)(r:S≠l)(u:its.size<=sizeLine)(v:s.heap.get? S=some { cls:=.type "list",data:=.seq #[] k })(x:∀c d h,Moved [S,I] (λa b=>b=a) s c->c.heap.get? S=some { cls:=.type "list",dict:=none,data:=.seq d h,slots:=#[] }->ItemsOf (K3 its) d its.size->R (.ok (.ret g)) c):wpAny (model P w) A.in1 (Builtin.List.listExtendWith (.ref S) (.ref I) g) (λy c=>match y with|.done f=>R (.ok f) c|.again h=>h.quiet=true/\codeAny (model P w) A h R c) (λe c=>R (.error e) c) s:=by
 have W:=(Walks.listRev (prog:=P) (w:=w) (A:=A.in1) n I l ne its).toS;have m:s.TypeIs (.ref I) "list_reverseiterator":=st.2.1.typeIs;unfold Builtin.List.listExtendWith;refine ak (wpAny_typeOf m ?_);have q:Builtin.List.listSameRef (.ref S) (.ref I)=false:=by simp[Builtin.List.listSameRef,j]
 have z:(Value.type "list_reverseiterator" == Value.type "list")=false:=by decide
 have o:(Value.type "list_reverseiterator" == Value.type "tuple")=false:=by decide
 simp only[q,z,o,Bool.or_false,dI,if_false];refine ak (jD st.2.1 ?_);refine ak (gL (ON m ?_));refine ga (λp=>absurd p (by decide +kernel)) (λ_=>?_);refine ba ⟨plainId_quiet F.plain_extend_loop _,codeAny_extend_loopS W u S (by simp[j,r]) g its.size 0 _ #[] k rfl (bj _) st v (ItemsOf.nil _) λc d h t i B=>?_⟩;exact x c d h t i B
theorem Ee(q:A.handled=none){I l:Addr}{its:Array Value}{Q:gf}(st:Ks I l its 0 s.heap)(ne:l≠I)(x:its.size<=sizeLine)(r:∀(d:Shared) (a:Array Value) (p:Nat),d.os=s.os->d.gens=s.gens->d.drawn=s.drawn->(∀b o,b≠I->s.heap.get? b=some o->d.heap.get? b=some o)->d.heap.get? s.heap.objs.size=some { cls:=.type "list",dict:=none,data:=.seq a p,slots:=#[] }->ItemsOf (K3 its) a its.size->Q (.ref s.heap.objs.size) d):wpAny (model P w) A (call (.type "list") [.ref I]) Q E s:=by
 obtain⟨C,j,_⟩:=id st.2.1;obtain⟨D,hol,_⟩:=id st.2.2;have v:s.heap.objs.size≠I:=eW (aH j);have u:s.heap.objs.size≠l:=eW (aH hol);refine callType_codes (Q₁:=λf c=>f=.ref s.heap.objs.size/\c={ s with heap:=s.heap.push { cls:=.type "list",data:=.seq #[] } }) F.called_list (F.typeCall_list_1 _) F.entry_list_init (code_list_new _ ⟨rfl,rfl⟩) λf c g=>?_;obtain⟨rfl,rfl⟩:=g;have i:(s.heap.push { cls:=.type "list",data:=.seq #[] }).get? s.heap.objs.size=some { cls:=.type "list",data:=.seq #[] }:=bf _ rfl;refine⟨⟨_,i,rfl⟩,F.args_list_init_2 _ _,?_⟩;show wpAny (model P w) A.in1.in1 (do let m <-Builtin.List.listItems (.ref s.heap.objs.size);Builtin.List.listUpdate (.ref s.heap.objs.size) (λ_=>#[]);letGo m.toList.reverse;Builtin.List.listExtendWith (.ref s.heap.objs.size) (.ref I) .none) _ _ _;refine ak ?_;unfold Builtin.List.listItems;refine ak (d4 i rfl (ba ?_));show wpAny (model P w) A.in1.in1 (updateSeq s.heap.objs.size (λ_=>#[])>>=λ_=>letGo (#[]:Array Value).toList.reverse>>=λ_=>Builtin.List.listExtendWith (.ref s.heap.objs.size) (.ref I) .none) _ _ _;refine ak (wpAny_updateSeq i rfl ?_);have y:=eZ (Obj.mapSeq (λ_=>(#[]:Array Value))) i rfl;have k:∀b o,s.heap.get? b=some o->((s.heap.push { cls:=.type "list",data:=.seq #[] }).update s.heap.objs.size (Obj.mapSeq (λ_=>(#[]:Array Value)))).get? b=some o:=λb o e=>(dz _ _ (eW (aH e))).trans (ar _ e)
 refine ak (lH ?_);refine KM (A:=A.in1) q (I:=I) (l:=l) (its:=its) ⟨st.1,st.2.1.at λo e=>k _ o e,st.2.2.at λo e=>k _ o e⟩ ne v u x y λd a p h n B=>?_;refine⟨rfl,r d a p h.os h.gens h.drawn (λb o t e=>h.heap b o (λz=>?_) (k b o e)) n B⟩;simp only[ax,dL,or_false]at z;rcases z with z|z
 .exact absurd (aH e) (by rw[z];exact cW _)
 .exact t z
end
theorem Mw{b a:gy}(h:ItemsOf (K3 b.toArray) a.toArray b.toArray.size):a=b.reverse:=by
 obtain⟨d,e⟩:=h;simp only[aM]at d;refine eA λj=>?_;by_cases c:j<a.length
 .have q:=e j a[j] (by simp[c]);unfold K3 at q;rw[ao c,cC (by lia)];simp only[aM,List.getElem?_toArray]at q;exact q.symm
 .rw[bI (by lia),bI (by rw[bc];lia)]
section
variable{X:Cx}{e:Expr}{g:TE}{i f d c:Pos}
def Q8(K:gg)(g:TE):TE:=λj H Q=>g j H λx b=>∃a h,x=.ref a/\ξ K b a h/\∀l,b l=none->Q (.ref l) (upd b l (.lst h.reverse))
theorem Rs{j:gn}{s:Shared}{o:St}{H:Hp}{R:List Value->Shared->Prop}(L:Gl X "reversed")(E:X.mg "reversed"=none)(B:PE X e g)(I:Inv X j o H s){q:V->Hp->Prop}(h:g o H q)(D:starEach [.Call (.Name "reversed" f) [e] [] c] X.env=[(false,eval (.Call (.Name "reversed" f) [e] [] c) X.env)])(t:starEach [e] X.env=[(false,eval e X.env)])(k:∀l m x a n (b:gy),Inv X j o m l->q x m->x=.ref a->ξ X.K m a n->Vals n b->Ks l.heap.objs.size a b.toArray 0 (l.heap.push (revObj a ((b.toArray.size:Int)-1)))->a≠l.heap.objs.size->b.toArray.size<=sizeLine->R [.ref l.heap.objs.size] { l with heap:=l.heap.push (revObj a ((b.toArray.size:Int)-1)) })(F:∀x m,q x m->∃a n,x=.ref a/\ξ X.K m a n):wpAny (model X.prog X.w) X.A (spliced (backTo d (starEach [.Call (.Name "reversed" f) [e] [] c] X.env))) R X.xe s:=by
 rw[D];show wpAny _ _ (spliced ((false,eval (.Call (.Name "reversed" f) [e] [] c) X.env)::backTo d [])) _ _ s;refine gF ?_;refine Call_ (oM I L E boot_reversed (cG ?_ t rfl));rw[t];show wpAny _ _ (spliced ((false,eval e X.env)::backTo c [])) _ _ s;refine gF (dQ (B j s o H _ I h) λu l x m y C z=>gQ ?_);obtain⟨a,n,G,v⟩:=F x m z;subst G;cases C;obtain⟨b,r,p,J⟩:=y.list v;have ne:a≠l.heap.objs.size:=aV p.lt;refine call_reversed_list p.isList (gQ ?_);refine k l m _ a n b y z rfl v r ⟨bj _,⟨_,bf _ rfl,rfl,?_⟩,p.isList.push _⟩ ne (by rw[aM,<-r.length];exact J);simp[revObj]
theorem RN(hc:X.calm=true)(hg:Gl X "reversed")(hm:X.mg "reversed"=none)(v:Gl X "list")(t:X.mg "list"=none)(V:PE X e g)(F:starEach [.Call (.Name "reversed" f) [e] [] c] X.env=[(false,eval (.Call (.Name "reversed" f) [e] [] c) X.env)]:=by rfl)(h2:starEach [e] X.env=[(false,eval e X.env)]:=by rfl):PE X (.Call (.Name "list" i) [.Call (.Name "reversed" f) [e] [] c] [] d) (Q8 X.K g):=by
 intro j s C H Q I h;refine Call_ (oM I v t boot_list (cG ?_ F rfl));refine Rs hg hm V I h F h2 (λl B x a z k m q1 y A E st ne O=>?_) λx B ⟨a,z,y,A,_⟩=>⟨a,z,y,A⟩;obtain⟨a',aT,p,r,q⟩:=q1;rw[y]at p;cases p;have T:=m.iO A r;subst T;refine Ee (m.ok.hd hc) st ne O λs' n c' N R L M w By=>?_;obtain⟨P,gs,ds,W,Y⟩:=s';simp only at N R L M w;subst N R L;obtain⟨J,rfl⟩:∃J:List Value,n=J.toArray:=⟨n.toList,by simp⟩;have Z:=Mw By;subst Z;have kk:∀b u,l.heap.get? b=some u->P.get? b=some u:=λb u D=>M b u (aV (aH D)) (ar _ D);have U:Inv X j C B { l with heap:=P,toks:=W }:=m.kept kk;have G:(l.heap.push (revObj a ((k.toArray.size:Int)-1))).objs.size=l.heap.objs.size+1:=df ..;rw[G]at w;show EP X j C Q (.ref (l.heap.push (revObj a ((k.toArray.size:Int)-1))).objs.size) _;rw[G];have S:B (l.heap.objs.size+1)=none:=m.ψ.fresh (fD _);refine⟨.ref _,_,m.adG (o:=.lst z.reverse) U (fD _) S ⟨?_,k.reverse,c',E.reverse,w⟩,rfl,q _ S⟩;rw[bc,E.length]
 simpa using O
end
theorem kR{a b:Nat}(h:a<b\/b<a):a≠b:=by lia
theorem S4(n a b:Nat)(c:a<n)(d:b<n):ZAp (n+4) (n+2) (n+3) n (n+1) a b:=⟨kR (by lia),kR (by lia),kR (by lia),kR (by lia),kR (by lia),kR (by lia),kR (by lia),kR (by lia),kR (by lia),kR (by lia),⟨kR (by lia),kR (by lia),kR (by lia),kR (by lia)⟩,⟨kR (by lia),kR (by lia),kR (by lia),kR (by lia)⟩⟩
section
variable{X:Cx}
def Qx(K:gg)(c d:Bool)(j:TA):TI:=λf H R=>j f H λh e=>∃a b,h=[.ref a,.ref b]/\(∃i,Ϫ K c e a i)/\(∃g,Ϫ K d e b g)/\R (Itz K c d a b) e
theorem SY{k:List Expr}{x1}{Wf:Pos}{ea eb:Expr}{ta:TA}{p pos:Pos}(c d:Bool)(hg:Gl X "zip")(hm:X.mg "zip"=none)(ha:PA X [ea,eb] ta)(hs:starEach [ea,eb] X.env=[(false,eval ea X.env),(false,eval eb X.env)]:=by rfl)(hs2:starEach [eb] X.env=[(false,eval eb X.env)]:=by rfl):PI X (.Tuple k x1 Wf) (.Call (.Name "zip" p) [ea,eb] [] pos) (Qx X.K c d ta):=by
 intro g s x H R I h;refine Call_ (oM I hg hm boot_zip (cG (uv (ha pos g s x H _ I h) λJ f N M j o l=>?_) (by rw[hs,hs2]) (by rw[hs2];rfl)));obtain⟨a,b,e,⟨Q,L⟩,⟨W,y⟩,q⟩:=l;subst e;obtain⟨u,v,rfl,P,C⟩:=J4 o;cases P;cases C;obtain⟨J,o,l⟩:=j.WZ L;obtain⟨N,S,w⟩:=j.WZ y;obtain⟨U,n⟩:=rY a c _ _ l;obtain⟨V,m⟩:=rY b d _ _ w;have z:=aH n;have F:=aH m;refine Pu (j0 a c) (j0 b d) (rY b d) l w (λT t E O G A B=>?_) (wZ a c) (wZ b d);refine wpAny_pyIter_zip t ?_;have D:=S4 f.heap.objs.size a b z F;refine⟨_,[f.heap.objs.size+4,f.heap.objs.size+2,f.heap.objs.size+3,f.heap.objs.size,f.heap.objs.size+1],_,_,M,rfl,j.kept (t':=f.toks) B,O3 c d a b _ _ _ _ _ D,⟨t,E,⟨_,_,O⟩,G,A⟩,λq r=>?_,q⟩;have i:f.heap.objs.size<=q:=by
  simp only[ax,dL,or_false]at r;rcases r with rfl|rfl|rfl|rfl|rfl
  .exact iT _ 4
  .exact iT _ 2
  .exact iT _ 3
  .exact ap _
  .exact iT _ 1
 exact j.YN i (j.ψ.fresh i)
end
end L2
namespace Pb
structure Road where
 a:Int
 b:Int
 t:Int
 u:Int
 deriving DecidableEq
abbrev hU:=List Road
def MD(m:Int)(c:hU):Prop:=∀S:Int->Prop,S 0->(∀r∈c,(S r.a↔S r.b))->∀v,0<=v->v<m->S v
structure Xi(m:Int)(r:Road):Prop where
 a0:0<=r.a
 a1:r.a<m
 b0:0<=r.b
 b1:r.b<m
 ne:r.a≠r.b
 t0:2<=r.t
 t1:r.t<=1000000
 u0:2<=r.u
 u1:r.u<=1000000
structure Good(m:Int)(rs:hU):Prop where
 m1:1<=m
 Ο:m<=24
 len:(rs.length:Int)=m-1
 ok:∀r∈rs,Xi m r
 jn:MD m rs
theorem pf{a:Type}[DecidableEq a]:∀{l l':List a},l.Nodup->(∀x∈l,x∈l')->l.length<=l'.length
 | [],_,_,_=>bj _
 | x::r,l',hn,hs=>by
   obtain⟨d,f⟩:=bg.mp hn;have b:x∈l':=hs x aJ;have:r.length<=(l'.erase x).length:=pf f λy c=>(mH (λ(e:y=x)=>d (by rw[<-e];exact c))).mpr (hs y (aG _ c));rw[List.length_erase_of_mem b]at this;have g:0<l'.length:=List.length_pos_of_mem b;rw[aF]
   lia
def b6(n:Nat):List Int:=(List.range n).map λ(k:Nat)=>(k:Int)
theorem dN{n:Nat}{v:Int}:v∈b6 n↔0<=v/\v<n:=by
 unfold b6;rw[aP]
 constructor
 .rintro⟨k,hk,rfl⟩;have:=bU.mp hk
  lia
 .rintro⟨h0,h1⟩;exact⟨v.toNat,bU.mpr (by lia),by lia⟩
theorem b7(n:Nat):(b6 n).length=n:=by simp[b6]
theorem hZ(n:Nat):(b6 n).Nodup:=by
 unfold b6;refine List.Pairwise.map _ (λa b h=>?_) (List.nodup_range (n:=n));intro e;exact h (by lia)
theorem fC{m:Int}{l:f3}(c:0<=m)(b:l.Nodup)(h:∀x∈l,0<=x/\x<m):(l.length:Int)<=m:=by
 have:=pf (l':=b6 m.toNat) b λx a=>dN.mpr ⟨(h x a).1,by have:=(h x a).2;lia⟩;rw[b7]at this
 lia
theorem Nv{m:Int}{l:f3}(d:0<=m)(h:∀v,0<=v->v<m->v∈l):m<=(l.length:Int):=by
 have:=pf (l:=b6 m.toNat) (l':=l) (hZ _) λx b=>by
  obtain⟨a,c⟩:=dN.mp b;exact h x a (by lia)
 rw[b7]at this
 lia
def tM(p:Int)(r:Road):List Int:=(if r.a=p then[r.b]else[])++(if r.b=p then[r.a]else[])
def gi(a:hU)(p:Int):List Int:=a.flatMap (tM p)
theorem sQ{d:hU}{p e:Int}:e∈gi d p↔∃r∈d,(r.a=p/\r.b=e)\/(r.b=p/\r.a=e):=by
 unfold gi tM;rw[dJ]
 constructor
 .rintro⟨r,hr,h⟩;refine⟨r,hr,?_⟩;rcases aY.mp h with h|h
  .by_cases c:r.a=p
   .rw[aj c]at h;exact .inl ⟨c,(aI.mp h).symm⟩
   .rw[ag c]at h;cases h
  .by_cases c:r.b=p
   .rw[aj c]at h;exact .inr ⟨c,(aI.mp h).symm⟩
   .rw[ag c]at h;cases h
 .rintro⟨r,hr,h⟩;refine⟨r,hr,aY.mpr ?_⟩;rcases h with⟨h1,h2⟩|⟨h1,h2⟩
  .exact .inl (by rw[aj h1,h2];exact aI.mpr rfl)
  .exact .inr (by rw[aj h1,h2];exact aI.mpr rfl)
theorem GN(e:hU)(p:Int):(gi e p).length<=2*e.length:=by
 unfold gi
 induction e with
 | nil=>simp
 | cons r e ih=>
   rw[bC,aE,aF];have:(tM p r).length<=2:=by
    unfold tM;rw[aE];by_cases c:r.a=p<;>by_cases d:r.b=p<;>simp[c,d]
   lia
theorem tP(a:hU)(r:Road)(p:Int):gi (a++[r]) p=gi a p++tM p r:=by
 unfold gi;rw[fK];simp
def Bh(c:List Int×List Int)(e:Int):List Int×List Int:=if e∈c.1 then c else(c.1++[e],c.2++[e])
structure XF(m:Int)(rs:hU)(ks ws:f3):Prop where
 nd:ks.Nodup
 zero:0∈ks
 Χ:∀k∈ks,0<=k/\k<m
 sub:∀w∈ws,w∈ks
 cl:∀k∈ks,k∉ws->∀e∈gi rs k,e∈ks
 wl:ws.length<=ks.length
theorem Ke{l:f3}{e:Int}(h:l.Nodup)(c:e∉l):(l++[e]).Nodup:=by
 rw[dC];refine⟨h,by simp,λa f b d=>?_⟩;rw[aI.mp d];exact λz=>c (z▸f)
structure Xj(m:Int)(rs:hU)(p:Int)(es ks ws ks0:f3)(n0:Nat):Prop where
 nd:ks.Nodup
 zero:0∈ks
 Χ:∀k∈ks,0<=k/\k<m
 sub:∀w∈ws,w∈ks
 cl:∀k∈ks,k∉ws->k=p\/∀e∈gi rs k,e∈ks
 seen:∀e∈es,e∈ks
 pin:p∈ks
 mu:ks.length+n0=ks0.length+ws.length
 up:ks0.length<=ks.length
 wl:ws.length<=ks.length
theorem Xj.start{m:Int}{b:hU}{ks a:f3}{p:Int}(h:XF m b ks (a++[p])):Xj m b p [] ks a ks a.length where
 nd:=h.nd
 zero:=h.zero
 Χ:=h.Χ
 sub:=λw hw=>h.sub w (bo _ hw)
 cl:=λk hk hw=>by
  by_cases e:k=p
  .exact .inl e
  .exact .inr (h.cl k hk λz=>by
    rcases aY.mp z with z|z
    .exact hw z
    .exact e (aI.mp z))
 seen:=λe c=>by cases c
 pin:=h.sub p (aW _ (aI.mpr rfl))
 mu:=rfl
 up:=ap _
 wl:=by have:=h.wl;rw[aE]at this;simp at this;lia
theorem Xj.step{m:Int}{j:hU}{p:Int}{l f i a:f3}{n:Nat}{e:Int}(h:Xj m j p l f i a n)(q:0<=e)(o:e<m):Xj m j p (l++[e]) (Bh (f,i) e).1 (Bh (f,i) e).2 a n:=by
 unfold Bh;by_cases c:e∈f
 .rw[aj c];refine⟨h.nd,h.zero,h.Χ,h.sub,h.cl,λx b=>?_,h.pin,h.mu,h.up,h.wl⟩;rcases aY.mp b with z|z
  .exact h.seen x z
  .rw[aI.mp z];exact c
 .rw[ag c];dsimp only;refine⟨Ke h.nd c,bo _ h.zero,λk g=>?_,λw d=>?_,λk g d=>?_,λx b=>?_,bo _ h.pin,?_,by have:=h.up;simp;lia,by have:=h.wl;simp;exact this⟩
  .rcases aY.mp g with z|z
   .exact h.Χ k z
   .rw[aI.mp z];exact⟨q,o⟩
  .rcases aY.mp d with z|z
   .exact bo _ (h.sub w z)
   .exact aW _ z
  .rcases aY.mp g with z|z
   .rcases h.cl k z λy=>d (bo _ y)with y|y
    .exact .inl y
    .exact .inr λx b=>bo _ (y x b)
   .exact absurd (aW _ z) d
  .rcases aY.mp b with z|z
   .exact bo _ (h.seen x z)
   .exact aW _ z
  .have:=h.mu;simp only[aE,aF,dW]
   lia
theorem Xj.done{m:Int}{a:hU}{p:Int}{ks c b:f3}{d:Nat}(h:Xj m a p (gi a p) ks c b d):XF m a ks c where
 nd:=h.nd
 zero:=h.zero
 Χ:=h.Χ
 sub:=h.sub
 cl:=λk hk hw=>by
  rcases h.cl k hk hw with z|z
  .rw[z];exact h.seen
  .exact z
 wl:=h.wl
theorem XF.start{m:Int}{a:hU}(b:1<=m):XF m a [0] [0] where
 nd:=by simp
 zero:=by simp
 Χ:=λk hk=>by rw[aI.mp hk];lia
 sub:=λw hw=>hw
 cl:=λk hk hw=>absurd hk hw
 wl:=by simp
theorem XF.all{m:Int}{d:hU}{c:f3}(h:XF m d c [])(f:1<=m)(j:MD m d):(c.length:Int)=m:=by
 have up:=fC (by lia) h.nd h.Χ;have:∀v,0<=v->v<m->v∈c:=j (λv=>v∈c) h.zero λr e=>by
  constructor
  .intro ha;exact h.cl r.a ha (by simp) r.b (sQ.mpr ⟨r,e,.inl ⟨rfl,rfl⟩⟩)
  .intro hb;exact h.cl r.b hb (by simp) r.a (sQ.mpr ⟨r,e,.inr ⟨rfl,rfl⟩⟩)
 have:=Nv (by lia) this
 lia
theorem Oj{m:Int}{a:hU}(h:∀r∈a,Xi m r){p e:Int}(b:e∈gi a p):0<=e/\e<m:=by
 obtain⟨r,c,z⟩:=sQ.mp b;have k:=h r c;rcases z with⟨_,rfl⟩|⟨_,rfl⟩
 .exact⟨k.b0,k.b1⟩
 .exact⟨k.a0,k.a1⟩
structure Row where
 k:Int
 un:Int
 t:Int
 u:Int
 sw:Int
 sp:Int
structure Yu(r:Row):Prop where
 u0:0<=r.un
 u1:r.un<r.k
 t0:2<=r.t
 t1:r.t<=1000000
 v0:2<=r.u
 v1:r.u<=1000000
 s0:0<=r.sp
 s1:r.sp<r.k
structure Rows(n:Nat)(rows:List Row):Prop where
 len:rows.length=n
 ok:∀(i:Nat)(r:Row),rows[i]?=some r->r.k=(i:Int)+1/\Yu r
structure ϔ(n:Nat)(ls:f3):Prop where
 len:ls.length=n
 nd:ls.Nodup
 all:∀v:Int,0<=v->v<n->v∈ls
 Χ:∀v∈ls,0<=v/\v<n
theorem ϔ.nil:ϔ 0 []:=⟨rfl,by simp,λv b a=>(by lia),λv h=>(by cases h)⟩
theorem rV{a:Type}{l:List a}{k:Nat}{x y:a}:y∈l.take k++x::l.drop k↔y=x\/y∈l:=by
 rw[aY,ax]
 constructor
 .rintro(h|h|h)
  .exact .inr (fU h)
  .exact .inl h
  .exact .inr (b5 h)
 .rintro(h|h)
  .exact .inr (.inl h)
  .rw[<-b8 k l]at h;rcases aY.mp h with z|z
   .exact .inl z
   .exact .inr (.inr z)
theorem ϔ.put{n:Nat}{a:f3}(h:ϔ n a)(k:Nat)(hk:k<=n):ϔ (n+1) (a.take k++(n:Int)::a.drop k) where
 len:=by
  rw[aE,aF,bq,fu,h.len]
  lia
 nd:=by
  have p:(a.take k++(n:Int)::a.drop k).Perm ((n:Int)::a):=by
   refine List.perm_middle.trans ?_;rw[b8]
  refine p.nodup_iff.mpr (bg.mpr ⟨λz=>?_,h.nd⟩);have:=(h.Χ _ z).2
  lia
 all:=λv b c=>by
  rw[rV];by_cases e:v=n
  .exact .inl e
  .exact .inr (h.all v b (by lia))
 Χ:=λv hv=>by
  rcases rV.mp hv with z|z
  .lia
  .have:=h.Χ v z
   lia
def mX(a:f3)(r:Row):Road:=if r.sw=1 then⟨a.getD r.un.toNat 0,a.getD r.k.toNat 0,r.t,r.u⟩else⟨a.getD r.k.toNat 0,a.getD r.un.toNat 0,r.t,r.u⟩
structure Put(ls:f3)(rows:List Row)(rs:hU):Prop where
 len:rs.length=rows.length
 of:∀r∈rs,∃w∈rows,r=mX ls w
 to:∀w∈rows,mX ls w∈rs
theorem Put.nil(a:f3):Put a [] []:=⟨rfl,λr h=>(by cases h),λr h=>(by cases h)⟩
theorem Put.step{c:f3}{a:List Row}{b:hU}(h:Put c a b)(w:Row)(k:Nat):Put c (a++[w]) (b.take k++mX c w::b.drop k) where
 len:=by
  rw[aE,aF,bq,fu,aE,h.len];simp
  lia
 of:=λr hr=>by
  rcases rV.mp hr with z|z
  .exact⟨w,by simp,z⟩
  .obtain⟨d,hw,e⟩:=h.of r z;exact⟨d,bo _ hw,e⟩
 to:=λd hw=>by
  rw[rV];rcases aY.mp hw with z|z
  .exact .inr (h.to d z)
  .exact .inl (by rw[aI.mp z])
theorem sB{a:f3}{n:Nat}(h:ϔ n a){i:Nat}(b:i<n):a[i]?=some (a.getD i 0):=by
 have:i<a.length:=by rw[h.len];exact b
 simp[List.getD,ao this]
theorem GA{a:f3}{n:Nat}(h:ϔ n a){i:Nat}(b:i<n):a.getD i 0∈a:=aQ (sB h b)
theorem P0{a:f3}{n:Nat}(h:ϔ n a){i j:Nat}(f:i<n)(g:j<n)(e:a.getD i 0=a.getD j 0):i=j:=by
 have b:i<a.length:=by rw[h.len];exact f
 have c:j<a.length:=by rw[h.len];exact g
 have d:=sB h f;have l:=sB h g;rw[e]at d;have k:a[i]'b=a[j]'c:=by
  rw[ao b]at d;rw[ao c]at l;exact bi (d.trans l.symm)
 have nd:=fY.mp h.nd;rcases iB i j with z|z|z
 .exact absurd k (nd i j b c z)
 .exact z
 .exact absurd k.symm (nd j i c b z)
theorem RX{n:Nat}{f:f3}{a:List Row}{p:hU}(s:1<=n)(A:n<=24)(L:ϔ n f)(W:Rows (n-1) a)(P:Put f a p):Good n p where
 m1:=by lia
 Ο:=by lia
 len:=by rw[P.len,W.len];lia
 ok:=λr hr=>by
  obtain⟨w,hw,rfl⟩:=P.of r hr;obtain⟨i,b⟩:=cJ hw;obtain⟨ek,ok⟩:=W.ok i w b;have d:i<a.length:=(az.mp b).1;rw[W.len]at d;have hk:w.k.toNat<n:=by lia
  have m:w.un.toNat<n:=by have:=ok.u0;have:=ok.u1;lia
  have h:=L.Χ _ (GA L hk);have l:=L.Χ _ (GA L m);have ne:f.getD w.k.toNat 0≠f.getD w.un.toNat 0:=λe=>by
   have:=P0 L hk m e;have:=ok.u0;have:=ok.u1
   lia
  unfold mX;by_cases c:w.sw=1
  .rw[aj c];exact⟨l.1,l.2,h.1,h.2,ne.symm,ok.t0,ok.t1,ok.v0,ok.v1⟩
  .rw[ag c];exact⟨h.1,h.2,l.1,l.2,ne,ok.t0,ok.t1,ok.v0,ok.v1⟩
 jn:=by
  intro S s0 y;have g:∀i:Nat,i<n->(S (f.getD i 0)↔S (f.getD 0 0)):=by
   intro i
   induction i using Nat.strongRecOn with
   | ind i ih=>
     intro b;by_cases z:i=0
     .rw[z]
     .have d:i-1<a.length:=(by rw[W.len];lia);obtain⟨ek,ok⟩:=W.ok (i-1) a[i-1] (ao d);have u:=P.to a[i-1] (dj d);have hr:=y _ u;have hk:(a[i-1]).k.toNat=i:=(by lia);have m:(a[i-1]).un.toNat<i:=(by have:=ok.u0;have:=ok.u1;lia);have q:=ih _ m (by lia);unfold mX at hr;rw[hk]at hr;by_cases c:(a[i-1]).sw=1
      .rw[aj c]at hr;exact hr.symm.trans q
      .rw[ag c]at hr;exact hr.trans q
  have at_:∀v,0<=v->v<(n:Int)->∃i,i<n/\f.getD i 0=v:=λv o s=>by
   obtain⟨i,b⟩:=cJ (L.all v o s);have d:i<n:=(by have:=(az.mp b).1;rw[L.len]at this;exact this);refine⟨i,d,?_⟩;have:=sB L d;rw[b]at this;exact(bi this).symm
  intro v o hv;obtain⟨i,b,rfl⟩:=at_ v o hv;obtain⟨j,t,x⟩:=at_ 0 (by lia) (by lia);refine(g i b).mpr ((g j t).mp ?_);rw[x];exact s0
def YR(c:hU)(a b:Int):Prop:=∃x∈c,(x.a=a/\x.b=b)\/(x.b=a/\x.a=b)
theorem YR.symm{c:hU}{a b:Int}(h:YR c a b):YR c b a:=by
 obtain⟨x,d,h⟩:=h;rcases h with⟨h1,h2⟩|⟨h1,h2⟩
 .exact⟨x,d,.inr ⟨h2,h1⟩⟩
 .exact⟨x,d,.inl ⟨h2,h1⟩⟩
theorem zN{c:hU}{a b:Int}:b∈gi c a↔YR c a b:=sQ
theorem Good.adj{m:Int}{c:hU}(g:Good m c){a b:Int}(h:YR c a b):(0<=a/\a<m)/\(0<=b/\b<m)/\a≠b:=by
 obtain⟨x,d,h⟩:=h;have k:=g.ok x d;rcases h with⟨h1,h2⟩|⟨h1,h2⟩
 .subst h1 h2;exact⟨⟨k.a0,k.a1⟩,⟨k.b0,k.b1⟩,k.ne⟩
 .subst h1 h2;exact⟨⟨k.b0,k.b1⟩,⟨k.a0,k.a1⟩,k.ne.symm⟩
theorem Good.from{m:Int}{d:hU}(g:Good m d){r:Int}(e:0<=r)(j:r<m)(S:Int->Prop)(k:S r)(f:∀x∈d,(S x.a↔S x.b)):∀v,0<=v->v<m->S v:=by
 have c:∀v,0<=v->v<m->(S v↔S 0):=g.jn (λv=>S v↔S 0) Iff.rfl λx i=>by
  have:=f x i;exact⟨λh=>this.symm.trans h,λh=>this.trans h⟩
 intro v a b;exact(c v a b).mpr ((c r e j).mp k)
inductive Wt(rs:hU)(r:Int):Nat->Int->Prop
 | zero:Wt rs r 0 r
 | step {n:Nat} {u v:Int}:Wt rs r n u->YR rs u v->Wt rs r (n+1) v
theorem VI{P:Nat->Prop}:∀n,P n->∃k,P k/\∀j,j<k->¬P j:=by
 intro n
 induction n using Nat.strongRecOn with
 | ind n ih=>
   intro h;by_cases z:∃j,j<n/\P j
   .obtain⟨j,b,a⟩:=z;exact ih j b a
   .exact⟨n,h,λj b a=>z ⟨j,b,a⟩⟩
structure ζ(m:Int)(rs:hU)(r:Int)(par:f5)(dep:gb):Prop where
 root:dep r=0
 up:∀v,0<=v->v<m->v≠r->(0<=par v/\par v<m)/\YR rs v (par v)/\dep (par v)+1=dep v
 road:∀x∈rs,(x.a≠r/\par x.a=x.b)\/(x.b≠r/\par x.b=x.a)
 one:(rs.map λx=>if x.a≠r/\par x.a=x.b then x.a else x.b).Nodup
theorem RV{n:Nat}{l:List Nat}(c:l.Nodup)(d:l.length=n)(a:∀x∈l,x<n):∀i,i<n->i∈l:=by
 intro i b;by_cases z:i∈l
 .exact z
 .have:=pf (l:=i::l) (l':=List.range n) (bg.mpr ⟨z,c⟩) λx hx=>by
   rcases ax.mp hx with rfl|hx
   .exact bU.mpr b
   .exact bU.mpr (a x hx)
  rw[aF,bD]at this
  lia
theorem AG{m:Int}{s:hU}(g:Good m s){r:Int}(Y:0<=r)(h1:r<m):∃f o,ζ m s r f o:=by
 classical
 have C:∀v,0<=v->v<m->∃n,Wt s r n v:=g.from Y h1 (λv=>∃n,Wt s r n v) ⟨0,.zero⟩ λx hx=>by
  constructor
  .rintro⟨n,d⟩;exact⟨n+1,d.step ⟨x,hx,.inl ⟨rfl,rfl⟩⟩⟩
  .rintro⟨n,d⟩;exact⟨n+1,d.step ⟨x,hx,.inr ⟨rfl,rfl⟩⟩⟩
 have hd:∀v,∃k,(0<=v/\v<m)->Wt s r k v/\∀j,j<k->¬Wt s r j v:=λv=>by
  by_cases z:0<=v/\v<m
  .obtain⟨n,d⟩:=C v z.1 z.2;obtain⟨k,h⟩:=VI (P:=λk=>Wt s r k v) n d;exact⟨k,λ_=>h⟩
  .exact⟨0,λh=>absurd h z⟩
 obtain⟨o,O⟩:∃o:Int->Nat,∀v,0<=v->v<m->Wt s r (o v) v/\∀j,j<o v->¬Wt s r j v:=⟨λv=>(hd v).choose,λv a b=>(hd v).choose_spec ⟨a,b⟩⟩;have dr:o r=0:=by
  have:=(O r Y h1).2 0;by_cases z:o r=0
  .exact z
  .exact absurd Wt.zero (this (by lia))
 have hp:∀v,∃u,(0<=v/\v<m/\v≠r)->YR s v u/\o u+1=o v:=λv=>by
  by_cases z:0<=v/\v<m/\v≠r
  .obtain⟨a,b,c⟩:=z;obtain⟨d,dm⟩:=O v a b;generalize hk:o v=k at d dm;cases d with
   | zero=>exact absurd rfl c
   | @step n u _ d e=>
     refine⟨u,λ_=>⟨e.symm,?_⟩⟩;obtain⟨⟨u0,u1⟩,_⟩:=g.adj e;have l1:o u<=n:=by
      by_cases w:o u<=n
      .exact w
      .exact absurd d ((O u u0 u1).2 n (by lia))
     have l2:¬o u<n:=λw=>dm (o u+1) (by lia) ((O u u0 u1).1.step e)
     lia
  .exact⟨0,λh=>absurd h z⟩
 obtain⟨f,J⟩:∃f:Int->Int,∀v,0<=v->v<m->v≠r->YR s v (f v)/\o (f v)+1=o v:=⟨λv=>(hp v).choose,λv a b c=>(hp v).choose_spec ⟨a,b,c⟩⟩;have hi:∀v,∃i:Nat,(0<=v/\v<m/\v≠r)->∃x,s[i]?=some x/\((x.a=v/\x.b=f v)\/(x.b=v/\x.a=f v)):=λv=>by
  by_cases z:0<=v/\v<m/\v≠r
  .obtain⟨x,hx,h⟩:=(J v z.1 z.2.1 z.2.2).1;obtain⟨i,e⟩:=cJ hx;exact⟨i,λ_=>⟨x,e,h⟩⟩
  .exact⟨0,λh=>absurd h z⟩
 obtain⟨t,S⟩:∃t:Int->Nat,∀v,0<=v->v<m->v≠r->∃x,s[t v]?=some x/\((x.a=v/\x.b=f v)\/(x.b=v/\x.a=f v)):=⟨λv=>(hi v).choose,λv a b c=>(hi v).choose_spec ⟨a,b,c⟩⟩;have Z:∀v u,0<=v->v<m->v≠r->0<=u->u<m->u≠r->t v=t u->v=u:=by
  intro v u a b c F G K e;obtain⟨x,hx,h⟩:=S v a b c;obtain⟨y,T,h'⟩:=S u F G K;rw[e,T]at hx;cases hx;have U:=(J v a b c).2;have R:=(J u F G K).2;rcases h with⟨p,q⟩|⟨p,q⟩<;>rcases h' with⟨p',q'⟩|⟨p',q'⟩
  .exact p.symm.trans p'
  .exfalso
   have D:v=f u:=p.symm.trans q';have I:u=f v:=p'.symm.trans q;rw[<-D]at R;rw[<-I]at U
   lia
  .exfalso
   have D:v=f u:=p.symm.trans q';have I:u=f v:=p'.symm.trans q;rw[<-D]at R;rw[<-I]at U
   lia
  .exact p.symm.trans p'
 let B:List Int:=(b6 m.toNat).filter λv=>decide (v≠r)
 have H:∀v,v∈B↔(0<=v/\v<m/\v≠r):=λv=>by
  rw[bG,dN,bM]
  constructor
  .rintro⟨⟨a,b⟩,c⟩;exact⟨a,by lia,c⟩
  .rintro⟨a,b,c⟩;exact⟨⟨a,by lia⟩,c⟩
 have nv:B.Nodup:=(hZ _).filter _;have lv:B.length=s.length:=by
  have D:(r::B).length<=(b6 m.toNat).length:=pf (bg.mpr ⟨λh=>((H r).mp h).2.2 rfl,nv⟩) λx hx=>by
   rcases ax.mp hx with rfl|hx
   .exact dN.mpr ⟨Y,by lia⟩
   .have:=(H x).mp hx;exact dN.mpr ⟨this.1,by lia⟩
  have I:(b6 m.toNat).length<=(r::B).length:=pf (hZ _) λx hx=>by
   have:=dN.mp hx;by_cases z:x=r
   .rw[z];exact aJ
   .exact aG _ ((H x).mpr ⟨this.1,by lia,z⟩)
  rw[b7,aF]at D I;have:=g.len;have:=g.m1
  lia
 have il:(B.map t).Nodup:=by
  have:∀(l:f3),l.Nodup->(∀v∈l,0<=v/\v<m/\v≠r)->(l.map t).Nodup:=by
   intro l
   induction l with
   | nil=>intro _ _;simp
   | cons v l ih=>
     intro hn X;obtain⟨n1,n2⟩:=bg.mp hn;rw[aq];refine bg.mpr ⟨λz=>?_,ih n2 λu Q=>X u (aG _ Q)⟩;obtain⟨u,Q,e⟩:=aP.mp z;obtain⟨a,b,c⟩:=X v aJ;obtain⟨F,G,K⟩:=X u (aG _ Q);exact n1 (Z u v F G K a b c e▸Q)
  exact this B nv λv E=>(H v).mp E
 have ib:∀i∈B.map t,i<s.length:=λi N=>by
  obtain⟨v,E,rfl⟩:=aP.mp N;obtain⟨a,b,c⟩:=(H v).mp E;obtain⟨x,hx,_⟩:=S v a b c;exact(az.mp hx).1
 have W:=RV il (by rw[aa,lv]) ib;have A:∀i x,s[i]?=some x->∃v,(0<=v/\v<m/\v≠r)/\t v=i/\((x.a=v/\x.b=f v)\/(x.b=v/\x.a=f v)):=λi x e=>by
  obtain⟨v,E,rfl⟩:=aP.mp (W i (az.mp e).1);obtain⟨a,b,c⟩:=(H v).mp E;obtain⟨y,T,h⟩:=S v a b c;rw[e]at T;cases T;exact⟨v,⟨a,b,c⟩,rfl,h⟩
 have V:∀v,0<=v->v<m->v≠r->f v≠r->f (f v)≠v:=λv a b c K z=>by
  have U:=J v a b c;obtain⟨_,⟨F,G⟩,_⟩:=g.adj U.1;have R:=J (f v) F G K;rw[z]at R
  lia
 have L:∀i x,s[i]?=some x->∃v,(0<=v/\v<m/\v≠r)/\t v=i/\(if x.a≠r/\f x.a=x.b then x.a else x.b)=v:=λi x e=>by
  obtain⟨v,⟨a,b,c⟩,E,h⟩:=A i x e;refine⟨v,⟨a,b,c⟩,E,?_⟩;rcases h with⟨p,q⟩|⟨p,q⟩
  .rw[aj ⟨by rw[p];exact c,by rw[p];exact q.symm⟩];exact p
  .rw[ag]
   .exact p
   .rintro⟨z1,z2⟩;rw[q]at z1 z2;exact V v a b c z1 (z2.trans p)
 refine⟨f,o,dr,λv a b c=>?_,λx hx=>?_,?_⟩
 .obtain⟨p,q⟩:=J v a b c;obtain⟨_,w,_⟩:=g.adj p;exact⟨w,p,q⟩
 .obtain⟨i,e⟩:=cJ hx;obtain⟨v,⟨a,b,c⟩,_,h⟩:=A i x e;rcases h with⟨p,q⟩|⟨p,q⟩
  .exact .inl ⟨by rw[p];exact c,by rw[p];exact q.symm⟩
  .exact .inr ⟨by rw[p];exact c,by rw[p];exact q.symm⟩
 .refine fY.mpr λi j N M lt=>?_;rw[aa]at N M;rw[iW,iW];intro z;obtain⟨v,_,D,k1⟩:=L i s[i] (ao N);obtain⟨u,_,I,k2⟩:=L j s[j] (ao M);rw[k1,k2]at z;rw[z]at D
  lia
theorem JR{m:Int}{k:hU}(g:Good m k){p:Int}(B:0<=p)(v:p<m):(gi k p).Nodup:=by
 obtain⟨f,C,R⟩:=AG g B v;have one:=R.one;have ok:=g.ok;have road:=R.road;clear R g
 induction k with
 | nil=>simp[gi]
 | cons x l ih=>
   have r:=ok x aJ;have s:∀y∈l,Xi m y:=λy hy=>ok y (aG _ hy);rw[aq]at one;obtain⟨t,A⟩:=bg.mp one;have n:=ih A s λy hy=>road y (aG _ hy);have e:gi (x::l) p=tM p x++gi l p:=by unfold gi;rw[bC]
   rw[e];have j:∀y,Xi m y->((y.a≠p/\f y.a=y.b)\/(y.b≠p/\f y.b=y.a))->(y.a=p->(if y.a≠p/\f y.a=y.b then y.a else y.b)=y.b)/\(y.b=p->(if y.a≠p/\f y.a=y.b then y.a else y.b)=y.a):=λy D hy=>by
    constructor
    .intro z;rw[ag (λw=>w.1 z)]
    .intro z;rcases hy with hy|hy
     .rw[aj hy]
     .exact absurd z hy.1
   have q:=j x r (road x aJ);have i:∀e∈gi l p,e∈l.map λy=>if y.a≠p/\f y.a=y.b then y.a else y.b:=λe u=>by
    obtain⟨y,hy,h⟩:=sQ.mp u;have o:=j y (s y hy) (road y (aG _ hy));refine aP.mpr ⟨y,hy,?_⟩;rcases h with⟨p1,q1⟩|⟨p1,q1⟩
    .rw[o.1 p1];exact q1
    .rw[o.2 p1];exact q1
   unfold tM;by_cases c:x.a=p
   .have d:¬x.b=p:=λz=>r.ne (c.trans z.symm);rw[aj c,ag d,bH];refine bg.mpr ⟨λz=>t ?_,n⟩;rw[q.1 c];exact i _ z
   .rw[ag c,f8];by_cases d:x.b=p
    .rw[aj d];refine bg.mpr ⟨λz=>t ?_,n⟩;rw[q.2 d];exact i _ z
    .rw[ag d];exact n
def mj(m:Int)(a:hU)(p:Int):List Int:=(b6 m.toNat).filter λq=>decide (q∈gi a p)
theorem ua:∀{l c:f3},l.Perm c->l.Pairwise (·<=·)->c.Pairwise (·<=·)->l=c
 | [],c,p,_,_=>(List.Perm.nil_eq p)
 | a::l,c,p,h,h'=>by
   cases c with
   | nil=>exact absurd p.symm.nil_eq (by simp)
   | cons b r=>
     obtain⟨g,i⟩:=List.pairwise_cons.mp h;obtain⟨f,d⟩:=List.pairwise_cons.mp h';have e:a=b:=by
      have j:a∈b::r:=p.subset aJ;have k:b∈a::l:=p.symm.subset aJ;rcases ax.mp j with z|z
      .exact z
      .rcases ax.mp k with w|w
       .exact w.symm
       .have:=g b w;have:=f a z
        lia
     subst e;rw[ua (List.Perm.cons_inv p) i d]
theorem wD(n:Nat):(b6 n).Pairwise (·<=·):=by
 unfold b6;refine List.Pairwise.map _ (λa b (h:a<b)=>?_) List.pairwise_lt_range
 lia
theorem y6(m:Int)(a:hU)(p:Int):(mj m a p).Pairwise (·<=·):=(wD _).filter _
theorem AY(m:Int)(a:hU)(p:Int):(mj m a p).Nodup:=(hZ _).filter _
theorem GP{m:Int}{c:hU}(g:Good m c){p q:Int}:q∈mj m c p↔YR c p q:=by
 unfold mj;rw[bG,bM,zN,dN]
 constructor
 .exact λh=>h.2
 .intro h;obtain⟨_,⟨a,b⟩,_⟩:=g.adj h;exact⟨⟨a,by lia⟩,h⟩
theorem gK:∀{l c:f3},l.Nodup->c.Nodup->(∀x,x∈l↔x∈c)->l.Perm c
 | [],c,_,_,h=>by
   cases c with
   | nil=>exact .nil
   | cons b r=>exact absurd ((h b).mpr aJ) (by simp)
 | a::l,c,n,n',h=>by
   obtain⟨f,d⟩:=bg.mp n;have e:a∈c:=(h a).mp aJ;refine List.Perm.trans (List.Perm.cons a ?_) (List.perm_cons_erase e).symm;refine gK d (n'.erase a) λx=>?_
   constructor
   .intro hx;have ne:x≠a:=λz=>f (z▸hx);exact(mH ne).mpr ((h x).mp (aG _ hx))
   .intro hx;have:x≠a:=λz=>by
     subst z;exact(List.Nodup.not_mem_erase n') hx
    rcases ax.mp ((h x).mpr (List.mem_of_mem_erase hx))with z|z
    .exact absurd z this
    .exact z
theorem RG{m:Int}{a:hU}(g:Good m a){p:Int}(d:0<=p)(e:p<m){b:f3}(c:b.Perm (gi a p))(f:b.Pairwise (·<=·)):b=mj m a p:=by
 refine ua (c.trans (gK (JR g d e) (AY m a p) λx=>?_)) f (y6 m a p);rw[GP g,zN]
def iV(a b:Int)(x:Road):Option Int:=if x.a=a/\x.b=b then some x.t else if x.a=b/\x.b=a then some x.u else none
def cN(c:hU)(a b:Int):Option Int:=c.findSome? (iV a b)
theorem zQ{e:hU}{a b:Int}:(cN e a b).isSome=true↔YR e a b:=by
 unfold cN;rw[List.findSome?_isSome_iff]
 constructor
 .rintro⟨x,hx,h⟩;unfold iV at h;by_cases c:x.a=a/\x.b=b
  .exact⟨x,hx,.inl c⟩
  .rw[ag c]at h;by_cases d:x.a=b/\x.b=a
   .exact⟨x,hx,.inr ⟨d.2,d.1⟩⟩
   .rw[ag d]at h;cases h
 .rintro⟨x,hx,h⟩;refine⟨x,hx,?_⟩;unfold iV;rcases h with h|h
  .rw[aj h];rfl
  .by_cases c:x.a=a/\x.b=b
   .rw[aj c];rfl
   .rw[ag c,aj ⟨h.2,h.1⟩];rfl
def ss(x:Road)(a b:Int):Prop:=(x.a=a/\x.b=b)\/(x.b=a/\x.a=b)
theorem DA{m:Int}{c:hU}(g:Good m c){a b:Int}{i j:Nat}{x y:Road}(r:c[i]?=some x)(t:c[j]?=some y)(k:ss x a b)(E:ss y a b):i=j:=by
 obtain⟨⟨v,D⟩,_,_⟩:=g.adj (show YR c a b from⟨x,aQ r,k⟩);obtain⟨d,C,R⟩:=AG g v D;have e:∀z∈c,ss z a b->(if z.a≠a/\d z.a=z.b then z.a else z.b)=b:=λz A u=>by
  rcases u with⟨p,q⟩|⟨p,q⟩
  .rw[ag (λw=>w.1 p)];exact q
  .rcases R.road z A with w|w
   .rw[aj w];exact q
   .exact absurd p w.1
 have f:=(az.mp r);have h:=(az.mp t);obtain⟨f,s⟩:=f;obtain⟨h,B⟩:=h;have n:=fY.mp R.one;have o:(c.map λz=>if z.a≠a/\d z.a=z.b then z.a else z.b)[i]'(by rw[aa];exact f)=b:=by
  rw[iW];exact e _ (dj f) (s▸k)
 have l:(c.map λz=>if z.a≠a/\d z.a=z.b then z.a else z.b)[j]'(by rw[aa];exact h)=b:=by
  rw[iW];exact e _ (dj h) (B▸E)
 rcases iB i j with z|z|z
 .exact absurd (o.trans l.symm) (n i j _ _ z)
 .exact z
 .exact absurd (l.trans o.symm) (n j i _ _ z)
theorem KF{a b:Int}{x:Road}(h:¬ss x a b):iV a b x=none:=by
 unfold iV;rw[ag (λz=>h (.inl z)),ag (λz=>h (.inr ⟨z.2,z.1⟩))]
theorem xq{m:Int}{d:hU}(g:Good m d){a b:Int}{i:Nat}{x:Road}(l:d[i]?=some x)(j:ss x a b):cN d a b=iV a b x:=by
 have lt:=(az.mp l);obtain⟨lt,o⟩:=lt;have e:d=d.take i++x::d.drop (i+1):=by rw[<-o,lU,b8]
 have f:cN (d.take i) a b=none:=by
  unfold cN;rw[List.findSome?_eq_none_iff];intro y p;refine KF λr=>?_;obtain⟨k,h⟩:=cJ p;have n:=(az.mp h).1;rw[bq]at n;rw[iA (by lia)]at h;have:=DA g h l r j
  lia
 have s:(iV a b x).isSome=true:=by
  unfold iV;rcases j with z|z
  .rw[aj z];rfl
  .by_cases c:x.a=a/\x.b=b
   .rw[aj c];rfl
   .rw[ag c,aj ⟨z.2,z.1⟩];rfl
 obtain⟨v,q⟩:=ft.mp s;have:cN (d.take i++x::d.drop (i+1)) a b=iV a b x:=by
  unfold cN at f ⊢;rw[jA,f,ke,q]
  rfl
 rw[<-e]at this;exact this
theorem ME{c:hU}{a b:Int}(h:¬YR c a b):cN c a b=none:=by
 cases q:cN c a b with
 | none=>rfl
 | some v=>exact absurd (zQ.mp (by rw[q];rfl)) h
theorem P7{x:Road}(h:x.a≠x.b):iV x.a x.b x=some x.t:=by unfold iV;rw[aj ⟨rfl,rfl⟩]
theorem Px{x:Road}(h:x.a≠x.b):iV x.b x.a x=some x.u:=by unfold iV;rw[ag (λz=>h z.1),aj ⟨rfl,rfl⟩]
theorem Lz{m:Int}{a:hU}(p:Int):mj m a p=(b6 m.toNat).filter λq=>(cN a p q).isSome:=by
 unfold mj
 congr 1
 funext q
 rw[dU,bM,zQ,zN]
end Pb
namespace L2
open PySem PySem.Spec PyProof.Rows
def cg(b:Xd):Prop:=∀a H s e c,¬b a H s E0 e c
theorem t7{a:Xd}(q:cg a){X:Cx}:rf a X E0:=λ_ _ _ _ _ _ _ h=>(q _ _ _ _ _ h).elim
structure Df(K:gg)(mg:g8)(x:Str)(st:Stmt)(ps:hD)(f:Addr)(fd:FuncData):Prop where
 F:Yh K x x st f fd
 m:mg x=some (.ref f)
 b:Binds K fd ps []
section
variable{P:Program}{w:World}{K:gg}{b:g8}{a:Heap}{c:Xd}
theorem Yh.Ϙ{x e:Str}{st:Stmt}{f:Addr}{n:FuncData}{N j:hD}{k:Nat}{m:Sp}(F:Yh K x e st f n)(S:η N j (aK st))(l:∀g H Q E,m g H Q E->g.length=j.length)(r:∀(i:Value) (A:Around) (d:List Env) (s:Shared) (H:Hp) (g:List V) (Q:VK) (E:XK),ϋ k (A.deeper (envOfC e (aK st) s.heap.objs.size f i))->m g H Q E->∃t,X9 (rH c P w K b a N e (aK st) f i A d s H E).nox (iq st) t/\t { nx:=λ_ z=>Q .ω z,rt:=Q } (start N g) H):ϓ P w K b a c (k+1) f n j m:=by
 obtain⟨C,G,kV,p,D,B,i,I,J,rfl,y,u⟩:=F.ex;refine Q4 y u S l λA d s H g Q E o v=>?_;obtain⟨t,h,q⟩:=r i A d s H g Q E o v;exact⟨t,h.nox,q⟩
end
structure Zt(sc:Scope)(x:Str):Prop where
 l:sc.names.lookup x=some .local
 d:(x==("__debug__":Str))=false
 c:(x==("__classdict__":Str))=false
structure YS(sc:Scope)(x:Str):Prop where
 l:sc.names.lookup x=some .cell
 d:(x==("__debug__":Str))=false
 c:(x==("__classdict__":Str))=false
structure Ϝ(sc:Scope)(x:Str):Prop where
 g:sc.names.lookup x=some .globalImplicit
 d:(x==("__debug__":Str))=false
 n:x≠"__name__"
theorem us1{a:gy}(h:a.length=1):∃b,a=[b]:=List.length_eq_one_iff.mp h
theorem us2{a:gy}(h:a.length=2):∃b c,a=[b,c]:=by
 cases a with
 | nil=>cases h
 | cons b t=>
   obtain⟨c,e⟩:=us1 (kO h);subst e;exact⟨b,c,rfl⟩
theorem us3{a:gy}(h:a.length=3):∃b d c,a=[b,d,c]:=by
 cases a with
 | nil=>cases h
 | cons b t=>
   obtain⟨d,c,e⟩:=us2 (kO h);subst e;exact⟨b,d,c,rfl⟩
theorem us4{a:gy}(h:a.length=4):∃b f c d,a=[b,f,c,d]:=by
 cases a with
 | nil=>cases h
 | cons b t=>
   obtain⟨f,c,d,e⟩:=us3 (kO h);subst e;exact⟨b,f,c,d,rfl⟩
theorem us5{a:gy}(h:a.length=5):∃c g d f b,a=[c,g,d,f,b]:=by
 cases a with
 | nil=>cases h
 | cons c t=>
   obtain⟨g,d,f,b,e⟩:=us4 (kO h);subst e;exact⟨c,g,d,f,b,rfl⟩
def nmL(a:Scope)(x:Str):Bool:=decide (a.names.lookup x=some .local)&&!(x==("__debug__":Str))&&!(x==("__classdict__":Str))
def nmC(a:Scope)(x:Str):Bool:=decide (a.names.lookup x=some .cell)&&!(x==("__debug__":Str))&&!(x==("__classdict__":Str))
def nmG(a:Scope)(x:Str):Bool:=decide (a.names.lookup x=some .globalImplicit)&&!(x==("__debug__":Str))&&!decide (x="__name__")
theorem Zt.of{a:Scope}{x:Str}(h:nmL a x=true):Zt a x:=by
 unfold nmL at h;simp only[b9,bM,fX]at h;exact⟨h.1.1,h.1.2,h.2⟩
theorem YS.of{a:Scope}{x:Str}(h:nmC a x=true):YS a x:=by
 unfold nmC at h;simp only[b9,bM,fX]at h;exact⟨h.1.1,h.1.2,h.2⟩
theorem Ϝ.of{a:Scope}{x:Str}(h:nmG a x=true):Ϝ a x:=by
 unfold nmG at h;simp only[b9,bM,fX,decide_eq_false_iff_not]at h;exact⟨h.1.1,h.1.2,h.2⟩
def TL(N b:hD)(a:Scope):Bool:=decide (a.kind=.function)&&!a.isCoroutine&&!a.isGenerator&&decide N.Nodup&&decide (N.take b.length=b)&&(b.all λx=>decide (a.names.lookup x=some .local\/a.names.lookup x=some .cell))&&(a.names.all λy=>decide (y.2≠.free))
theorem η.of{N a:hD}{b:Scope}(h:TL N a b=true:=by kernel_rfl):η N a b:=by
 unfold TL at h;simp only[b9,bM,fX,dX]at h;obtain⟨⟨⟨⟨⟨⟨g,i⟩,f⟩,c⟩,e⟩,j⟩,d⟩:=h;exact⟨g,i,f,c,e,j,d⟩
theorem pvl{X:Cx}(i:Nat){x:Str}{a:Pos}(n:Zt X.env.scope x)(b:X.N[i]?=some x:=by rfl):PE X (.Name x a) (xI i):=Ft b (.inl n.l) n.d n.c
theorem pvc{X:Cx}(i:Nat){x:Str}{a:Pos}(n:YS X.env.scope x)(b:X.N[i]?=some x:=by rfl):PE X (.Name x a) (xI i):=Ft b (.inr (.inl n.l)) n.d n.c
theorem MA{g:Xd}{P:Program}{w:World}{K:gg}{e:g8}{c:Heap}{N:hD}{d:Str}{a:Scope}{f:Addr}{h:Value}{A:Around}{b:List Env}{s:Shared}{H:Hp}{E:XK}:(rH g P w K e c N d a f h A b s H E).K=K:=rfl
theorem DQ(D:Ends)(a:St)(H:Hp):Zh D a H=False:=rfl
theorem RF(i j:Int):rK (.int i) (.int j)=true:=rfl
theorem RL(i j:Bool):rK (.bl i) (.bl j)=true:=rfl
theorem Rg(i:Int):rK (.int i) .ω=true:=rfl
theorem RM(i:Int):rK .ω (.int i)=true:=rfl
theorem Sd:rK .ω .ω=true:=rfl
theorem Sh(i j:Str):rK (.str i) (.str j)=true:=rfl
theorem W2{K:gg}{H:Hp}{p:Addr}{a:List V}{i:Int}{v:V}{Q:VK}(h:H p=some (.tup a))(e:ϲ a i=some v)(q:Q v H):Ou K (.ref p) (.int i) H Q:=⟨p,a,i,v,rfl,rfl,Ξ.of h,e,q⟩
theorem Υ{K:gg}{H:Hp}{p:Addr}{a:List V}{i:Int}{v:V}{Q:VK}(h:H p=some (.lst a))(e:ϲ a i=some v)(q:Q v H):zg K (.ref p) (.int i) H Q:=⟨p,a,i,v,rfl,rfl,ξ.of h,e,q⟩
theorem ixS{K:gg}{H:Hp}{p:Addr}{a:List V}{i:Int}{v:V}{Q:VK}(h:ξ K H p a)(e:ϲ a i=some v)(q:Q v H):zg K (.ref p) (.int i) H Q:=⟨p,a,i,v,rfl,rfl,h,e,q⟩
theorem Io{K:gg}{H:Hp}{l:Addr}{a:List V}(h:H l=some (.lst a)):tyV K "list" (.ref l) H:=.inl ⟨rfl,_,ξ.of h⟩
theorem o9{H:Hp}{l:Addr}{a:List V}{y:V}{Q:VK}(h:H l=some (.lst a))(b:a.length<sizeLine)(q:Q .ω (upd H l (.lst (a++[y])))):Xf (.ref l) [y] H Q:=⟨l,a,y,rfl,rfl,h,b,q⟩
theorem Sr{H:Hp}{l:Addr}{a:List V}{i:Int}{y:V}{Q:VK}(h:H l=some (.lst a))(c:0<=i)(d:i<=a.length)(b:a.length<sizeLine)(q:Q .ω (upd H l (.lst (a.take i.toNat++y::a.drop i.toNat)))):Yt (.ref l) [.int i,y] H Q:=⟨l,a,i,y,rfl,rfl,h,c,d,b,q⟩
theorem Lh{H:Hp}{l:Addr}{a:List V}{y:V}{Q:VK}(h:H l=some (.lst (a++[y])))(q:Q y (upd H l (.lst a))):adq (.ref l) [] H Q:=⟨l,a++[y],y,rfl,rfl,h,by simp,by rw[List.dropLast_concat];exact q⟩
theorem d5{n:Nat}(h:n<=100000):n<sizeLine:=gm h (by decide)
theorem cm{n:Nat}(h:n<=100000):n<=sizeLine:=iX (d5 h)
theorem cT{a:Type}{b:List a}{i:Int}{v:a}(c:0<=i)(h:b[i.toNat]?=some v):ϲ b i=some v:=by
 obtain⟨n,rfl⟩:∃n:Nat,i=n:=⟨i.toNat,by lia⟩;exact IW (by simpa using h)
theorem vS{X:Cx}{x:Str}{i:Int}{a:Pos}(b:Gl X x)(c:∃t,X.mg x=some (.int i t))(hd:(x==("__debug__":Str))=false:=by decide):PE X (.Name x a) (tC (.int i)):=by
 obtain⟨t,e⟩:=c;exact Sg b e ⟨t,rfl⟩ hd
def Itx(K:gg):Bool->Addr->It
 | true,a=>Itl K a
 | false,a=>Itt K a
def P8(K:gg)(c:Bool)(f:TE):TI:=λd H R=>f d H λx b=>∃a,x=.ref a/\(∃e,Ϫ K c b a e)/\R (Itx K c a) b
theorem Lm{X:Cx}{d l:Expr}{b:TE}(c:Bool)(a:PE X l b):PI X d l (P8 X.K c b):=by
 cases c
 .exact uL a
 .exact gY a
def uS(J:It)(p:Addr)(Q:VK)(g:TG)(r:TT)(o:TE)(h:St)(n:Hp):Prop:=∃W:Nat->Nat->List V->St->Hp->Prop,(∃m,W 0 m [] h n)/\∀i m c d f,W i m c d f->(J.stop i f/\Q (.ref p) f)\/(J.go i f/\∀x l,J.yld i f x l->g x d l λa q=>r a q λb j=>
 if b=true then o a j λy k=>k p=some (.lst c)/\c.length<sizeLine/\∃e,e<m/\W (i+1) e (c++[y]) a (upd k p (.lst (c++[y])))
 else ∃e,e<m/\W (i+1) e c a j)
theorem Dw{a:Nat}{e:List Nat}{h:TI}{g:TG}{f:TT}{c:TE}{b:St}{H:Hp}{Q:VK}:KL a e h g f c b H Q=h b H λJ d=>∀p,d p=none->uS J p Q g f c (mN a e b) (upd d p (.lst [])):=rfl
def sf(J:It)(D:Ends)(g:TG)(h:TS)(a:St)(H:Hp):Prop:=∃W:Nat->Nat->St->Hp->Prop,(∃m,W 0 m a H)/\∀i m a H,W i m a H->(J.stop i H/\D.nx a H)\/(J.go i H/\∃N:St->Hp->Prop,(∀c b,N c b->∃e,e<m/\W (i+1) e c b)/\∀x b,J.yld i H x b->g x a b λd f=>h { D with nx:=N,ct:=N,bk:=D.nx } d f)
theorem Ir{b:TI}{g:TG}{c:TS}{D:Ends}{a:St}{H:Hp}:TN b g c D a H=b a H λJ d=>sf J D g c a d:=rfl
theorem lQ{K:gg}{c:Bool}{a p:Addr}{xs:List V}{Q:VK}{g:TG}{A:TT}{u:TE}{n:St}{t:Hp}(l:Nat->List V->St->Hp->Prop)(D:l 0 [] n t)(B:∀i d f H,i<=xs.length->l i d f H->Ϫ K c H a xs)(E:∀(i:Nat) (x:V) (d:List V) (f:St) (H:Hp) (N:List V->St->Hp->Prop),(∀o h k,l (i+1) o h k->N o h k)->xs[i]?=some x->l i d f H->g x f H λj C=>A j C λb v=>
 if b=true then u j v λy w=>w p=some (.lst d)/\d.length<sizeLine/\N (d++[y]) j (upd w p (.lst (d++[y])))else N d j v)(I:∀d f H,l xs.length d f H->Q (.ref p) H):uS (Itx K c a) p Q g A u n t:=by
 refine⟨λi m d f H=>m=xs.length-i/\i<=xs.length/\l i d f H,⟨xs.length,by simp,bj _,D⟩,?_⟩;rintro i m d f H ⟨rfl,F,pv⟩;have q:=B i d f H F pv;by_cases s:i<xs.length
 .refine .inr ⟨?_,λx k y=>?_⟩
  .cases c
   .exact⟨xs,xs[i],q,by simp[s]⟩
   .exact⟨xs,xs[i],q,by simp[s]⟩
  .have e:k=H/\xs[i]?=some x:=by
    cases c
    .exact⟨y.1,y.2 xs q⟩
    .exact⟨y.1,y.2 xs q⟩
   obtain⟨rfl,G⟩:=e;exact E i x d f _ (λo h k=>∃z,z<xs.length-i/\(z=xs.length-(i+1)/\i+1<=xs.length/\l (i+1) o h k)) (λo h k r=>⟨xs.length-(i+1),by lia,rfl,s,r⟩) G pv
 .have e:i=xs.length:=by lia
  subst e;refine .inl ⟨?_,I d f H pv⟩;cases c
  .exact⟨xs,q,ap _⟩
  .exact⟨xs,q,ap _⟩
theorem oC{lo:Int}{n:Nat}{p:Addr}{Q:VK}{g:TG}{w:TT}{s:TE}{k:St}{r:Hp}(j:Nat->List V->St->Hp->Prop)(A:j 0 [] k r)(B:∀(i:Nat) (a:List V) (d:St) (H:Hp) (N:List V->St->Hp->Prop),(∀l c h,j (i+1) l c h->N l c h)->i<n->j i a d H->g (.int (lo+i)) d H λf z=>w f z λb t=>
 if b=true then s f t λy u=>u p=some (.lst a)/\a.length<sizeLine/\N (a++[y]) f (upd u p (.lst (a++[y])))else N a f t)(C:∀a d H,j n a d H->Q (.ref p) H):uS (ZP lo n) p Q g w s k r:=by
 refine⟨λi m a d H=>m=n-i/\i<=n/\j i a d H,⟨n,by simp,bj _,A⟩,?_⟩;rintro i m a d H ⟨rfl,D,pv⟩;by_cases q:i<n
 .refine .inr ⟨q,λx h y=>?_⟩;obtain⟨rfl,rfl⟩:=y;exact B i a d _ (λl c h=>∃v,v<n-i/\(v=n-(i+1)/\i+1<=n/\j (i+1) l c h)) (λl c h o=>⟨n-(i+1),by lia,rfl,q,o⟩) q pv
 .have e:i=n:=by lia
  subst e;exact .inl ⟨ap _,C a d H pv⟩
theorem T3:bootBuiltins "int"=some (.type "int"):=by decide +kernel
theorem Fo:bootBuiltins "tuple"=some (.type "tuple"):=by decide +kernel
theorem RD:bootBuiltins "bool"=some (.type "bool"):=by decide +kernel
section
variable{X:Cx}{a b o e:Expr}{n:List Expr}{q m i:TE}{t:TA}{g c j:Pos}{f d:Str}{T k:String}{r:V->List V->Hp->VK->Prop}
theorem CZ(K:gg)(h:X.K=K):lD X (.type "tuple") (λu H Q=>∃p s,u=[.ref p]/\((ξ K H p s/\∀l,H l=none->Q (.ref l) (upd H l (.tup s)))\/(Ξ K H p s/\Q (.ref p) H))):=by subst h;exact oW
theorem oZ(K:gg)(h:X.K=K):IxR X (zg K):=by subst h;exact bL
theorem Cg(K:gg)(h:X.K=K):IxR X (Ou K):=by subst h;exact jw
end
theorem Br{x:Str}{k:NameKind}:∀{l:List (Str×NameKind)},l.lookup x=some k->∃y,(y,k)∈l
 | [],h=>by simp at h
 | (n,j)::r,h=>by
   rw[cH]at h;cases q:x==n with
   | true=>
     rw[q]at h;cases h;exact⟨n,aJ⟩
   | false=>
     rw[q]at h;obtain⟨y,a⟩:=Br h;exact⟨y,aG _ a⟩
theorem tx{X:Cx}{Nc:hD}{a:Scope}(own:Nat)(hf:∀y∈a.names,y.2≠.free)(hc:∀y∈a.names,y.2≠.cell)(hk:a.kind=.function)(o:∀y∈a.names,y.2=.local->a.names.lookup y.1=some .local)(j:Nc.length=own):ϥ X Nc own [] a [] where
 abB:=closureFor_none hf
 kind:=hk
 Yi:=hc
 names:=o
 cells:=λx c h=>by cases h
 has:=λx h=>by
  have b:∀k,(relabel a X.env).names.lookup x=some k->k≠.cell/\k≠.free:=λk e=>by
   obtain⟨y,p⟩:=Br e;obtain⟨⟨n,k0⟩,f,g⟩:=aP.mp p;have d:=hf _ f;have m:=hc _ f;have l:(k0==NameKind.free)=false:=(by simpa using d);simp only[l,iZ,dI,if_false]at g;cases g;exact⟨m,d⟩
  rcases h with h|h
  .exact absurd rfl (b _ h).1
  .exact absurd rfl (b _ h).2
 len:=by simpa using j
 outer:=λi x h=>by
  rw[bI (by lia)]at h;cases h
theorem ww{K:gg}{a:Addr}{xs:List V}{g:TG}{f:TS}{D:Ends}{b:St}{H:Hp}(c:Nat->St->Hp->Prop)(l:c 0 b H)(j:∀i b H,i<=xs.length->c i b H->ξ K H a xs)(m:∀(i:Nat) (x:V) (b:St) (H:Hp) (N:St->Hp->Prop),(∀d h,c (i+1) d h->N d h)->xs[i]?=some x->c i b H->g x b H λe k=>f { D with nx:=N,ct:=N,bk:=D.nx } e k)(o:∀b H,c xs.length b H->D.nx b H):sf (Itl K a) D g f b H:=QS c l j (λi x b H n p=>m i x b H (c (i+1)) (λ_ _ z=>z) n p) o
theorem FV{K:gg}{a:Addr}{xs:List V}{g:TG}{f:TS}{D:Ends}{b:St}{H:Hp}(c:Nat->St->Hp->Prop)(l:c 0 b H)(j:∀i b H,i<=xs.length->c i b H->Ξ K H a xs)(m:∀(i:Nat) (x:V) (b:St) (H:Hp) (N:St->Hp->Prop),(∀d h,c (i+1) d h->N d h)->xs[i]?=some x->c i b H->g x b H λe k=>f { D with nx:=N,ct:=N,bk:=D.nx } e k)(o:∀b H,c xs.length b H->D.nx b H):sf (Itt K a) D g f b H:=CO c l j (λi x b H n p=>m i x b H (c (i+1)) (λ_ _ z=>z) n p) o
theorem p8{lo:Int}{n:Nat}{g:TG}{e:TS}{D:Ends}{a:St}{H:Hp}(b:Nat->St->Hp->Prop)(j:b 0 a H)(k:∀(i:Nat) (a:St) (H:Hp) (N:St->Hp->Prop),(∀c f,b (i+1) c f->N c f)->i<n->b i a H->g (.int (lo+i)) a H λd h=>e { D with nx:=N,ct:=N,bk:=D.nx } d h)(m:∀a H,b n a H->D.nx a H):sf (ZP lo n) D g e a H:=Mb b j (λi a H l p=>k i a H (b (i+1)) (λ_ _ z=>z) l p) m
theorem u9{c:TT}{h:TS}{D:Ends}{e:St}{H:Hp}(W:Nat->St->Hp->Prop)(j:Nat)(k:W j e H)(m:∀(n:Nat) (e:St) (H:Hp) (N:St->Hp->Prop),(∀g a d,g<n->W g a d->N a d)->(∀a d,N a d->∃f,f<n/\W f a d)->W n e H->c e H λb i=>if b=true then ∃N:St->Hp->Prop,(∀a d,N a d->∃f,f<n/\W f a d)/\h { D with nx:=N,ct:=N,bk:=D.nx } e i else D.nx e i):GB c h D e H:=⟨W,⟨j,k⟩,λn e H w=>m n e H (λa d=>∃f,f<n/\W f a d) (λg _ _ l o=>⟨g,l,o⟩) (λ_ _ z=>z) w⟩
theorem xR{a:Int}{n:Nat}(h:a.natAbs<2^n):Builtin.Int.intBits a<=n:=by
 unfold Builtin.Int.intBits;by_cases z:a=0
 .subst z;simp
 .have hz:(a==0)=false:=by simpa using z
  rw[hz];simp only[dI,if_false];have:=(Nat.log2_lt (by lia)).mpr h
  lia
theorem S6{a b:Int}(d:a.natAbs<2^4000)(c:b.natAbs<2^4000):IntMulOk a b:=IntMulOk.of_bits (aL (xR d) (by decide)) (aL (xR c) (by decide))
open Pb
def lG(r:Road):List V:=[.int r.a,.int r.b,.int r.t,.int r.u]
abbrev ν(H:Hp):List Addr->List Road->Prop:=Paired λp r=>H p=some (.tup (lG r))
theorem ν.same{H b:Hp}(e:δ H b){c:gw}{a:hU}(h:ν H c a):ν b c a:=Paired.imp' (λp r q=>e p _ q) h
theorem ν.get{H:Hp}:∀{c:gw}{d:hU}{i:Nat}{x:V},ν H c d->(c.map V.ref)[i]?=some x->∃p r,x=.ref p/\c[i]?=some p/\d[i]?=some r/\H p=some (.tup (lG r))
 | _,_,i,x,.nil,e=>by simp at e
 | _,_,0,x,.cons (a:=p) (b:=r) h hs,e=>⟨p,r,by simpa using e.symm,by simp,by simp,h⟩
 | a::l1,_,i+1,x,.cons h hs,e=>by
   have g:(List.map V.ref l1)[i]?=some x:=by simpa using e
   obtain⟨p,r,k,l,j,f⟩:=ν.get hs g;exact⟨p,r,k,by simpa using l,by simpa using j,f⟩
theorem δ.tup{K:gg}{H b:Hp}{a:Addr}{xs:List V}(e:δ H b)(h:Ξ K H a xs):Ξ K b a xs:=by
 rcases h with(h|⟨o,h⟩)|h
 .exact .inl (.inl (e _ _ h))
 .exact .inl (.inr ⟨o,e _ _ h⟩)
 .exact .inr h
theorem δ.WZ{K:gg}{H b:Hp}{c:Bool}{a:Addr}{d:List V}(e:δ H b)(h:Ϫ K c H a d):Ϫ K c b a d:=by
 cases c
 .exact δ.tup e h
 .exact δ.seq e h
theorem δ.new{H:Hp}{p:Addr}(o:HO)(h:H p=none):δ H (upd H p o):=λb u e=>by rw[aR (cq e h)];exact e
end L2
namespace L2
open PySem PySem.Spec PyProof.Rows
abbrev bmV:List Value:=[.type "ValueError",.type "Exception",.type "BaseException",.type "object"]
def pV(h:Heap)(e:Addr)(cls:Value)(d:Option Addr)(a:Value):Prop:=∃b c,h.get? e=some b/\b.cls=cls/\b.dict=d/\b.data=.fields c/\c[1]?=some a/\c[2]?=some .none
def TbO(h:Heap)(T:Addr)(c:Value):Prop:=∃b a,h.get? T=some b/\b.data=.fields a/\a[3]?=some c
structure ZT(h:Heap)(ea T:Addr)(cls:Value)(od:Option Addr)(fl:Value):Prop where
 e:pV h ea cls od (.ref T)
 t:TbO h T fl
 ne:T≠ea
structure Kept(fs xs:gw)(h h':Heap):Prop where
 keep:∀b o,h.get? b=some o->b∉fs->b∉xs->h'.get? b=some o
 slot:∀b o,h.get? b=some o->b∈fs->b∉xs->∃sl,h'.get? b=some { o with slots:=sl }
 there:∀b o,h.get? b=some o->∃o',h'.get? b=some o'
theorem Kept.mono{a d g:gw}{h c:Heap}(k:Kept a d h c)(s:∀b∈d,b∈g):Kept a g h c:=⟨λb o e f x=>k.keep b o e f λz=>x (s b z),λb o e f x=>k.slot b o e f λz=>x (s b z),k.there⟩
theorem Kept.trans{d g:gw}{h j k:Heap}(a:Kept d g h j)(b:Kept d g j k):Kept d g h k where
 keep:=λc o e f x=>b.keep c o (a.keep c o e f x) f x
 slot:=λc o e f x=>by
  obtain⟨s1,i⟩:=a.slot c o e f x;obtain⟨n,m⟩:=b.slot c _ i f x;exact⟨n,m⟩
 there:=λc o e=>by
  obtain⟨l,i⟩:=a.there c o e;exact b.there c l i
theorem Kept.abI{c d:gw}{h a:Heap}(k:∀b o,h.get? b=some o->a.get? b=some o):Kept c d h a:=⟨λb o e _ _=>k b o e,λb o e _ _=>⟨o.slots,k b o e⟩,λb o e=>⟨o,k b o e⟩⟩
theorem zW{g d:gw}{h:Heap}{a:Addr}{f:Obj}{j:Array Value}{i:Nat}{v:Value}(m:h.get? a=some f)(l:f.data=.fields j)(k:a∈d):Kept g d h (h.update a (Obj.mapFields (·.setIfInBounds i v))):=by
 have c:∀b o,h.get? b=some o->b∉d->(h.update a (Obj.mapFields (·.setIfInBounds i v))).get? b=some o:=λb o e x=>by
  rw[dz _ _ (λ(z:a=b)=>x (z▸k))];exact e
 refine⟨λb o e _ x=>c b o e x,λb o e _ x=>⟨o.slots,c b o e x⟩,λb o e=>?_⟩;by_cases z:b=a
 .subst z;exact⟨_,eZ _ m (gN (eM l _))⟩
 .rw[dz _ _ (Ne.symm z)];exact⟨o,e⟩
theorem Ni{h:Heap}{b:Addr}{a r v:Value}{f:Option Addr}(e:pV h b a f r):pV (h.update b (Obj.mapFields (·.setIfInBounds 1 v))) b a f v:=by
 obtain⟨o,q,k,m,i,g,p,n⟩:=e;have l:1<q.size:=(f7.mp p).1;refine⟨_,_,eZ _ k (gN (eM g _)),?_,?_,eM g _,by simp[l],by rw[Array.getElem?_setIfInBounds_ne (by decide)];exact n⟩
 .rw[<-m];exact Obj.cls_mapFields _ _
 .rw[<-i];obtain⟨c,d,j,s⟩:=o;cases j<;>rfl
theorem Aq{h:Heap}{c a:Addr}{b g:Value}{d:Option Addr}{f:Obj->Obj}(e:pV h c b d g)(ne:a≠c):pV (h.update a f) c b d g:=by
 obtain⟨i,j,k,l⟩:=e;exact⟨i,j,by rw[dz _ _ ne];exact k,l⟩
theorem DZ{h c:Heap}{b:Addr}{a f:Value}{d:Option Addr}(e:pV h b a d f)(k:∀o,h.get? b=some o->c.get? b=some o):pV c b a d f:=by
 obtain⟨g,i,j,l⟩:=e;exact⟨g,i,k _ j,l⟩
theorem LU{h a:Heap}{c:Addr}{b n:Value}{i:Option Addr}{l:List Env}(e:pV h c b i n)(f:h.FunFrames a l):c∉ϭ l:=λz=>by
 obtain⟨p,j,k,_,_,g,_⟩:=e;obtain⟨_,o,d,m⟩:=f.mem z;rw[k]at d;cases d;exact m j g
theorem OO{h a:Heap}{T:Addr}{d:Value}{l:List Env}(e:TbO h T d)(f:h.FunFrames a l):T∉ϭ l:=λz=>by
 obtain⟨k,g,i,c,_⟩:=e;obtain⟨_,o,b,j⟩:=f.mem z;rw[i]at b;cases b;exact j g c
section
variable{M:Model}{A:Around}{E:gf}{s:Shared}{Q:Unit->Shared->Prop}{fs:gw}{i T L:Addr}{g l k:Value}{j:Option Addr}{base:Heap}{d:Env}{c:List Env}
theorem Jb(r:ZT s.heap i T g j l)(h:∀b,ZT b i T g j .none->Kept fs [T] s.heap b->Q () { s with heap:=b }):wpAny M A (setFlight (.ref i) none) Q E s:=by
 obtain⟨⟨p,u,n,w,q,f,m,x⟩,⟨y,t,e,a,v⟩,ne⟩:=r;have o:3<t.size:=(f7.mp v).1;unfold setFlight;refine ak (cD n f m ?_);rw[aj (by simp:(Value.ref T != Value.none)=true)];refine im e a o (h _ ⟨Aq ⟨p,u,n,w,q,f,m,x⟩ ne,⟨_,_,eZ _ e (gN (eM a _)),eM a _,by simp[o]⟩,ne⟩ (zW e a (by simp)))
theorem Fy{m:Value}{w:Bool}(u:A.frames=some (d::c))(B:s.heap.FunFrames base (d::c))(K:d.frame=some L)(r:pV s.heap i g j k)(h:∀v F,ZT v i F g j (rawInt L)->Kept (ϭ (d::c)) [i] s.heap v->s.heap.get? F=none->Q () { s with heap:=v }):wpAny M A (do let a <-frameOf d;let p <-entryPlaceOf L w;let b <-EntryCells.newEntry m a .none (rawInt L) .none p;setField (.ref i) 1 b) Q E s:=by
 have I:=LU r B;refine ak (wpAny_frameOf_fun u B K λn q=>ak (wpAny_entryPlaceOf λp J=>?_));unfold EntryCells.newEntry newFields;refine ak (gJ ?_ (J.sizeOk5 _ _ _ _ _));have y:pV n i g j k:=DZ r λo e=>(q.2.1 i I).trans e;generalize G:({ cls:=.type "traceback",dict:=none,data:=.fields ([m,.ref L,.none,rawInt L,.none]++(if p.isEmpty then List.replicate 6 Value.none else p)).toArray }:Obj)=t;have C:pV (n.push t) i g j k:=DZ y λo e=>ar _ e;obtain⟨S,U,D,R,O,x,H,V⟩:=id C;have lt:i<n.objs.size:=by
  obtain⟨_,_,e,_⟩:=y;exact aH e
 have N:(n.push t).get? n.objs.size=some t:=bf n (by rw[<-G];rfl);refine im D x (f7.mp H).1 (h _ n.objs.size ⟨Ni C,⟨t,([m,.ref L,.none,rawInt L,.none]++(if p.isEmpty then List.replicate 6 Value.none else p)).toArray,?_,by rw[<-G],by simp⟩,eW lt⟩ ?_ ?_)
 .rw[dz _ _ (aV lt)];exact N
 .have k1:Kept (ϭ (d::c)) [i] s.heap n:=⟨λb o e f _=>(q.2.1 b f).trans e,λb o e _ _=>q.2.2 b o e,λb o e=>by
   obtain⟨P,z⟩:=q.2.2 b o e;exact⟨_,z⟩⟩
  exact k1.trans ((Kept.abI λb o e=>ar _ e).trans (zW D x (by simp)))
 .exact Heap.get?_none_of_le (by rw[q.1];exact ap _)
theorem Qu(b:A.frames=some (d::c))(o:s.heap.FunFrames base (d::c))(f:d.frame=some L)(r:pV s.heap i g j .none)(h:∀a e,ZT a i e g j (rawInt L)->Kept (ϭ (d::c)) [i] s.heap a->s.heap.get? e=none->Q () { s with heap:=a }):wpAny M A (noteFrame (.ref i) d) Q E s:=by
 obtain⟨q,t,p,v,u,n,m,w⟩:=id r;unfold noteFrame;simp only[f];refine ak (cD p n m ?_);rw[ag (by decide)];exact Fy b o f r h
theorem Sf(u:A.frames=some (d::c))(v:s.heap.FunFrames base (d::c))(x:d.frame=some L)(r:ZT s.heap i T g j .none)(h:∀f a,ZT f i a g j (rawInt L)->Kept (ϭ (d::c)) [i,T] s.heap f->s.heap.get? a=none->Q () { s with heap:=f }):wpAny M A (noteFrame (.ref i) d) Q E s:=by
 have O:=OO r.t v;obtain⟨⟨R,S,F,P,K,B,G,U⟩,⟨N,C,m,p,w⟩,ne⟩:=id r;unfold noteFrame;simp only[x];refine ak (cD F B G ?_);rw[aj (by simp:(Value.ref T != Value.none)=true)];refine ak (cD m p w ?_);rw[ag (by simp[rawInt])];have y:Kept (ϭ (d::c)) [i,T] s.heap (s.heap.update T (Obj.mapFields (·.setIfInBounds 3 Value.none))):=zW m p (by simp);refine ak (im m p (f7.mp w).1 ?_);refine Fy u (v.of_keeps λb o e H=>⟨o,?_,rfl⟩) x (Aq r.e ne) λf a D I n=>h f a D (y.trans (I.mono (by simp))) ?_
 .by_cases z:b=T
  .subst z;rw[m]at e;cases e;exact absurd p (H C)
  .rw[dz _ _ (Ne.symm z)];exact e
 .cases q:s.heap.get? a with
  | none=>rfl
  | some o=>
    obtain⟨J,z⟩:=y.there a o q;rw[z]at n;cases n
theorem L5(a:A.frames=some (d::c))(v:s.heap.FunFrames base (d::c))(F:d.frame=some L)(r:pV s.heap i g j .none)(h:∀m t,ZT m i t g j .none->Kept (ϭ (d::c)) [i] s.heap m->s.heap.get? t=none->Q () { s with heap:=m }):wpAny M A (leaving d (.ref i)) Q E s:=by
 unfold leaving;refine ak (Qu a v F r λw C u q n=>Jb (fs:=ϭ (d::c)) (s:={ s with heap:=w }) u λz y p=>h z C y ⟨λb o e f x=>p.keep b o (q.keep b o e f x) f ?_,λb o e f x=>?_,λb o e=>?_⟩ n)
 .simp only[aI];rintro rfl;rw[n]at e;cases e
 .obtain⟨s1,e1⟩:=q.slot b o e f x;obtain⟨B,D⟩:=p.slot b _ e1 f (by
   simp only[aI];rintro rfl;rw[n]at e;cases e)
  exact⟨B,D⟩
 .obtain⟨o1,e1⟩:=q.there b o e;exact p.there b o1 e1
theorem PL(a:A.frames=some (d::c))(v:s.heap.FunFrames base (d::c))(F:d.frame=some L)(r:ZT s.heap i T g j .none)(h:∀m t,ZT m i t g j .none->Kept (ϭ (d::c)) [i,T] s.heap m->s.heap.get? t=none->Q () { s with heap:=m }):wpAny M A (leaving d (.ref i)) Q E s:=by
 unfold leaving;refine ak (Sf a v F r λw C u q n=>Jb (fs:=ϭ (d::c)) (s:={ s with heap:=w }) u λz y p=>h z C y ⟨λb o e f x=>p.keep b o (q.keep b o e f x) f ?_,λb o e f x=>?_,λb o e=>?_⟩ n)
 .simp only[aI];rintro rfl;rw[n]at e;cases e
 .obtain⟨s1,e1⟩:=q.slot b o e f x;obtain⟨B,D⟩:=p.slot b _ e1 f (by
   simp only[aI];rintro rfl;rw[n]at e;cases e)
  exact⟨B,D⟩
 .obtain⟨o1,e1⟩:=q.there b o e;exact p.there b o1 e1
end
def Ε(P:Program)(w:World):Xd:=λa H s E e c=>∃(f T:Addr)(d:Value)(g:Option Addr)(b:Hp),e=.ref f/\c.os=s.os/\AllBare c.gens/\Un (ϭ a) [] H b s.heap c.heap/\Ϭ P w b c.heap/\b f=none/\b T=none/\s.heap.get? f=none/\s.heap.get? T=none/\ZT c.heap f T d g .none/\E d g b
theorem bW{P:Program}{w:World}:cg (Ε P w):=λa H s e b h=>by
 obtain⟨_,_,_,_,_,_,_,_,_,_,_,_,_,_,_,z⟩:=h;exact z
theorem ER{P:Program}{w:World}{H:Hp}{h c:Heap}{d g:gw}(x:Ϭ P w H h)(k:Kept d g h c)(f:∀b∈d,H b=none)(u:∀b∈g,H b=none):Ϭ P w H c:=λa o e=>by
 refine(x a o e).iF (λb i hb q=>k.keep b i q ?_ ?_) (λ_ q=>q) λ_ _ q=>q
 .intro z;rcases hb with rfl|hb
  .rw[f _ z]at e;cases e
  .rw[f _ z]at hb;cases hb
 .intro z;rcases hb with rfl|hb
  .rw[u _ z]at e;cases e
  .rw[u _ z]at hb;cases hb
theorem KP{P:Program}{w:World}{H:Hp}{h:Heap}{b:Addr}(x:Ϭ P w H h)(n:h.get? b=none):H b=none:=by
 cases q:H b with
 | none=>rfl
 | some o=>
   have lt:=x.lt q;cases z:h.get? b with
   | some o'=>rw[z]at n;cases n
   | none=>
     exfalso
     have:=(x b o q);cases o with
     | lst xs=>obtain⟨_,_,_,_,e⟩:=this;rw[n]at e;cases e
     | tup xs=>obtain⟨_,_,_,a,e,_⟩:=this;rw[n]at e;cases e
     | dK θ=>obtain⟨_,_,_,_,a,_,_,e,_⟩:=this;rw[n]at e;cases e
     | dT θ=>obtain⟨_,_,_,_,a,_,_,e,_⟩:=this;rw[n]at e;cases e
     | set S m=>obtain⟨a,_,_,_,e,_⟩:=this;rw[n]at e;cases e
     | ins C dx fs=>obtain⟨_,_,_,e,_⟩:=this;rw[n]at e;cases e
     | own y=>obtain⟨_,e⟩:=this;rw[n]at e;cases e
     | xd fs=>obtain⟨_,⟨_,_,_,e,_⟩,_⟩:=this;rw[n]at e;cases e
     | Χ lo hi=>obtain⟨_,_,_,e⟩:=this;rw[n]at e;cases e
     | X4 a u=>obtain⟨e,_⟩:=this;rw[n]at e;cases e
     | tbl ps=>have e:h.get? b=some _:=this;rw[n]at e;cases e
     | met f y=>have e:h.get? b=some _:=this;rw[n]at e;cases e
     | ext φ=>obtain⟨_,⟨_,e⟩,_⟩:=this;rw[n]at e;cases e
section
variable{P:Program}{w:World}{K:gg}{i:g8}{base:Heap}{N:hD}{d:Str}{c:Scope}{f:Addr}{g:Value}{A:Around}{a:List Env}{s:Shared}{H:Hp}{E:XK}
theorem F4{x:Xd}{j:gn}{v:St}{r:Hp}{t:Shared}{u:Heap}{q:gw}(J:Inv (rH x P w K i base N d c f g A a s H E) j v r t)(k:Kept (ϭ (envOfC d c s.heap.objs.size f g::a)) q t.heap u)(y:∀b∈q,s.heap.get? b=none):Un (ϭ a) [] H r s.heap u:=by
 have h:Un (ϭ a) [] H r s.heap t.heap:=J.base;have nl:∀b o,s.heap.get? b=some o->b∉q:=λb o e z=>by rw[y b z]at e;cases e
 have B:∀b o,s.heap.get? b=some o->b∉ϭ a->b∉ϭ (envOfC d c s.heap.objs.size f g::a):=λb o e z m=>by
  unfold ϭ at m z;rw[iw]at m;have:(envOfC d c s.heap.objs.size f g).frame=some s.heap.objs.size:=rfl;rw[this]at m;rcases ax.mp m with m|m
  .exact absurd (aH e) (by rw[m];exact cW _)
  .exact z m
 refine⟨λb o e n p l=>k.keep b o (h.keep b o e n p l) (B b o e p) (nl b o e),λb o e n p l=>?_,h.free,λb o e l=>?_,h.oR,h.iN,h.rW⟩
 .obtain⟨sl,e1⟩:=h.slot b o e n p l;by_cases m:b∈ϭ (envOfC d c s.heap.objs.size f g::a)
  .obtain⟨s2,e2⟩:=k.slot b _ e1 m (nl b o e);exact⟨s2,e2⟩
  .exact⟨sl,k.keep b _ e1 m (nl b o e)⟩
 .obtain⟨o1,e1⟩:=h.there b o e l;exact k.there b o1 e1
theorem qu{p:Xd}{h:gn}{l:St}{k:Hp}{j:Shared}(J:Inv (rH p P w K i base N d c f g A a s H E) h l k j){b:Addr}(n:j.heap.get? b=none):s.heap.get? b=none:=by
 cases q:s.heap.get? b with
 | none=>rfl
 | some o=>
   have m:Un (ϭ a) [] H k s.heap j.heap:=J.base;obtain⟨r,e⟩:=m.there b o q (by simp);rw[n]at e;cases e
theorem dR:rf (Ε P w) (rH (Ε P w) P w K i base N d c f g A a s H E) E:=by
 intro n F O G e M I h;obtain⟨u,T,m,C,t,rfl,os,bare,v,l,p,z,r,y,x,q⟩:=h;have J:=I.aaJ (ch:=[]) os v l bare (by simp);refine PL (base:=base) J.ok.frames J.stack rfl x λL D j k o=>?_;have B:∀b∈ϭ (envOfC d c s.heap.objs.size f g::a),t b=none:=J.Wn;refine⟨u,D,m,C,t,rfl,J.os,J.bare,F4 J k ?_,ER l k B ?_,p,KP l o,qu I r,qu J o,j,q⟩
 .intro b hb;simp only[ax,List.not_mem_nil,or_false]at hb;rcases hb with rfl|rfl
  .exact qu I r
  .exact qu I y
 .intro b hb;simp only[ax,List.not_mem_nil,or_false]at hb;rcases hb with rfl|rfl
  .exact p
  .exact z
end
def Lq(X:Cx)(E:XK):Prop:=∀(a:gn)(g:St)(H:Hp)(s:Shared)(e:Addr)(c:Value)(f:Option Addr)(d:Heap)(h:Nat),Inv X a g H s->(∀b o,s.heap.get? b=some o->d.get? b=some o)->s.heap.get? e=none->pV d e c f .none->E c f H->X.xe (.ref e) { s with heap:=d,toks:=h }
section
variable{P:Program}{w:World}{K:gg}{h:g8}{c:Heap}{N:hD}{e:Str}{a:Scope}{f:Addr}{g:Value}{A:Around}{d:List Env}{s:Shared}{H:Hp}{E:XK}
theorem qG:Lq (rH (Ε P w) P w K h c N e a f g A d s H E) E:=by
 intro m z o B p l v C x I u i r q;have J:=I.kept (t':=x) u;refine L5 (base:=c) J.ok.frames J.stack rfl r λD y j k n=>?_;have t:∀b∈ϭ (envOfC e a s.heap.objs.size f g::d),o b=none:=J.Wn;refine⟨p,y,l,v,o,rfl,J.os,J.bare,F4 J k ?_,ER J.ψ k t ?_,KP I.ψ i,KP J.ψ n,qu I i,qu J n,j,q⟩
 .intro b hb;rw[aI.mp hb];exact qu I i
 .intro b hb;rw[aI.mp hb];exact KP I.ψ i
end
def pT(K:gg)(C:Addr):Prop:=∃(m f:Str)(N:Addr)(i d:gy)(a:Bool)(g:hD)(c:gy)(k:Bool)(b:Option Bool)(j:Option Addr)(h o l e n:Option Value),K.lookup C=some (excClassObj m f C N i d a g c k b j h o l e n "ValueError.__new__")/\PySem.W.nsOkIn K N=true/\PySem.W.nsIn K N "__init__"=some none/\PySem.W.tailIn K bmV d=true
theorem RU{K:gg}{C:Addr}{o:Obj}(m p:Str)(N:Addr)(q h:gy)(d:Bool)(k:hD)(g:gy)(j:Bool)(f:Option Bool)(r:Option Addr)(s u t i n:Option Value)(l:K.lookup C=some o)(e:o=excClassObj m p C N q h d k g j f r s u t i n "ValueError.__new__")(a:PySem.W.nsOkIn K N=true)(b:PySem.W.nsIn K N "__init__"=some none)(c:PySem.W.tailIn K bmV h=true):pT K C:=by
 subst e;exact⟨_,_,_,_,_,_,_,_,_,_,_,_,_,_,_,_,l,a,b,c⟩
def LZ(C:Addr)(E:XK)(t:TA):TS:=λ_ a H=>t a H λc b=>c.length<=sizeLine/\E (.ref C) none b
section
variable{X:Cx}{x:Str}{e b d:Pos}{c:Expr}{a:List Expr}{t:TA}{C:Addr}{E:XK}
theorem oY(q:pT X.K C)(L:X.calm=true)(Q:Lq X E)(P:Gl X x)(J:X.mg x=some (.ref C))(y:PA X (c::a) t)(hdb:(x==("__debug__":Str))=false:=by decide)(k:starEach (c::a) X.env=(false,eval c X.env)::starEach a X.env:=by rfl)(R:(backTo b (starEach a X.env)).any (·.1)=false:=by rfl):PS X (.Raise (some (.Call (.Name x e) (c::a) [] b)) none d) (LZ C E t):=by
 intro f s j H D I h;obtain⟨nm,M,N,bs,bm,hdct,sn,sub,ab,col,dd,k0,k1,k2,k3,k5,A,n,U,v⟩:=q;have B:=I.mod.kin;have o:=PySem.W.tail_of_in B v;have G:X.base.Ns N (X.base.nsMap N):=.of_isNs (PySem.W.isNs_of_in B n);have O:(backTo b (starEach (c::a) X.env)).any (·.1)=false:=by
  rw[k];show(false||(backTo b (starEach a X.env)).any (·.1))=false;rw[R]
  rfl
 refine wpAny_Raise_call_subT (C:=C) (nm:=nm) (q:=M) (N:=N) (bs:=bs) (bm:=bm) (hdct:=hdct) (sn:=sn) (sub:=sub) (ab:=ab) (col:=col) (dd:=dd) (k0:=k0) (k1:=k1) (k2:=k2) (k3:=k3) (k5:=k5) PySem.F.excBase_ValueError
  (o.hasType (by decide +kernel)) (I.ok.hd L) O (PySem.W.nsMap_none_of_in B n U) (xW I P J ⟨rfl,?_⟩ hdb)
 have g:=y b f s j H _ I h;rw[k]at g ⊢;refine Calls.evalArgs_plain (ϑ g λS l ⟨Y,T,i,r,p⟩=>⟨rfl,by show S.length<=_;rw[<-r.length];exact p.1,i.bk _ _ (B _ _ A),G.keeps i.bk,o.keeps i.bk,λz u m=>?_⟩);obtain⟨V,w,_,_⟩:=m.there;exact Q f j T l u (.ref C) none z l.toks i m.keeps m.new ⟨_,_,w,rfl,rfl,rfl,rfl,rfl⟩ p.2
end
abbrev TH:=Ends->St->Value->Option Addr->Hp->Prop
def sI(a:List (Str×Addr)):List (Str×NameKind)->List (Str×Addr)->List (Str×Addr)
 | [],acc=>acc
 | (n,k)::r,acc=>if k==.free then sI a r ((n,(a.lookup n).getD 0)::acc)else sI a r acc
theorem J7{b:Scope}{d:Env}(h:∀y∈b.names,y.2=.free->(d.cells.lookup y.1).isSome=true):closureFor b d=pure (sI d.cells b.names []):=by
 have f:∀(l:List (Str×NameKind))(e:List (Str×Addr)),(∀y∈l,y.2=.free->(d.cells.lookup y.1).isSome=true)->(forIn l e λ(y:Str×NameKind)(c:List (Str×Addr))=>(if y.2==NameKind.free then do let a <-cellOf d y.1;pure (ForInStep.yield ((y.1,a)::c))else pure (ForInStep.yield c):Sem (ForInStep (List (Str×Addr)))))=(pure (sI d.cells l e):Sem (List (Str×Addr))):=by
  intro l
  induction l with
  | nil=>intro e _;rfl
  | cons y l ih=>
    obtain⟨n,k⟩:=y;intro e g;have m:=g (n,k) aJ;have j:∀y∈l,y.2=.free->(d.cells.lookup y.1).isSome=true:=λy o=>g y (aG _ o);rw[lY];unfold sI;cases q:k==NameKind.free with
    | false=>
      simp only[dI,if_false,pure_bind];exact ih e j
    | true=>
      obtain⟨c,i⟩:=ft.mp (m (by simpa using q));dsimp only at i;simp only[if_true,cellOf,i,pure_bind,Option.getD_some];exact ih _ j
 have:=f b.names [] h;unfold closureFor;simp only[bind_pure];exact this
theorem za{b:List (Str×Addr)}{x:Str}{c:Addr}:∀{l:List (Str×NameKind)}{e:List (Str×Addr)},(∀y∈l,y.2=.free->(b.lookup y.1).isSome=true)->(∀x c,e.lookup x=some c->b.lookup x=some c)->(sI b l e).lookup x=some c->b.lookup x=some c
 | [],e,_,h2,h3=>h2 x c h3
 | (n,k)::r,e,h1,h2,h3=>by
   have g:∀y∈r,y.2=.free->(b.lookup y.1).isSome=true:=λy f=>h1 y (aG _ f);unfold sI at h3;cases q:k==NameKind.free with
   | false=>
     rw[q]at h3;exact za g h2 (by simpa using h3)
   | true=>
     rw[q]at h3;simp only[if_true]at h3;obtain⟨a,h⟩:=ft.mp (h1 (n,k) aJ (by simpa using q));dsimp only at h;rw[h]at h3;refine za g (λy d f=>?_) h3;rw[cH]at f;cases z:y==n with
     | true=>
       rw[z]at f;cases f;rw[eq_of_beq z];exact h
     | false=>
       rw[z]at f;exact h2 y d f
theorem zZ{a:List (Str×Addr)}{x:Str}:∀{l:List (Str×NameKind)}{b:List (Str×Addr)},((∃c,b.lookup x=some c)\/(x,NameKind.free)∈l)->∃c,(sI a l b).lookup x=some c
 | [],b,h=>by
   rcases h with h|h
   .exact h
   .cases h
 | (n,k)::r,b,h=>by
   unfold sI;cases q:k==NameKind.free with
   | false=>
     simp only[dI,if_false];refine zZ ?_;rcases h with h|h
     .exact .inl h
     .rcases ax.mp h with z|z
      .cases z;simp at q
      .exact .inr z
   | true=>
     simp only[if_true];refine zZ ?_;by_cases z:x=n
     .subst z;exact .inl ⟨(a.lookup x).getD 0,by rw[cH];simp⟩
     .rcases h with⟨c,h⟩|h
      .refine .inl ⟨c,?_⟩;rw[cH];have:(x==n)=false:=(by simpa using z);rw[this];exact h
      .rcases ax.mp h with y|y
       .cases y;exact absurd rfl z
       .exact .inr y
theorem qm{env:Env}{x:Str}{k:NameKind}:∀{l:List (Str×NameKind)},l.lookup x=some k->(l.map λ(n,k)=>if(k==NameKind.free&&env.scope.kind==.function&&env.kindOf n==some .cell)then(n,NameKind.cell)else(n,k)).lookup x=some (if(k==NameKind.free&&env.scope.kind==.function&&env.kindOf x==some .cell)then NameKind.cell else k)
 | [],h=>by simp at h
 | (n,j)::r,h=>by
   have a:=@qm env x k r;rw[aq];rw[cH]at h;cases z:x==n with
   | true=>
     rw[z]at h;cases h;have e:=eq_of_beq z;subst e;by_cases q:(k==NameKind.free&&env.scope.kind==.function&&env.kindOf x==some .cell)=true
     .simp only[q,if_true,cH,z]
     .simp only[q,if_false,cH,z,dI]
   | false=>
     rw[z]at h;dsimp only;by_cases q:(j==NameKind.free&&env.scope.kind==.function&&env.kindOf n==some .cell)=true
     .rw[aj q,cH,z];exact a h
     .rw[ag q,cH,z];exact a h
theorem Rn{X:Cx}{d:hD}{scope:Scope}(a:Nat)(b:List Nat)(o:∀y∈scope.names,y.2≠.cell)(u:scope.kind=.function)(E:∀y∈scope.names,y.2=.local->scope.names.lookup y.1=some .local)(v:d.length=a+b.length)(s:∀y∈scope.names,y.2=.free->X.env.scope.names.lookup y.1=some .cell)(A:X.env.scope.kind=.function)(D:∀x,X.env.scope.names.lookup x=some .cell->∃c,X.env.cells.lookup x=some c)(t:∀i,i<b.length->∃x j,d[a+i]?=some x/\b[i]?=some j/\X.N[j]?=some x/\scope.names.lookup x=some .free):ϥ X d a b scope (sI X.env.cells scope.names []):=by
 have p:∀y∈scope.names,y.2=.free->(X.env.cells.lookup y.1).isSome=true:=λy G e=>by
  obtain⟨c,q⟩:=D _ (s y G e);rw[q]
  rfl
 have C:∀x,scope.names.lookup x=some .free->X.env.scope.names.lookup x=some .cell:=λx h=>s (x,.free) (dE h) rfl;refine⟨J7 p,u,o,E,λx c h=>za p (λx c z=>by simp at z) h,λx h=>?_,v,λi x h=>?_⟩
 .cases q:scope.names.lookup x with
  | none=>
    exfalso
    have:(relabel scope X.env).names.lookup x=none:=by
     unfold relabel;dsimp only
     revert q
     generalize scope.names=l
     induction l with
     | nil=>intro _;rfl
     | cons y l ih=>
       obtain⟨n,k⟩:=y;intro q;rw[cH]at q;cases z:x==n with
       | true=>rw[z]at q;cases q
       | false=>
         rw[z]at q;rw[aq];dsimp only;by_cases w:(k==NameKind.free&&X.env.scope.kind==.function&&X.env.kindOf n==some .cell)=true
         .rw[aj w,cH,z];exact ih q
         .rw[ag w,cH,z];exact ih q
    rw[this]at h;rcases h with h|h<;>cases h
  | some k=>
    have r:(relabel scope X.env).names.lookup x=some _:=qm (env:=X.env) q;cases k with
    | free=>exact zZ (.inr (dE q))
    | cell=>exact absurd rfl (o _ (dE q))
    | _=>
      rw[r]at h;simp at h
 .have hi:i<b.length:=by
   have:=(az.mp h).1
   lia
  obtain⟨y,j,g,F,B,f⟩:=t i hi;rw[h]at g;cases g;have m:=C x f;refine⟨j,F,B,m,?_⟩;have r:(relabel scope X.env).names.lookup x=some _:=qm (env:=X.env) f;rw[r];have:X.env.kindOf x=some .cell:=m;rw[this,A]
  rfl
theorem Je:∀{a:f3}{b:gy},Vals (a.map V.int) b->IntsAre b a
 | [],_,h=>by cases h;exact .nil
 | n::a,_,h=>by
   cases h with
   | cons r t=>
     obtain⟨k,rfl⟩:=(show ∃t,_=Value.int n t from r);exact .cons n k (Je t)
theorem Ih:∀{b:f3}{a:gy},IntsAre a b->Vals (b.map V.int) a
 | _,_,.nil=>.nil
 | _,_,.cons n t r=>.cons ⟨t,rfl⟩ (Ih r)
section
variable{X:Cx}
theorem yX:lD X (.builtin "sorted") (λi H Q=>∃(p:Addr)(d:f3),i=[.ref p]/\ξ X.K H p (d.map V.int)/\d.length<64/\∀(l:Addr)(c:f3),H l=none->c.Perm d->c.Pairwise (·<=·)->Q (.ref l) (upd H l (.lst (c.map V.int)))):=by
 intro j s D H i G Q I r h;obtain⟨p,d,rfl,x,w,q⟩:=h;obtain⟨u,rfl,A⟩:=qY r;cases A;obtain⟨g,t,v,F⟩:=I.list x;have k:=Je t;have E:=IntsAre.length k;refine sorted_ints v.isList k (by lia) λf c z m B=>?_;obtain⟨e,n⟩:=sortedAll_at s.heap g f;have y:H (s.heap.objs.size+1)=none:=I.ψ.fresh (fD _);have C:c.length=d.length:=m.length_eq;refine⟨.ref (s.heap.objs.size+1),_,I.laid (a:=s.heap.objs.size+1) (o:=.lst (c.map V.int)) (t':=s.toks) (λb o e=>sortedAll_old e) (fD _) ⟨?_,f.toList,e,Ih z,?_⟩,rfl,q _ c y m B⟩
 .rw[aa,C];exact cm (by lia)
 .exact n
end
section
variable{P:Program}{w:World}{K:gg}{b:g8}{a:Heap}
theorem Yh.W4{x d:Str}{st:Stmt}{f:Addr}{l:FuncData}{N h:hD}{k:Nat}{j:Sp}(F:Yh K x d st f l)(S:η N h (aK st))(i:∀e H Q E,j e H Q E->e.length=h.length)(o:∀(g:Value) (A:Around) (c:List Env) (s:Shared) (H:Hp) (e:List V) (Q:VK) (E:XK),ϋ k (A.deeper (envOfC d (aK st) s.heap.objs.size f g))->j e H Q E->∃t,X9 (rH (Ε P w) P w K b a N d (aK st) f g A c s H E) (iq st) t/\t { nx:=λ_ u=>Q .ω u,rt:=Q } (start N e) H):ϓ P w K b a (Ε P w) (k+1) f l h j:=by
 obtain⟨y,B,kV,n,z,v,g,C,D,rfl,r,p⟩:=F.ex;exact Q4 r p S i λA c s H e Q E m q=>o g A c s H e Q E m q
end
theorem DP{C:Addr}{E:XK}{t:TA}{D:Ends}{a:St}{H:Hp}:LZ C E t D a H=t a H λc b=>c.length<=sizeLine/\E (.ref C) none b:=rfl
theorem VY{H:Hp}{l b:Addr}{a c:List V}{Q:VK}(e:H l=some (.lst a))(f:H b=some (.lst c))(d:a.length+c.length<=sizeLine)(q:∀p,H p=none->Q (.ref p) (upd H p (.lst (a++c)))):ads (.ref l) (.ref b) H Q:=⟨l,b,a,c,rfl,rfl,e,f,d,q⟩
theorem δ.put{H a:Hp}{l:Addr}(e:δ H a)(n:H l=none)(o:HO):δ H (upd a l o):=λb u h=>by rw[aR (cq h n)];exact e b u h
theorem QB{M:Model}{A:Around}{E:gf}{s:Shared}{a:Env}{x:Str}{b:Pos}{v:Value}{Q:Unit->Shared->Prop}(h:wpAny M A (storeName a x v) Q E s):wpAny M A (assign (.Name x b) a v) Q E s:=by
 show wpAny M A (do standAt b;bindName a x v) Q E s;exact ak (jY (wpAny_bindName h))
section
variable{X:Cx}{Nc:hD}{f:Nat}{j:List Nat}{scope:Scope}{a:List (Str×Addr)}
theorem J8{i:Nat}{x:Str}{px a0:Pos}{S k B:Expr}{V:List Expr}{ϟ:Pos}{wi:TI}{g:TG}{tc:TT}{te:TE}(hN:X.N.Nodup)(ci:X.N[i]?=some x)(a3:X.env.scope.names.lookup x=some .local)(hc:X.calm=true)(T:ϥ X Nc f j scope a)(hi:PI X k B wi)(hg:∀C z F m,PG (X.comp Nc scope a C z F m) k g)(ht:∀C z F m,PTs (X.comp Nc scope a C z F m) V tc)(he:∀C z F m,PE (X.comp Nc scope a C z F m) S te)(hs:∀x,foldedSetIterable B X.env x=pure x:=by intro _;rfl)(cV:swapsWith (.ListComp S [⟨k,B,V,0⟩] scope ϟ) (some (.Name x px)) a0.line X.env=pure true:=by rfl):PS X (.Assign [.Name x px] (.ListComp S [⟨k,B,V,0⟩] scope ϟ) a0) (CA (KL f j wi g tc te) (vc i)):=by
 intro P s σ H D I h;rw[exec_Assign_Name_used _ _ _ _ cV];refine ak (jY (ak ?_));rw[arm_evalThenUse_ListComp];refine ak ?_;refine wpAny_comprehension_free (use:=some (assign (.Name x px) X.env)) rfl hs T.abB T.kind T.names (ϑ (hi P s σ H _ I h) λv s1 h1=>ϑ h1 λdt l h2=>?_);obtain⟨it,m,tn,J,H1,rfl,I1,Tn,st,f1,R⟩:=h2;have Y:∀b∈m,b<l.heap.objs.size:=λb G=>let ⟨o,e,_⟩:=Tn.obj _ _ st b G;aH e;refine gJ (wpAny_newFunctionEnv T.Yi (by intro y hy;simp at hy) (λK aC Ϧ=>?_) T.kind);dsimp only at aC Ϧ ⊢;generalize ai:l.heap.push { cls:=.type "list",dict:=none,data:=.seq ([]:gy).toArray }=E at aC Ϧ ⊢;have hC:E.objs.size=l.heap.objs.size+1:=by rw[<-ai,df]
 have a1:l.heap.objs.size≠E.objs.size:=by rw[hC];exact aV (fW _)
 have Wr:l.heap.objs.size<=E.objs.size:=by rw[hC];exact fD _
 have b6:∀b,b<l.heap.objs.size->b≠E.objs.size:=λb G=>by rw[hC];exact aV (gH G)
 have a7:∀b o,l.heap.get? b=some o->K.get? b=some o:=λb o e=>Ϧ.extBut b o (b6 b (aH e)) (ar _ (ai▸ar _ e));have By:∃n,K.get? l.heap.objs.size=some { cls:=.type "list",data:=.seq ([]:gy).toArray n }:=⟨_,Ϧ.extBut _ _ a1 (ar _ (ai▸bf _ rfl))⟩;have XD:tn 0 K:=Tn.keep _ _ _ st λb _ o e=>a7 b o e;obtain⟨W,⟨m0,w0⟩,a8⟩:=R l.heap.objs.size I1.fresh;have Ic:=GG (t:=l.toks+([]:List (Str×Value)).length) T I1 Wr (ap _) a1 f1 Y a7 aC By;generalize Q:X.comp Nc scope a E.objs.size l H1 m=Xc at Ic;have O:∀{Z:Hp},(∀b∈m,Z b=none)->∀b∈m,ph Xc [] Z b:=λ{Z} hn b G=>by
  subst Q;exact⟨hn b G,b6 b (Y b G),(CV T I1 Wr f1 Y).X6 b G,.inl G,λx c e=>(f1 b G).2.2.2.2.1 x c (T.cells x c e),λp hp=>by cases hp⟩
 have cn:∀b∈m,upd H1 l.heap.objs.size (.lst []) b=none:=λb G=>by
  rw[aR (aV (Y b G))];exact(f1 b G).1
 have eB:Xc.calm=true:=by subst Q;exact hc
 have af:∀M:Shared,M={ l with heap:=K,toks:=l.toks+([]:List (Str×Value)).length }->codeAny (model X.prog X.w) X.A (.compLoop (.ListComp S [⟨k,B,V,0⟩] scope ϟ) 0 (.ref it) (.ref l.heap.objs.size) (compEnvC scope a E.objs.size X.env))
  (compPost (model X.prog X.w) X.A X.xe (some (assign (.Name x px) X.env)) (λ_ s'=>wpAny (model X.prog X.w) X.A (pure ()) (λ_ b1=>wpAny (model X.prog X.w) X.A (pure Flow.next) (SP X P D) X.xe b1) X.xe s') (.ref l.heap.objs.size) E.objs.size) M:=by
  rintro M rfl;refine yR (λn s'=>∃i ys a6 Z,Inv Xc [] a6 Z s'/\tn i s'.heap/\(∀b∈m,Z b=none)/\W i n ys a6 Z) ?_ m0 ⟨0,[],_,_,Ic,XD,cn,w0⟩;rintro n s3 ⟨i,ys,U,H3,I3,a9,a4,w3⟩;rcases a8 i n ys U H3 w3 with⟨stop,q⟩|⟨go,step⟩
  .subst Q;refine ϑ (Tn.done (X.comp Nc scope a E.objs.size l H1 m) rfl rfl rfl hc i [] s3 U H3 _ I3 (O a4) a9 stop) λr s4 ⟨hr,I4⟩=>?_;subst hr;obtain⟨m4,b2,_⟩:=id I4.loc;have J:=D0 I1 Wr f1 I4 (h':=s4.heap) (Heap.SameBut.refl _ _);have a5:E.objs.size≠X.env.locals:=eW (aZ I1.lt Wr);have cy:X.s₀.heap.objs.size<=E.objs.size:=aL I1.sz Wr;have cc:∀y c,X.env.cells.lookup y=some c->c≠E.objs.size:=λy c e=>by
    obtain⟨v',o',X7,_⟩:=I1.cell y c e;exact aV (aZ (aH X7) Wr)
   have cp:∀p∈X.pn++P,p.1≠E.objs.size:=λp hp=>by
    obtain⟨X7,_⟩:=I1.pin p hp;exact aV (aZ (aH X7) Wr)
   refine QB (DJ (v:=.ref l.heap.objs.size) J hN ci (.inl a3) rfl (λs5 I5 ⟨ad,sb,had⟩=>?_) (.inr a3));have c2:E.objs.size≠ad:=by
    rcases had with rfl|had
    .exact a5
    .exact(cc _ _ had).symm
   obtain⟨oo,es,ep,e1,e2⟩:=b2;refine⟨m4,⟨oo,es,ep,(sb.2 _ c2).trans e1,e2⟩,λh' b3=>ba (ba ⟨_,H3,?_,q⟩)⟩;exact I5.turned (it:=E.objs.size) (t':=s5.toks) (λb o n e=>b3.extBut b o n e) I4.free a5 (.inr cy) cc cp
  .subst Q;refine ϑ (Tn.item (X.comp Nc scope a E.objs.size l H1 m) rfl rfl rfl hc i [] s3 U H3 _ I3 (O a4) a9 go) λr s4 ⟨u,hr,h4⟩=>?_;subst hr;refine ϑ h4 λ_ s5 ⟨x,H5,I5,r5,y5,Zi,Z4⟩=>?_;have co:=I5.pinned (O Z4) (Tn.obj _ _ Zi);have ae:∀{al:St}{H7:Hp}{s7:Shared},Inv (X.comp Nc scope a E.objs.size l H1 m) ([]++u6 m s5.heap) al H7 s7->Inv (X.comp Nc scope a E.objs.size l H1 m) [] al H7 s7/\tn (i+1) s7.heap/\∀b∈m,H7 b=none:=λ{al H7 s7} I7=>by
    refine⟨I7.ϯ,Tn.keep _ _ _ Zi λb G o e=>(I7.pin (b,o) (aW _ (aW _ (nW G e)))).1,λb G=>?_⟩;obtain⟨o,e,d⟩:=Tn.obj _ _ Zi b G;exact(I7.pin (b,o) (aW _ (aW _ (nW G e)))).2.1
   refine ϑ (hg _ _ _ _ _ s5 U H5 x u _ co r5 (step x H5 y5)) λ_ s6 ⟨L,H6,I6,q6⟩=>?_;refine CI (ht _ _ _ _ _ s6 L H6 _ I6 q6) λok s7 H7 I7 q7=>?_;cases ok with
   | false=>
     rw[ag bz]at q7 ⊢;obtain⟨m',hm,w7⟩:=q7;obtain⟨J1,J2,J3⟩:=ae I7;exact⟨m',hm,i+1,ys,L,H7,J1,J2,J3,w7⟩
   | true=>
     rw[aj rfl]at q7 ⊢;refine dQ (he _ _ _ _ _ s7 L H7 _ I7 q7) λy s8 yv H8 I8 r8 ⟨cS,bv,m',hm,w8⟩=>?_;refine ϑ (fN _ s8 L H8 (.ref l.heap.objs.size) [yv] _ [y] (λv' Z=>W (i+1) m' (ys++[yv]) L Z) I8 rfl (.cons r8 .nil) ⟨_,ys,yv,rfl,rfl,cS,bv,w8⟩) λv9 s9 ⟨_,H9,I9,_,w9⟩=>?_;obtain⟨J1,J2,J3⟩:=ae I9;exact⟨m',hm,i+1,ys++[yv],L,H9,J1,J2,J3,w9⟩
 exact codeAny_compStart_list (af _ rfl) (Tn.self _ 0 _ _ _ XD (af _ rfl))
end
theorem xL{K:gg}{H:Hp}:∀a:List Int,Ω K H (a.map V.int) (a.map PyData.int)
 | []=>.nil
 | n::a=>.cons (.int n) (xL a)
theorem tY{K:gg}{H:Hp}{l:Addr}{a:f3}(h:H l=some (.lst (a.map V.int))):BV K H (.ref l) (.list (a.map PyData.int)):=.lst (ξ.of h) (xL a)
theorem yS:∀a:List Int,PyData.eqvAll (a.map PyData.int) (a.map PyData.int)=true
 | []=>by simp[PyData.eqvAll]
 | n::a=>by
   simp only[aq,PyData.eqvAll];rw[yS a];simp[PyData.eqv]
theorem Qi(a:f3):PyData.eqv (.list (a.map PyData.int)) (.list (a.map PyData.int))=true:=by
 simp only[PyData.eqv];exact yS a
theorem wm:∀a:List Int,PyData.depthAll (a.map PyData.int)<=1
 | []=>by simp[PyData.depthAll]
 | n::a=>by
   simp only[aq,PyData.depthAll];have:=wm a;have:(PyData.int n).depth<=1:=by simp[PyData.depth]
   lia
theorem Av(a:f3):(PyData.list (a.map PyData.int)).depth<=40:=by
 simp only[PyData.depth];have:=wm a
 lia
theorem O5{K:gg}{H:Hp}{a b:Addr}{c:f3}{Q:VK}(e:H a=some (.lst (c.map V.int)))(d:H b=some (.lst (c.map V.int)))(q:Q (.bl false) H):Nz K (.ref a) (.ref b) H Q:=⟨_,_,tY e,tY d,Av c,by rw[Qi];exact q⟩
end L2
namespace Pb
open L2 PySem
def front(r:Int)(a:f5)(p:Int):V:=if p=r then .ω else .int (a p)
def bR(m:Int)(s:hU)(a:V)(p:Int):List Int:=(mj m s p).filter λv=>decide (V.int v≠a)
variable{m:Int}{s:hU}{r:Int}{par:f5}{d:gb}
theorem ζ.ne(R:ζ m s r par d){v:Int}(a:0<=v)(b:v<m)(c:v≠r):par v≠v:=λz=>by
 have:=(R.up v a b c).2.2;rw[z]at this
 lia
theorem bw(g:Good m s)(R:ζ m s r par d){p v:Int}(l:0<=p)(n:p<m):v∈bR m s (front r par p) p↔(0<=v/\v<m)/\v≠r/\par v=p:=by
 unfold bR;rw[bG,GP g,bM]
 constructor
 .rintro⟨ad,hf⟩;obtain⟨_,i,_⟩:=g.adj ad;refine⟨i,?_⟩;obtain⟨x,k,j⟩:=ad;have f:∀u w:Int,(u≠r/\par u=w)\/(w≠r/\par w=u)->u=p->w=v->v≠r/\par v=p:=λu w h o t=>by
   subst o t;rcases h with h|h
   .exfalso
    apply hf;unfold front;rw[ag h.1,h.2]
   .exact h
  rcases j with⟨a,b⟩|⟨a,b⟩
  .exact f x.a x.b (R.road x k) a b
  .exact f x.b x.a (R.road x k).symm a b
 .rintro⟨i,hr,hp⟩;have u:=R.up v i.1 i.2 hr;rw[hp]at u;refine⟨?_,λz=>?_⟩
  .obtain⟨x,k,j⟩:=u.2.1;exact⟨x,k,j.elim (λq=>.inr ⟨q.2,q.1⟩) (λq=>.inl ⟨q.2,q.1⟩)⟩
  .unfold front at z;by_cases c:p=r
   .rw[aj c]at z;cases z
   .rw[ag c]at z;have e:v=par p:=(by injection z);have w:=(R.up p l n c).2.2;have y:=u.2.2;rw[<-e]at w
    lia
theorem nZ{a:V}{p:Int}:(bR m s a p).Nodup:=(AY m s p).filter _
def nl(m:Int)(par:f5)(a:f3):List V:=(b6 m.toNat).map λv=>if v∈a then .int (par v)else .ω
def pU(m r:Int)(par:f5):List V:=(b6 m.toNat).map (front r par)
theorem tW{a:f3}:(nl m par a).length=m.toNat:=by unfold nl;rw[aa,b7]
theorem fL{n i:Nat}(h:i<n):(b6 n)[i]?=some (i:Int):=by unfold b6;rw[aA,fA h];rfl
theorem Mp{ks:f3}{v:Int}(a:0<=v)(b:v<m):(nl m par ks)[v.toNat]?=some (if v∈ks then .int (par v)else .ω):=by
 unfold nl;rw[aA,fL (by lia)];show some (if((v.toNat:Nat):Int)∈ks then V.int (par ((v.toNat:Nat):Int))else V.ω)=_;rw[br a]
theorem S7{ks:f3}{v:Int}(b:0<=v)(f:v<m):(nl m par ks).set v.toNat (.int (par v))=nl m par (ks++[v]):=by
 refine eA λi=>?_;rw[List.getElem?_set];by_cases c:i<m.toNat
 .have e:∀l:List Int,(nl m par l)[i]?=some (if(i:Int)∈l then .int (par (i:Int))else .ω):=λl=>by
   have:=Mp (par:=par) (ks:=l) (v:=(i:Int)) (m:=m) (by lia) (by lia)
   rwa [bJ]at this
  rw[e,tW];by_cases z:v.toNat=i
  .have a:v=(i:Int):=(by lia);rw[aj z,aj (by lia),e,aj (by rw[a];simp),<-a]
  .rw[ag z,e];have a:¬((i:Int)=v):=(by lia);simp[a]
 .have e:∀l:List Int,(nl m par l)[i]?=none:=λl=>bI (by rw[tW];lia);rw[e,e,tW];by_cases z:v.toNat=i
  .lia
  .rw[ag z]
structure ύ(m:Int)(s:hU)(r:Int)(par:f5)(ks ws:f3):Prop where
 nd:ks.Nodup
 Χ:∀k∈ks,0<=k/\k<m
 nr:r∉ks
 sub:∀w∈ws,w=r\/w∈ks
 wnd:ws.Nodup
 ok:∀v∈ks,par v∉ws/\(par v=r\/par v∈ks)
 dn:∀v,0<=v->v<m->v≠r->(par v=r\/par v∈ks)->par v∉ws->v∈ks
theorem ύ.start:ύ m s r par [] [r] where
 nd:=mh
 Χ:=λ_ h=>by cases h
 nr:=λh=>by cases h
 sub:=λw h=>.inl (aI.mp h)
 wnd:=by simp
 ok:=λ_ h=>by cases h
 dn:=λv _ _ _ h n=>by
  rcases h with h|h
  .exact absurd (by rw[h];simp) n
  .cases h
theorem ύ.at_(J:ύ m s r par ks ws)(c:0<=r)(a:r<m){p:Int}(b:p∈ws):0<=p/\p<m:=by
 rcases J.sub p b with h|h
 .rw[h];exact⟨c,a⟩
 .exact J.Χ p h
theorem ύ.front(J:ύ m s r par ks ws){p:Int}(a:p∈ws):(if p∈ks then V.int (par p)else V.ω)=front r par p:=by
 unfold Pb.front;by_cases c:p=r
 .rw[aj c,ag (by rw[c];exact J.nr)]
 .rw[ag c,aj ((J.sub p a).resolve_left c)]
theorem ύ.step(g:Good m s)(R:ζ m s r par d)(G:0<=r)(F:r<m){q j ws':f3}{p:Int}(J:ύ m s r par q j)(e:j.Perm (p::ws')):ύ m s r par (q++bR m s (Pb.front r par p) p) (ws'++bR m s (Pb.front r par p) p):=by
 have B:p∈j:=e.mem_iff.mpr aJ;have D:=J.at_ G F B;have f:∀v,v∈bR m s (Pb.front r par p) p↔(0<=v/\v<m)/\v≠r/\par v=p:=λv=>bw g R D.1 D.2;have x:(bR m s (Pb.front r par p) p).Nodup:=nZ;generalize bR m s (Pb.front r par p) p=E at f x ⊢;have i:∀v∈E,v∉q:=λv C z=>(J.ok v z).1 (by rw[((f v).mp C).2.2];exact B);obtain⟨K,I⟩:=bg.mp (e.nodup_iff.mp J.wnd);have t:∀w∈ws',w∈j:=λw A=>e.mem_iff.mpr (aG _ A);refine⟨?_,?_,?_,?_,?_,?_,?_⟩
 .rw[dC];exact⟨J.nd,x,λa y b l z=>i b l (z▸y)⟩
 .intro k hk;rcases aY.mp hk with h|h
  .exact J.Χ k h
  .exact((f k).mp h).1
 .intro z;rcases aY.mp z with h|h
  .exact J.nr h
  .exact((f r).mp h).2.1 rfl
 .intro w A;rcases aY.mp A with h|h
  .exact(J.sub w (t w h)).imp id (bo _)
  .exact .inr (aW _ h)
 .rw[dC];refine⟨I,x,λa y b l z=>?_⟩;subst z;rcases J.sub a (t a y)with h|h
  .exact((f a).mp l).2.1 h
  .exact i a l h
 .intro v C;rcases aY.mp C with h|h
  .obtain⟨o1,o2⟩:=J.ok v h;refine⟨λz=>?_,o2.imp id (bo _)⟩;rcases aY.mp z with z|z
   .exact o1 (t _ z)
   .rcases o2 with o|o
    .exact((f _).mp z).2.1 o
    .exact i _ z o
  .obtain⟨q1,q2,q3⟩:=(f v).mp h;rw[q3];refine⟨λz=>?_,(J.sub p B).imp id (bo _)⟩;rcases aY.mp z with z|z
   .exact K z
   .obtain⟨w1,w2,w3⟩:=(f p).mp z;exact R.ne w1.1 w1.2 w2 w3
 .intro v v0 v1 vr h n;have u:par v∉E:=λz=>n (aW _ z);have H:par v=r\/par v∈q:=h.imp id λz=>(aY.mp z).resolve_right u;by_cases c:par v=p
  .exact aW _ ((f v).mpr ⟨⟨v0,v1⟩,vr,c⟩)
  .refine bo _ (J.dn v v0 v1 vr H λz=>?_);rcases ax.mp (e.mem_iff.mp z)with z|z
   .exact c z
   .exact n (bo _ z)
theorem ύ.perm{ks b a:f3}(J:ύ m s r par ks b)(e:b.Perm a):ύ m s r par ks a where
 nd:=J.nd
 Χ:=J.Χ
 nr:=J.nr
 sub:=λw h=>J.sub w (e.mem_iff.mpr h)
 wnd:=e.nodup_iff.mp J.wnd
 ok:=λv h=>⟨λz=>(J.ok v h).1 (e.mem_iff.mpr z),(J.ok v h).2⟩
 dn:=λv c f hr h n=>J.dn v c f hr h λz=>n (e.mem_iff.mp z)
theorem ύ.all(R:ζ m s r par d){g:f3}(J:ύ m s r par g []):∀v,0<=v->v<m->v≠r->v∈g:=by
 have h:∀n v,d v=n->0<=v->v<m->v≠r->v∈g:=by
  intro n
  induction n with
  | zero=>
    intro v e a f b;have:=(R.up v a f b).2.2
    lia
  | succ n ih=>
    intro v e a f b;have u:=R.up v a f b;refine J.dn v a f b ?_ (by simp);by_cases c:par v=r
    .exact .inl c
    .exact .inr (ih (par v) (by lia) u.1.1 u.1.2 c)
 exact λv=>h _ v rfl
theorem ύ.done(R:ζ m s r par d){b:f3}(J:ύ m s r par b []):nl m par b=pU m r par:=by
 unfold nl pU;refine bZ λv a=>?_;have e:0<=v/\v<m:=by
  unfold b6 at a;obtain⟨k,f,rfl⟩:=aP.mp a;have:=bU.mp f
  lia
 unfold Pb.front;by_cases c:v=r
 .rw[aj c,ag (by rw[c];exact J.nr)]
 .rw[ag c,aj (J.all R v e.1 e.2 c)]
theorem zS(n:Nat)(v:V):(List.replicate n [v]).flatten=List.replicate n v:=by
 induction n with
 | zero=>rfl
 | succ n ih=>rw[cw,fx,ih,cw];rfl
theorem UW:nl m par []=List.replicate m.toNat V.ω:=by
 unfold nl;refine eA λi=>?_;by_cases c:i<m.toNat
 .rw[aA,fL c,fF,aj c];simp
 .rw[bI (by rw[aa,b7];lia),bI (by rw[cU];lia)]
def nc(par:f5):Nat->Int->List Int
 | 0,v=>[v]
 | n+1,v=>v::nc par n (par v)
theorem ζ.pos(R:ζ m s r par d){v:Int}(a:0<=v)(b:v<m)(c:v≠r):d v=d (par v)+1:=(R.up v a b c).2.2.symm
theorem Am(R:ζ m s r par d):∀(n:Nat)(v:Int),d v=n->0<=v->v<m->(nc par n v).Nodup/\(∀x∈nc par n v,(0<=x/\x<m)/\d x<=n)/\(nc par n v).length=n+1
 | 0,v,e,h0,h1=>⟨by unfold nc;simp,λx hx=>by
  unfold nc at hx;rw[aI.mp hx];exact⟨⟨h0,h1⟩,by lia⟩,rfl⟩
 | n+1,v,e,h0,h1=>by
   have f:v≠r:=λz=>by rw[z,R.root]at e;lia
   have u:=R.up v h0 h1 f;obtain⟨c,a,b⟩:=Am R n (par v) (by lia) u.1.1 u.1.2;unfold nc;refine⟨bg.mpr ⟨λz=>?_,c⟩,λx hx=>?_,by rw[aF,b]⟩
   .have:=(a v z).2
    lia
   .rcases ax.mp hx with rfl|hx
    .exact⟨⟨h0,h1⟩,by lia⟩
    .exact⟨(a x hx).1,by have:=(a x hx).2;lia⟩
theorem kH(R:ζ m s r par d){v:Int}(b:0<=v)(f:v<m):d v+1<=m.toNat:=by
 obtain⟨e,a,g⟩:=Am R _ v rfl b f;have:=fC (m:=m) (by lia) e λx c=>(a x c).1
 lia
theorem zf{v:Int}(a:0<=v)(b:v<m):(pU m r par)[v.toNat]?=some (front r par v):=by
 unfold pU;rw[aA,fL (by lia)];show some (front r par ((v.toNat:Nat):Int))=_;rw[br a]
theorem oh(g:Good m s)(R:ζ m s r par d){v:Int}(l:0<=v)(n:v<m)(o:v≠r):∃k,cN s v (par v)=some k/\2<=k/\k<=1000000:=by
 obtain⟨x,e,j⟩:=(R.up v l n o).2.1;obtain⟨i,h⟩:=cJ e;have ok:=g.ok x e;rw[xq g h j];unfold iV;by_cases c:x.a=v/\x.b=par v
 .rw[aj c];exact⟨_,rfl,ok.t0,ok.t1⟩
 .rw[ag c];have f:x.a=par v/\x.b=v:=by
   rcases j with j|j
   .exact absurd j c
   .exact⟨j.2,j.1⟩
  rw[aj f];exact⟨_,rfl,ok.u0,ok.u1⟩
def rD(m:Int)(s:hU)(r:Int)(par:f5):Nat->Int->List Int
 | 0,v=>[v]
 | n+1,v=>v::(bR m s (front r par v) v).flatMap (rD m s r par n)
def bO(m:Int)(s:hU)(r:Int)(par:f5)(d:gb)(v:Int):List Int:=rD m s r par (m.toNat-1-d v) v
theorem u8{f h:Int->List Int}:∀{l:f3},(∀x∈l,f x=h x)->l.flatMap f=l.flatMap h
 | [],_=>rfl
 | a::l,e=>by rw[bC,bC,e a aJ,u8 λx b=>e x (aG _ b)]
theorem fM(g:Good m s)(R:ζ m s r par d){v:Int}(h:0<=v)(j:v<m):bO m s r par d v=v::(bR m s (front r par v) v).flatMap (bO m s r par d):=by
 have k:∀u,u∈bR m s (front r par v) v->(0<=u/\u<m)/\u≠r/\par u=v:=λu=>(bw g R h j).mp;have c:∀u∈bR m s (front r par v) v,d u=d v+1/\d u+1<=m.toNat:=λu a=>by
  obtain⟨b,f,i⟩:=k u a;have:=R.pos b.1 b.2 f;rw[i]at this;exact⟨this,kH R b.1 b.2⟩
 unfold bO;cases e:m.toNat-1-d v with
 | zero=>
   have:bR m s (front r par v) v=[]:=gG.mpr λu a=>by
    have:=c u a
    lia
   rw[this]
   rfl
 | succ n=>
   show v::(bR m s (front r par v) v).flatMap (rD m s r par n)=_;rw[u8 λu a=>show rD m s r par n u=rD m s r par (m.toNat-1-d u) u by rw[show m.toNat-1-d u=n by have:=c u a;lia]]
def up(par:f5):Nat->Int->Int
 | 0,x=>x
 | k+1,x=>par (up par k x)
theorem Bk{f:Int->List Int}:∀{l:f3},l.Nodup->(∀u∈l,(f u).Nodup)->(∀u∈l,∀w∈l,∀x,x∈f u->x∈f w->u=w)->(l.flatMap f).Nodup
 | [],_,_,_=>by simp
 | a::l,n,h1,h2=>by
   obtain⟨g,i⟩:=bg.mp n;rw[bC,dC];refine⟨h1 a aJ,Bk i (λu c=>h1 u (aG _ c)) (λu c w b=>h2 u (aG _ c) w (aG _ b)),λx h y j z=>?_⟩;subst z;obtain⟨w,b,e⟩:=dJ.mp j;have:=h2 a aJ w (aG _ b) x h e;exact g (this▸b)
theorem ou(g:Good m s)(R:ζ m s r par d):∀(n:Nat)(v:Int),0<=v->v<m->(rD m s r par n v).Nodup/\∀x∈rD m s r par n v,(0<=x/\x<m)/\∃k,d x=d v+k/\up par k x=v
 | 0,v,h0,h1=>⟨by unfold rD;simp,λx hx=>by
  unfold rD at hx;rw[aI.mp hx];exact⟨⟨h0,h1⟩,0,rfl,rfl⟩⟩
 | n+1,v,h0,h1=>by
   have h:∀u,u∈bR m s (front r par v) v->(0<=u/\u<m)/\u≠r/\par u=v:=λu=>(bw g R h0 h1).mp;have l:(bR m s (front r par v) v).Nodup:=nZ;have b:=λu a=>ou g R n u (h u a).1.1 (h u a).1.2;have c:∀u∈bR m s (front r par v) v,d u=d v+1:=λu a=>by
    obtain⟨j,p,y⟩:=h u a;have:=R.pos j.1 j.2 p;rw[y]at this;exact this
   unfold rD;refine⟨bg.mpr ⟨λz=>?_,Bk l (λu a=>(b u a).1) λu a w i x hx t=>?_⟩,λx hx=>?_⟩
   .obtain⟨u,a,hv⟩:=dJ.mp z;obtain⟨_,k,e,_⟩:=(b u a).2 v hv;have:=c u a
    lia
   .obtain⟨_,k1,e1,f1⟩:=(b u a).2 x hx;obtain⟨_,A,C,q⟩:=(b w i).2 x t;have D:=c u a;have B:=c w i;have:k1=A:=(by lia);rw[<-f1,<-q,this]
   .rcases ax.mp hx with rfl|hx
    .exact⟨⟨h0,h1⟩,0,rfl,rfl⟩
    .obtain⟨u,a,hv⟩:=dJ.mp hx;obtain⟨o,k,e,f⟩:=(b u a).2 x hv;exact⟨o,k+1,by rw[e,c u a];lia,by show par (up par k x)=v;rw[f];exact(h u a).2.2⟩
theorem zG(g:Good m s)(R:ζ m s r par d){v:Int}(a:0<=v)(e:v<m):(bO m s r par d v).length<=24:=by
 obtain⟨f,c⟩:=ou g R (m.toNat-1-d v) v a e;have:=fC (m:=m) (by lia) f λx b=>(c x b).1;have:=g.Ο;unfold bO
 lia
end Pb
namespace L2
open PySem PySem.Spec PyProof.Rows
def Itv(K:gg)(a:Addr)(n:Nat):It:=⟨λi H=>i<n/\∃b x,ξ K H a b/\b[n-1-i]?=some x,λi H x c=>c=H/\∀b,ξ K H a b->b[n-1-i]?=some x,λi H=>n<=i⟩
theorem Nq{P:Program}{w:World}{K:gg}{Q:Expr}(a g:Addr)(n:Nat):Turn P w K Q (Itv K a n) [g] g (λi h=>i<=n/\h.IsRevIter g a ((n:Int)-1-(i:Int))) where
 mem:=by simp
 obj:=λi h st b hb=>by
  have e:b=g:=by simpa using hb
  subst e;obtain⟨_,o,e,c,d⟩:=st;exact⟨o,e,λv z=>by rw[d]at z;cases z⟩
 keep:=λi h l st k=>⟨st.1,st.2.at λo e=>k g (by simp) o e⟩
 item:=by
  intro X q hw t hc i f s F H E I hf st A;subst q hw t;obtain⟨hi,xs,x,G,J⟩:=A;obtain⟨Y,N,p,hz⟩:=I.list G;obtain⟨u,O,ru⟩:=N.get J;obtain⟨r,y,R,C,B,D⟩:=hf g (by simp);have S:(n:Int)-1-(i:Int)=((n-1-i:Nat):Int):=by lia
  have j:=st.2;rw[S]at j;refine wpAny_pyNext_rev_item j p.isList (x:=u) (by simpa using O) λl m L=>?_;have I1:Inv X f F H { s with heap:=l }:=I.turned (t':=s.toks) (λb o hb e=>(L.2 b hb).trans e) r y C B D;obtain⟨o,e,c,d⟩:=id m;have T:((n-1-i:Nat):Int)-1=(n:Int)-1-((i+1:Nat):Int):=by lia
  rw[T]at m;exact⟨u,rfl,EK (s:={ s with heap:=l }) e c d (by decide) ⟨x,H,I1,ru,⟨rfl,λys V=>by rw[I.iO V G];exact J⟩,⟨hi,m⟩,λb hb=>(hf b hb).1⟩⟩
 done:=by
  intro X q hw t hc i f s F H E I hf st A;subst q hw t;have U:n<=i:=A;obtain⟨r,y,R,C,B,D⟩:=hf g (by simp);have j:=st.2;have Z:=st.1;rw[show(n:Int)-1-(i:Int)=-1 by lia]at j;exact wpAny_pyNext_rev_end (I.ok.hd hc) j λl M=>⟨rfl,I.turned (t':=s.toks) (λb o hb e=>M b o hb e) r y C B D⟩
 self:=λ_ _ _ _ _ st h=>jD st.2 h
def OB(K:gg)(e:TE):TI:=λd H R=>e d H λx b=>∃a c,x=.ref a/\ξ K b a c/\R (Itv K a c.length) b
section
variable{X:Cx}{f e:Expr}{d:TE}{g c:Pos}
theorem tE(E:Gl X "reversed")(C:X.mg "reversed"=none)(v:PE X e d)(r:starEach [e] X.env=[(false,eval e X.env)]:=by rfl):PI X f (.Call (.Name "reversed" g) [e] [] c) (OB X.K d):=by
 intro j s t H R I h;refine Call_ (oM I E C boot_reversed (cG ?_ r rfl));rw[r];show wpAny _ _ (spliced ((false,eval e X.env)::backTo c [])) _ _ s;refine gF (dQ (v j s t H _ I h) λu k x G m w J=>gQ ?_);obtain⟨a,n,D,F,q⟩:=J;subst D;cases w;obtain⟨p,y,A,L⟩:=m.list F;refine call_reversed_list A.isList ?_;have z:p.toArray.size=n.length:=by rw[aM,y.length]
 rw[z];refine jD (i:=(n.length:Int)-1) (l:=a) ⟨_,bf _ rfl,rfl,rfl⟩ ?_;refine⟨k.heap.objs.size,[k.heap.objs.size],_,_,G,rfl,m.kept (t':=k.toks) λb o e=>ar _ e,Nq a _ n.length,⟨bj _,?_⟩,λb B=>?_,q⟩
 .exact⟨_,bf _ rfl,rfl,by simp[revObj]⟩
 .have e:b=k.heap.objs.size:=by simpa using B
  subst e;exact m.YN (ap _) (m.ψ.fresh (ap _))
end
theorem qK{K:gg}{a:Addr}{xs:List V}{g:TG}{k:TS}{D:Ends}{b:St}{H:Hp}(f:Nat->St->Hp->Prop)(s:f 0 b H)(n:∀i b H,i<=xs.length->f i b H->ξ K H a xs)(t:∀(i:Nat) (x:V) (b:St) (H:Hp) (N:St->Hp->Prop),(∀c d,f (i+1) c d->N c d)->xs.reverse[i]?=some x->f i b H->g x b H λh o=>k { D with nx:=N,ct:=N,bk:=D.nx } h o)(v:∀b H,f xs.length b H->D.nx b H):sf (Itv K a xs.length) D g k b H:=by
 refine⟨λi m b H=>m=xs.length-i/\i<=xs.length/\f i b H,⟨xs.length,by simp,bj _,s⟩,?_⟩;rintro i m b H ⟨rfl,u,p⟩;have q:=n i b H u p;by_cases j:i<xs.length
 .have hx:xs[xs.length-1-i]?=some xs[xs.length-1-i]:=ao (by lia);refine .inr ⟨⟨j,xs,_,q,hx⟩,λc d=>∃l,l<xs.length-i/\(l=xs.length-(i+1)/\i+1<=xs.length/\f (i+1) c d),λc d z=>z,λx d y=>?_⟩;obtain⟨e,y⟩:=y;subst e;exact t i x b _ _ (λc d r=>⟨xs.length-(i+1),by lia,rfl,j,r⟩) (by rw[cC j];exact y xs q) p
 .have e:i=xs.length:=by lia
  subst e;exact .inl ⟨ap _,v b H p⟩
theorem UM:bootBuiltins "sum"=some (.builtin "sum"):=by decide +kernel
theorem yF(a:f3):∀n,n<=a.length->preSum (λi=>a.getD i 0) n=(a.take n).sum
 | 0,_=>by simp[preSum]
 | n+1,h=>by
   have c:=yF a n (by lia);have b:n<a.length:=by lia
   rw[bK,ao b,c7,<-c];simp[preSum,List.getD,b]
section
variable{X:Cx}
theorem vN(P:X.calm=true):lD X (.builtin "sum") (λL H Q=>∃(p:Addr)(d:f3),L=[.ref p]/\(ξ X.K H p (d.map V.int)\/Ξ X.K H p (d.map V.int))/\Q (.int d.sum) H):=by
 intro N s R H L S Q I r h;obtain⟨p,d,rfl,hp,q⟩:=h;obtain⟨u,rfl,G⟩:=qY r;cases G;have J:X.A.in1.handled=none:=I.ok.hd P;have f:∀{a:gy},Vals (d.map V.int) a->a.length=d.length/\∀(i:Nat)(v:Value),a.toArray[i]?=some v->∃t,v=Value.int (d.getD i 0) t:=by
  intro a j;have c:a.length=d.length:=by rw[<-j.length,aa]
  refine⟨c,λi v l=>?_⟩;have O:a[i]?=some v:=by simpa using l
  have y:i<d.length:=by rw[<-c];exact(az.mp O).1
  obtain⟨u,M,G⟩:=j.get (i:=i) (x:=V.int d[i]) (by rw[aA,ao y];rfl);rw[O]at M;cases M;obtain⟨t,e⟩:=(show ∃t,v=Value.int d[i] t from G);exact⟨t,by rw[e];simp[List.getD,y]⟩
 have m:∀{n:Nat},n=d.length->preSum (λi=>d.getD i 0) n=d.sum:=λ{n} e=>by rw[yF d n (by lia),dc (by lia)]
 rcases hp with hp|hp
 .obtain⟨a,j,pl,hz⟩:=I.list hp;obtain⟨c,F⟩:=f j;have k:=pl.isList;have w:=pl.lt;refine call_sum_walkG (iK k ?_);refine⟨s.heap.objs.size,[s.heap.objs.size,p],[s.heap.objs.size],a.toArray.size,_,_,λi=>d.getD i 0,rfl,Walks.list (A:=X.A.in1) J _ p (aV w) a.toArray,⟨⟨_,bf _ rfl,rfl,rfl⟩,k.push _⟩,λb C=>?_,λi v l=>F i v l,λB E t' z=>?_⟩
  .simp only[Heap.push,Array.size_push];rcases ax.mp C with e|e
   .rw[e];exact fW _
   .rw[aI.mp e];exact gH w
  .have kk:∀b o,s.heap.get? b=some o->B.get? b=some o:=λb o g=>z b o (λD=>by rw[aI.mp D]at g;exact cW _ (aH g)) (ar _ g);rw[m (by rw[aM,c])];exact⟨.int _,H,I.kept (t':=E) kk,⟨t',rfl⟩,q⟩
 .obtain⟨a,j,pl,hz⟩:=I.tuple hp;obtain⟨c,F⟩:=f j;have k:s.heap.IsTuple p a.toArray:=pl;have w:p<s.heap.objs.size:=by
   obtain⟨o,e,_⟩:=id k;exact aH e
  refine call_sum_walkG (kb k ?_);refine⟨s.heap.objs.size,[s.heap.objs.size,p],[s.heap.objs.size],a.toArray.size,_,_,λi=>d.getD i 0,rfl,Walks.tuple (A:=X.A.in1) J _ p (aV w) a.toArray,⟨⟨_,bf _ rfl,rfl,rfl⟩,k.push _⟩,λb C=>?_,λi v l=>F i v l,λB E t' z=>?_⟩
  .simp only[Heap.push,Array.size_push];rcases ax.mp C with e|e
   .rw[e];exact fW _
   .rw[aI.mp e];exact gH w
  .have kk:∀b o,s.heap.get? b=some o->B.get? b=some o:=λb o g=>z b o (λD=>by rw[aI.mp D]at g;exact cW _ (aH g)) (ar _ g);rw[m (by rw[aM,c])];exact⟨.int _,H,I.kept (t':=E) kk,⟨t',rfl⟩,q⟩
end
theorem I0{X:Cx}(K:gg)(e:X.K=K){a:List Expr}{k:Nat}{b:Pos}{t:TGs}{n:Nat}(d:X.calm=true)(h:PGs X a t)(f:(assignEach a X.env).length=n:=by rfl)(c:(assignEach a X.env).findIdx? (·.1)=none:=by rfl):PG X (.Tuple a k b) (KU K n t):=by
 subst e;exact kM d h f c
theorem Qs{K:gg}{c d:Bool}{a b p:Addr}{xs zs:List V}{Q:VK}{g:TG}{D:TT}{w:TE}{o:St}{v:Hp}(l:Nat->List V->St->Hp->Prop)(O:l 0 [] o v)(E:∀i f h H,l i f h H->Ϫ K c H a xs/\Ϫ K d H b zs)(P:∀(i:Nat) (x z:V) (f:List V) (h:St) (H:Hp) (q:Addr) (N:List V->St->Hp->Prop),(∀r j n,l (i+1) r j n->N r j n)->xs[i]?=some x->zs[i]?=some z->l i f h H->H q=none->g (.ref q) h (upd H q (.tup [x,z])) λk F=>D k F λb A=>
 if b=true then w k A λy B=>B p=some (.lst f)/\f.length<sizeLine/\N (f++[y]) k (upd B p (.lst (f++[y])))else N f k A)(T:∀f h H,l (min xs.length zs.length) f h H->Q (.ref p) H):uS (Itz K c d a b) p Q g D w o v:=by
 refine⟨λi m f h H=>m=min xs.length zs.length-i/\i<=min xs.length zs.length/\l i f h H,⟨_,rfl,bj _,O⟩,?_⟩;rintro i m f h H ⟨rfl,U,pv⟩;obtain⟨u,t⟩:=E i f h H pv;by_cases S:i<min xs.length zs.length
 .refine .inr ⟨⟨xs,zs,xs[i]'(by lia),zs[i]'(by lia),u,t,ao (by lia),ao (by lia)⟩,λx n y=>?_⟩;obtain⟨G,I,J,M,rfl,rfl,L,R⟩:=y;exact P i I J f h H G (λr j n=>∃C,C<min xs.length zs.length-i/\(C=min xs.length zs.length-(i+1)/\i+1<=min xs.length zs.length/\l (i+1) r j n)) (λr j n s=>⟨min xs.length zs.length-(i+1),by lia,rfl,S,s⟩) (L xs u) (R zs t) pv M
 .have e:i=min xs.length zs.length:=by lia
  subst e;exact .inl ⟨⟨xs,zs,u,t,by lia⟩,T f h H pv⟩
theorem xi{H:Hp}{l:Addr}{a:List V}{i:Int}{v:V}{Q:Hp->Prop}(h:H l=some (.lst a))(b:0<=i)(c:i<a.length)(q:Q (upd H l (.lst (a.set i.toNat v)))):aaS (.ref l) (.int i) v H Q:=⟨l,a,i,i.toNat,rfl,rfl,h,by unfold Zk;rw[aj b,aj (by lia)],q⟩
theorem WD{xs:f3}{i:Int}(a:0<=i)(b:i<xs.length):ϲ (xs.map V.int) i=some (.int (xs.getD i.toNat 0)):=cT a (by
 have h:i.toNat<xs.length:=by lia
 rw[aA,ao h];simp[List.getD,h])
theorem KA(n:Nat)(v:V):(List.replicate n [v]).flatten=List.replicate n v:=by
 induction n with
 | zero=>rfl
 | succ n ih=>rw[cw,fx,ih,cw];rfl
theorem P2{X:Cx}:T6 X (zg X.K):=by
 intro b s k H x y v u Q I E B h;obtain⟨p,G,i,z,rfl,rfl,o,l,q⟩:=h;cases E;obtain⟨t,rfl⟩:=B;obtain⟨d,r,e,J⟩:=I.list o;obtain⟨j,c,n,F,C,D⟩:=Ck l;obtain⟨w,g,A⟩:=r.get n;have m:=r.length;have L:=tG;have a:EP X b k Q w s:=⟨z,H,I,A,q⟩;by_cases f:0<=i
 .have hj:i.toNat=j:=by
   rw[seqIndex_of f D]at c;exact bi c
  exact wpAny_getItem_list e.isList f (by lia) (by rw[hj];simpa using g) a
 .have hj:(i+(d.toArray.size:Int)).toNat=j:=by
   rw[seqIndex_neg (by lia) C]at c;rw[aM,<-m];exact bi c
  exact wpAny_getItem_list_neg e.isList (by lia) (by rw[aM]<;>lia) (by lia) (by rw[hj];simpa using g) a
theorem Ox{K:gg}{a p:Addr}{xs:List V}{Q:VK}{g:TG}{z:TT}{t:TE}{l:St}{s:Hp}(j:Nat->List V->St->Hp->Prop)(C:j 0 [] l s)(A:∀i c d H,i<=xs.length->j i c d H->ξ K H a xs)(D:∀(i:Nat) (x:V) (c:List V) (d:St) (H:Hp) (N:List V->St->Hp->Prop),(∀n f k,j (i+1) n f k->N n f k)->xs.reverse[i]?=some x->j i c d H->g x d H λh B=>z h B λb u=>
 if b=true then t h u λy v=>v p=some (.lst c)/\c.length<sizeLine/\N (c++[y]) h (upd v p (.lst (c++[y])))else N c h u)(F:∀c d H,j xs.length c d H->Q (.ref p) H):uS (Itv K a xs.length) p Q g z t l s:=by
 refine⟨λi m c d H=>m=xs.length-i/\i<=xs.length/\j i c d H,⟨xs.length,by simp,bj _,C⟩,?_⟩;rintro i m c d H ⟨rfl,E,pv⟩;have q:=A i c d H E pv;by_cases r:i<xs.length
 .have hx:xs[xs.length-1-i]?=some xs[xs.length-1-i]:=ao (by lia);refine .inr ⟨⟨r,xs,_,q,hx⟩,λx k y=>?_⟩;obtain⟨e,y⟩:=y;subst e;exact D i x c d _ (λn f k=>∃w,w<xs.length-i/\(w=xs.length-(i+1)/\i+1<=xs.length/\j (i+1) n f k)) (λn f k o=>⟨xs.length-(i+1),by lia,rfl,r,o⟩) (by rw[cC r];exact y xs q) pv
 .have e:i=xs.length:=by lia
  subst e;exact .inl ⟨ap _,F c d H pv⟩
end L2
namespace Pb
open L2
def After(a:f5):List Int->List Int->Prop
 | _,[]=>True
 | S,c::t=>a c∈S/\After a (c::S) t
section
variable{m:Int}{q:hU}{r:Int}{f:f5}{o:gb}
theorem After.mono:∀{l S b:f3},(∀x∈S,x∈b)->After f S l->After f b l
 | [],_,_,_,_=>trivial
 | c::t,S,b,h,a=>⟨h _ a.1,After.mono (λx d=>by
  rcases ax.mp d with e|e
  .exact ax.mpr (.inl e)
  .exact aG _ (h x e)) a.2⟩
theorem After.append:∀{e d S:f3},After f S e->After f S d->After f S (e++d)
 | [],_,_,_,b=>b
 | c::t,d,S,a,b=>⟨a.1,After.append a.2 (b.mono λx g=>aG _ g)⟩
theorem After.snoc{c:Int}:∀{l S:f3},After f S l->(f c∈S\/f c∈l)->After f S (l++[c])
 | [],S,_,h=>⟨h.resolve_right (by simp),trivial⟩
 | d::t,S,a,h=>⟨a.1,After.snoc a.2 (by
  rcases h with h|h
  .exact .inl (aG _ h)
  .rcases ax.mp h with e|e
   .exact .inl (ax.mpr (.inl e))
   .exact .inr e)⟩
theorem After.up:∀{A B S:f3},After f S (A++B)->∀k∈A,f k∈S\/f k∈A
 | [],_,_,_,k,hk=>by cases hk
 | c::t,B,S,a,k,hk=>by
   rcases ax.mp hk with e|e
   .rw[e];exact .inl a.1
   .rcases After.up (A:=t) (B:=B) a.2 k e with h|h
    .rcases ax.mp h with h|h
     .exact .inr (by rw[h];exact aJ)
     .exact .inl h
    .exact .inr (aG _ h)
structure Order(m r:Int)(f:f5)(t:f3):Prop where
 nd:(r::t).Nodup
 Χ:∀v∈t,0<=v/\v<m
 all:∀v,0<=v->v<m->v=r\/v∈t
 af:After f [r] t
theorem Order.ne{t:f3}(O:Order m r f t){v:Int}(h:v∈t):v≠r:=λz=>(bg.mp O.nd).1 (z▸h)
theorem Ai(g:Good m q)(R:ζ m q r f o):∀(n:Nat)(v:Int)(S:f3),0<=v->v<m->f v∈S->After f S (rD m q r f n v)
 | 0,v,S,_,_,h=>⟨h,trivial⟩
 | n+1,v,S,h0,h1,h=>by
   refine⟨h,?_⟩;have:∀(a:f3)(S:f3),v∈S->(∀u∈a,u∈bR m q (front r f v) v)->After f S (a.flatMap (rD m q r f n)):=by
    intro a
    induction a with
    | nil=>intro S _ _;exact trivial
    | cons u a ih=>
      intro S b c;rw[bC];obtain⟨d,k,j⟩:=(bw g R h0 h1).mp (c u aJ);exact(Ai g R n u S d.1 d.2 (by rw[j];exact b)).append (ih S b λx i=>c x (aG _ i))
   exact this _ _ aJ λu e=>e
theorem AE(g:Good m q)(R:ζ m q r f o)(i:0<=r)(c:r<m)(h:(bO m q r f o r).Nodup)(b:∀v,v∈bO m q r f o r↔0<=v/\v<m):∃t,bO m q r f o r=r::t/\Order m r f t:=by
 have e:=fM g R i c;refine⟨_,e,?_⟩;rw[e]at h b;refine⟨h,λv p=>(b v).mp (aG _ p),λv n k=>ax.mp ((b v).mpr ⟨n,k⟩),?_⟩;have:∀a:List Int,(∀u∈a,u∈bR m q (front r f r) r)->After f [r] (a.flatMap (bO m q r f o)):=by
  intro a
  induction a with
  | nil=>intro _;exact trivial
  | cons u a ih=>
    intro d;rw[bC];obtain⟨j,y,w⟩:=(bw g R i c).mp (d u aJ);exact(Ai g R _ u [r] j.1 j.2 (by rw[w];exact aJ)).append (ih λx s=>d x (aG _ s))
 exact this _ λu l=>l
def zd(m:Int)(q:hU)(r:Int)(f:f5)(a:f5)(p:hR):Nat->Int->Int
 | 0,v=>a v
 | n+1,v=>a v+((bR m q (front r f v) v).map λc=>p c (zd m q r f a p n c)).sum
def Φ(m:Int)(q:hU)(r:Int)(f:f5)(o:gb)(a:f5)(p:hR)(v:Int):Int:=zd m q r f a p (m.toNat-1-o v) v
variable{held:f5}{p:hR}
theorem nF(g:Good m q)(R:ζ m q r f o){v:Int}(i:0<=v)(k:v<m):Φ m q r f o held p v=held v+((bR m q (front r f v) v).map λc=>p c (Φ m q r f o held p c)).sum:=by
 have l:∀u,u∈bR m q (front r f v) v->(0<=u/\u<m)/\u≠r/\f u=v:=λu=>(bw g R i k).mp;have d:∀u∈bR m q (front r f v) v,o u=o v+1/\o u+1<=m.toNat:=λu a=>by
  obtain⟨b,h,j⟩:=l u a;have:=R.pos b.1 b.2 h;rw[j]at this;exact⟨this,kH R b.1 b.2⟩
 unfold Φ;cases e:m.toNat-1-o v with
 | zero=>
   have:bR m q (front r f v) v=[]:=gG.mpr λu a=>by
    have:=d u a
    lia
   rw[this];simp[zd]
 | succ n=>
   show held v+_=_;rw[bZ λu a=>show p u (zd m q r f held p n u)=p u (zd m q r f held p (m.toNat-1-o u) u) by rw[show m.toNat-1-o u=n by have:=d u a;lia]]
theorem sN{l a:f3}(h:l.Perm a):l.sum=a.sum:=by
 induction h with
 | nil=>rfl
 | cons x _ ih=>rw[aN,aN,ih]
 | swap x y l=>simp only[aN];lia
 | trans _ _ h1 h2=>exact h1.trans h2
def ub(f:f5)(p:hR)(a:f3)(v:Int):List Int:=a.set (f v).toNat (a.getD (f v).toNat 0+p v (a.getD v.toNat 0))
structure ϙ(m:Int)(q:hU)(r:Int)(f:f5)(o:gb)(held:f5)(p:hR)(t cs:f3):Prop where
 len:(cs.length:Int)=m
 val:∀v,0<=v->v<m->cs.getD v.toNat 0=held v+((t.filter λc=>decide (f c=v)).map λc=>p c (Φ m q r f o held p c)).sum
theorem ϙ.nil{a:f3}(h:(a.length:Int)=m):ϙ m q r f o (λv=>a.getD v.toNat 0) p [] a:=⟨h,λv _ _=>by simp⟩
theorem yO(g:Good m q)(R:ζ m q r f o){t:f3}(e:t.Nodup)(a:∀x∈t,(0<=x/\x<m)/\x≠r){v:Int}(b:0<=v)(i:v<m)(d:∀k,0<=k->k<m->k≠r->f k=v->k∈t):(t.filter λc=>decide (f c=v)).Perm (bR m q (front r f v) v):=by
 refine gK (e.filter _) nZ λx=>?_;rw[bG,bw g R b i,bM];exact⟨λh=>⟨(a x h.1).1,(a x h.1).2,h.2⟩,λh=>⟨d x h.1.1 h.1.2 h.2.1 h.2.2,h.2.2⟩⟩
theorem ϙ.full(g:Good m q)(R:ζ m q r f o){t c:f3}(s:ϙ m q r f o held p t c)(h:t.Nodup)(d:∀x∈t,(0<=x/\x<m)/\x≠r){v:Int}(a:0<=v)(b:v<m)(e:∀k,0<=k->k<m->k≠r->f k=v->k∈t):c.getD v.toNat 0=Φ m q r f o held p v:=by
 rw[s.val v a b,nF g R a b,sN ((yO g R h d a b e).map _)]
theorem ϙ.step(g:Good m q)(R:ζ m q r f o){t a:f3}(s:ϙ m q r f o held p t a){v:Int}(d:0<=v)(h:v<m)(hr:v≠r)(e:a.getD v.toNat 0=Φ m q r f o held p v):ϙ m q r f o held p (v::t) (ub f p a v) where
 len:=by unfold ub;rw[eO];exact s.len
 val:=λu u0 u1=>by
  have j:=(R.up v d h hr).1;have i:=s.len;have b:=s.val u u0 u1;unfold ub;rw[e];by_cases c:f v=u
  .have hl:u.toNat<a.length:=(by lia);rw[eJ (by simpa using c),aq,aN,c];rw[show(a.set u.toNat (a.getD u.toNat 0+p v (Φ m q r f o held p v))).getD u.toNat 0=a.getD u.toNat 0+p v (Φ m q r f o held p v) by simp[List.getD,hl],b]
   lia
  .rw[dF (by simpa using c),<-b];have:(f v).toNat≠u.toNat:=(by lia);simp[List.getD,dY this]
theorem Order.places{t:f3}(O:Order m r f t):∀x∈t,(0<=x/\x<m)/\x≠r:=λx a=>⟨O.Χ x a,O.ne a⟩
theorem Order.turn(g:Good m q)(R:ζ m q r f o){t h:f3}(O:Order m r f t){i:Nat}{v:Int}(s:ϙ m q r f o held p (t.drop (t.length-i)) h)(b:t.reverse[i]?=some v):((0<=v/\v<m)/\v≠r)/\h.getD v.toNat 0=Φ m q r f o held p v/\ϙ m q r f o held p (t.drop (t.length-(i+1))) (ub f p h v):=by
 have H:i<t.length:=by
  have:=(az.mp b).1
  rwa [bc]at this
 rw[cC H]at b;generalize J:t.length-1-i=j at b;have G:t.length-i=j+1:=by lia
 have n:t.length-(i+1)=j:=by lia
 rw[G]at s;rw[n];have d:j<t.length:=by lia
 have E:v∈t:=aQ b;have a:=O.places v E;have C:t.drop j=v::t.drop (j+1):=by
  rw[ck d];rw[ao d]at b;cases b
  rfl
 have l:t=t.take j++v::t.drop (j+1):=by rw[<-C,b8]
 have c:=(bg.mp O.nd).2;have y:=c;rw[l]at y;have F:v∉t.take j:=λz=>(dC.mp y).2.2 v z v aJ rfl;have e:=s.full g R (c.sublist (List.drop_sublist _ _)) (λx I=>O.places x (b5 I)) a.1.1 a.1.2 λk A D B u=>by
  rcases O.all k A D with z|z
  .exact absurd z B
  .rw[l]at z;rcases aY.mp z with z|z
   .have af:=O.af;rw[l]at af;rcases af.up k z with w|w
    .rw[u]at w;exact absurd (aI.mp w) a.2
    .rw[u]at w;exact absurd w F
   .rcases ax.mp z with z|z
    .subst z;exact absurd u (R.ne A D B)
    .exact z
 exact⟨a,e,by rw[C];exact s.step g R a.1.1 a.1.2 a.2 e⟩
def qz(m:Int)(q:hU)(r:Int)(f:f5)(o:gb)(held:f5)(p:hR):List Int:=(b6 m.toNat).map (Φ m q r f o held p)
theorem qD{v:Int}(a:0<=v)(b:v<m):(qz m q r f o held p).getD v.toNat 0=Φ m q r f o held p v:=by
 unfold qz;rw[List.getD,aA,fL (by lia),br a]
 rfl
theorem Order.done(g:Good m q)(R:ζ m q r f o){t a:f3}(O:Order m r f t)(s:ϙ m q r f o held p t a):a=qz m q r f o held p:=by
 have j:=s.len;refine eA λi=>?_;by_cases h:i<m.toNat
 .have hc:i<a.length:=by lia
  have e:=s.full g R (bg.mp O.nd).2 O.places (v:=(i:Int)) (by lia) (by lia) λk b d c l=>(O.all k b d).resolve_left c;unfold qz;rw[aA,fL h];rw[bJ,List.getD,ao hc]at e;rw[ao hc];exact congrArg some e
 .unfold qz;rw[bI (by lia),bI (by rw[aa,b7];lia)]
def Η(q:hU)(f:f5)(v x:Int):Int:=x/(cN q v (f v)).getD 1
end
section
variable{m:Int}{f:hU}{r:Int}{par:f5}{dep:gb}{d:f5}
theorem Jm(a:∀v,0<=d v)(b:∀v x,0<=x->0<=Η f par v x):∀(n:Nat)(v:Int),0<=zd m f r par d (Η f par) n v
 | 0,v=>a v
 | n+1,v=>by
   show 0<=d v+_;have:∀l:List Int,0<=(l.map λc=>Η f par c (zd m f r par d (Η f par) n c)).sum:=by
    intro l
    induction l with
    | nil=>exact ce _
    | cons c l ih=>
      rw[aq,aN];have:=b c _ (Jm a b n c)
      lia
   have e:=this (bR m f (front r par v) v);have g:=a v
   lia
theorem Uo(g:Good m f)(v x:Int)(h:0<=x):0<=Η f par v x:=by
 unfold Η;refine ip h ?_;cases e:cN f v (par v)with
 | none=>decide
 | some k=>
   have l:=zQ.mp (show(cN f v (par v)).isSome=true by rw[e];rfl);obtain⟨x,c,j⟩:=l;obtain⟨i,n⟩:=cJ c;have ok:=g.ok x c;rw[xq g n (by rcases j with⟨a,b⟩|⟨a,b⟩;exact .inl ⟨a,b⟩;exact .inr ⟨a,b⟩)]at e;unfold iV at e;have t0:=ok.t0;have u0:=ok.u0;show 0<=k;split at e
   .cases e;lia
   .split at e
    .cases e;lia
    .cases e
theorem xF(g:Good m f)(a:∀v,0<=d v)(v:Int):0<=Φ m f r par dep d (Η f par) v:=Jm a (Uo g) _ _
theorem zy(l:f3)(i j:Nat)(x:Int)(h:i<l.length):(l.set i x).getD j 0=if i=j then x else l.getD j 0:=by
 by_cases c:i=j
 .subst c;rw[aj rfl];simp[List.getD,h]
 .rw[ag c];simp[List.getD,dY c]
end
end Pb
namespace L2
open PySem PySem.Spec PyProof.Rows
def Cq(a:f3)(lo b:Option Int):List Int:=(a.drop (HT.WY a.length 0 lo)).take (HT.WY a.length a.length b-HT.WY a.length 0 lo)
theorem FD(a:f3)(lo b:Option Int):wI (a.map V.int) lo b=(Cq a lo b).map V.int:=by
 unfold wI Cq;rw[aa,mT,jZ]
theorem slI{K:gg}{H:Hp}{a:Addr}{c:f3}{lo b:Option Int}{Q:VK}(h:ξ K H a (c.map V.int))(q:∀p,H p=none->Q (.ref p) (upd H p (.lst ((Cq c lo b).map V.int)))):SJ K (.ref a) lo b H Q:=⟨a,_,rfl,h,λp d=>by rw[FD];exact q p d⟩
theorem Fx:∀a b:List Int,PyData.eqvAll (a.map PyData.int) (b.map PyData.int)=decide (a=b)
 | [],[]=>by simp[PyData.eqvAll]
 | [],y::b=>by simp[PyData.eqvAll]
 | x::a,[]=>by simp[PyData.eqvAll]
 | x::a,y::b=>by
   rw[aq,aq];simp only[PyData.eqvAll];rw[Fx a b];simp[PyData.eqv];by_cases c:x=y<;>by_cases d:a=b<;>simp[c,d]
theorem R4(a b:f3):PyData.eqv (.list (a.map PyData.int)) (.list (b.map PyData.int))=decide (a=b):=by
 simp only[PyData.eqv];exact Fx a b
def Tl(K:gg)(c:Bool):R2:=λx y H Q=>∃p a i v,x=.ref p/\y=.int i/\Ϫ K c H p a/\ϲ a i=some v/\Q v H
theorem Fu{X:Cx}(c:Bool):IxR X (Tl X.K c):=by
 cases c
 .exact jw
 .exact bL
theorem ixX{K:gg}{c:Bool}{H:Hp}{p:Addr}{a:List V}{i:Int}{v:V}{Q:VK}(h:Ϫ K c H p a)(e:ϲ a i=some v)(q:Q v H):Tl K c (.ref p) (.int i) H Q:=⟨p,a,i,v,rfl,rfl,h,e,q⟩
end L2
namespace Pb
open L2 PySem
theorem IH{c d:Type}{R:c->d->Prop}:∀(n:Nat){b:List c}{a:List d},Paired R b a->Paired R (b.take n) (a.take n)
 | 0,_,_,_=>by rw[fh,fh];exact .nil
 | _+1,_,_,.nil=>.nil
 | n+1,_,_,.cons x xs=>.cons x (IH n xs)
theorem Im{c d:Type}{R:c->d->Prop}:∀(n:Nat){b:List c}{a:List d},Paired R b a->Paired R (b.drop n) (a.drop n)
 | 0,_,_,h=>h
 | _+1,_,_,.nil=>.nil
 | n+1,_,_,.cons x xs=>Im n xs
theorem MP{e f:Type}{R:e->f->Prop}{a:List e}{d:List f}(h:Paired R a d):∀{c:List e}{b:List f},Paired R c b->Paired R (c++a) (b++d)
 | _,_,.nil=>h
 | _,_,.cons x xs=>.cons x (MP h xs)
theorem Tj{b c:Type}{R:b->c->Prop}{d:List b}{a:List c}{q:b}{r:c}(n:Nat)(h:Paired R d a)(e:R q r):Paired R (d.take n++q::d.drop n) (a.take n++r::a.drop n):=MP (.cons e (Im n h)) (IH n h)
theorem Lx{n:Nat}{a:List Row}{b:Row}(R:Rows n a)(k:b.k=(n:Int)+1)(ok:Yu b):Rows (n+1) (a++[b]):=by
 have e:=R.len;refine⟨by rw[aE,e];rfl,λj r c=>?_⟩;by_cases d:j<a.length
 .rw[dh d]at c;exact R.ok j r c
 .have hj2:j=a.length:=by
   have:=(az.mp c).1;rw[aE]at this;simp at this
   lia
  rw[hj2,c8 (ap _),d7]at c;cases c;exact⟨by rw[hj2,e];exact k,ok⟩
section
variable{m:Int}{d:hU}{r:Int}{a:f5}{f:gb}
def lg(d:hU)(b:V)(p:Int)(i:Nat):List Int:=((b6 i).filter λq=>(cN d p q).isSome).filter λv=>decide (V.int v≠b)
theorem vC(i:Nat):b6 (i+1)=b6 i++[(i:Int)]:=by
 unfold b6;rw[da,aw]
 rfl
theorem AQ(p:Int)(b:V):lg d b p m.toNat=bR m d b p:=by
 unfold lg bR;rw[Lz]
theorem JV{b:V}{p:Int}{i:Nat}(c:(cN d p (i:Int)).isSome=true)(e:V.int (i:Int)≠b):lg d b p (i+1)=lg d b p i++[(i:Int)]:=by
 unfold lg;rw[vC,b4,b4]
 congr 1
 simp[c,e]
theorem Bd{b:V}{p:Int}{i:Nat}(h:(cN d p (i:Int)).isSome=true->¬V.int (i:Int)≠b):lg d b p (i+1)=lg d b p i:=by
 unfold lg;rw[vC,b4,b4];have:([(i:Int)].filter λq=>(cN d p q).isSome).filter (λv=>decide (V.int v≠b))=[]:=by
  by_cases c:(cN d p (i:Int)).isSome=true
  .have:=h c;simp[c]
   simpa using this
  .simp[c]
 rw[this,bH]
structure Bfs(m:Int)(d:hU)(r:Int)(a:f5)(t:f3)(k:Nat):Prop where
 J:ύ m d r a t ((r::t).drop k)
 af:After a [r] t
theorem Bfs.start:Bfs m d r a [] 0:=⟨ύ.start,trivial⟩
theorem Bfs.step(g:Good m d)(R:ζ m d r a f)(s:0<=r)(n:r<m){t:f3}{k:Nat}(b:Bfs m d r a t k){p:Int}(j:(r::t)[k]?=some p):Bfs m d r a (t++bR m d (front r a p) p) (k+1):=by
 have q:=(az.mp j).1;have w:(r::t).drop k=p::(r::t).drop (k+1):=by
  rw[ck q];rw[ao q]at j;cases j
  rfl
 have J:=b.J.step g R s n (p:=p) (ws':=(r::t).drop (k+1)) (by rw[w]);have o:=b.J.at_ s n (p:=p) (by rw[w];exact aJ);have z:p∈r::t:=aQ j;refine⟨?_,?_⟩
 .rw[<-fH,jJ (by lia)];exact J
 .have:∀(c l:f3),(∀u∈c,u∈bR m d (front r a p) p)->After a [r] l->p∈r::l->After a [r] (l++c):=by
   intro c
   induction c with
   | nil=>intro l _ h _;rw[bH];exact h
   | cons u c ih=>
     intro l i h v;obtain⟨D,C,B⟩:=(bw g R o.1 o.2).mp (i u aJ);have y:After a [r] (l++[u]):=h.snoc (by
      rw[B];rcases ax.mp v with e|e
      .exact .inl (by rw[e];exact aJ)
      .exact .inr e)
     have:=ih (l++[u]) (λx A=>i x (aG _ A)) y (by
      rcases ax.mp v with e|e
      .rw[e];exact aJ
      .exact aG _ (bo _ e))
     rwa [bX]at this
  exact this _ t (λu i=>i) b.af z
theorem Bfs.done(R:ζ m d r a f){t:f3}{k:Nat}(e:(r::t).length<=k)(b:Bfs m d r a t k):Order m r a t:=by
 have J:=b.J;rw[mz e]at J;refine⟨bg.mpr ⟨J.nr,J.nd⟩,J.Χ,λv c g=>?_,b.af⟩;by_cases z:v=r
 .exact .inl z
 .exact .inr (J.all R v c g z)
end
end Pb
namespace L2
open PySem PySem.Spec PyProof.Rows
theorem FF{P:Program}{w:World}{A:Around}{l:Addr}(c:Bool){it:Addr}(m:A.handled=none)(ne:l≠it)(a:Array Value):Draws P w A it [it,l] a.size (λi v=>a[i]?=some v) (λi h=>zAt l c it i h/\JN l c h a) where
 live:=λi h st=>let ⟨o,e,_⟩:=(j0 l c P w).obj _ _ _ st.1;⟨o,e⟩
 frame:=λi h b st k=>⟨(j0 l c P w).atK _ _ _ _ st.1 λo e=>k it (by simp) o e,(j0 l c P w).Xg _ _ _ st.2 λo e=>k l (by simp) o e⟩
 item:=λi s Q E j st f=>(j0 l c P w).item A s it i a a[i] Q E st.1 st.2 (by simp[j]) λb d g=>f a[i] b s.toks (by simp[j]) ⟨d,(j0 l c P w).Xg _ _ _ st.2 λo e=>g.extBut _ _ ne e⟩ g
 done:=λs Q E st f=>(j0 l c P w).fin A s it a.size a Q E m st.1 st.2 (by simp) λb e p n=>f b e p n
section
variable{P:Program}{w:World}{A:Around}{E:gf}{s:Shared}{l:Addr}{f:Obj}{a:Heap->Array Value->Prop}{i:Addr->Nat->Heap->Prop}
abbrev EI(n:Nat):Obj:={ cls:=.type "enumerate",data:=.fields #[.none,.bool false,.ref n,rawInt 0,.none,.none] }
theorem B7(S:∀P w,Ge P w l f a i)(k:Array Value):Meets (Builtin.«enumerate.__new__» ⟨[.type "enumerate",.ref l],[]⟩) (λ_ R s=>a s.heap k/\R (.ok (.ret (.ref (s.heap.push f).objs.size))) { s with heap:=(s.heap.push f).push (EI s.heap.objs.size) }):=.of_wp λe w A R s j=>by
 obtain⟨o,g,d,p,os⟩:=s;obtain⟨q,r⟩:=j;have n:=sub_enumerate;have h:a (Shared.heap ⟨o,g,d,p,os⟩) k:=q
 wp_walk using ((S e w).start _ _ _ _ _ h)
 refine wpAny_stack_any λst=>?_;dsimp only;refine ba ?_;have m:∀b:Bool,b=true\/b=false:=λb=>by cases b<;>simp
 split
 .rename_i c _ _ _ _ _
  rcases m (c==Value.type "enumerate")with z|z
  .rw[z]
   wp_walk using ((S e w).start _ _ _ _ _ h)
   exact⟨_,rfl,r⟩
  .rw[z]
   wp_walk using ((S e w).start _ _ _ _ _ h)
   exact⟨_,rfl,r⟩
 .wp_walk using ((S e w).start _ _ _ _ _ h)
  exact⟨_,rfl,r⟩
theorem Lw(S:∀P w,Ge P w l f a i){j:Array Value}{Q:gf}(p:a s.heap j)(m:f.isFreed=false)(h:∀b,IsEnum b (s.heap.objs.size+1) s.heap.objs.size 0 .none->i s.heap.objs.size 0 b->(∀c o,s.heap.get? c=some o->b.get? c=some o)->Q (.ref (s.heap.objs.size+1)) { s with heap:=b }):wpAny (model P w) A (call (.type "enumerate") [.ref l]) Q E s:=by
 refine callType_new F.called_enumerate (by decide) (F.typeCall_enumerate_1 _) (F.newCall_enumerate_1 _) (λg=>F.args_object_init_2 g _) F.entry_enumerate_new (B7 S j) ⟨p,?_⟩;have k:(s.heap.push f).objs.size=s.heap.objs.size+1:=df ..;have d:((s.heap.push f).push (EI s.heap.objs.size)).get? (s.heap.push f).objs.size=some (EI s.heap.objs.size):=bf _ rfl;have n:((s.heap.push f).push (EI s.heap.objs.size)).get? s.heap.objs.size=some f:=ar _ (bf _ m);show _/\_;rw[k]at d;rw[k];exact⟨⟨_,d,rfl⟩,h _ d ((S P w).first _ _ n) λc o e=>ar _ (ar _ e)⟩
end
def Ite(K:gg)(c:Bool)(a:Addr):It:=⟨λi H=>∃b x,Ϫ K c H a b/\b[i]?=some x,λi H v d=>∃p x,H p=none/\v=.ref p/\d=upd H p (.tup [.int i,x])/\∀b,Ϫ K c H a b->b[i]?=some x,λi H=>∃b,Ϫ K c H a b/\b.length=i⟩
theorem Ml{P:Program}{w:World}{K:gg}{G:List Expr}{x1}{Wf:Pos}(c:Bool)(a e it:Addr)(ne:e≠it)(ae:a≠e)(ai:a≠it):Turn P w K (.Tuple G x1 Wf) (Ite K c a) [e,it] e (λi h=>(∃y,IsEnum h e it (i:Nat) y)/\zAt a c it i h) where
 mem:=by simp
 obj:=λi h t b hb=>by
  obtain⟨⟨y,t1⟩,F⟩:=t;simp only[ax,dL,or_false]at hb;rcases hb with rfl|rfl
  .exact⟨_,t1,λv z=>by cases z⟩
  .exact(j0 a c P w).obj _ _ _ F
 keep:=λi h S t k=>by
  obtain⟨⟨y,t1⟩,F⟩:=t;exact⟨⟨y,k e (by simp) _ t1⟩,(j0 a c P w).atK _ _ _ _ F λo e=>k it (by simp) o e⟩
 item:=λX e1 e2 e3 hc i C s σ H E I f t g=>by
  subst e1 e2 e3;obtain⟨⟨y,t1⟩,F⟩:=t;obtain⟨Z,x,s1,Y⟩:=g;obtain⟨J,r1,q1⟩:=I.WZ s1;obtain⟨xu,N,rx⟩:=r1.get Y;have hh:X.A.in1.handled=none:=I.ok.hd hc;have D:∀q∈[e,it],ph X C H q:=f;have W:=WalksT.enumerateD (A:=X.A) (FF (P:=X.prog) (w:=X.w) (A:=X.A.in1) (l:=a) c (it:=it) hh ai J.toArray) e ne (by simp;exact⟨ne,ae.symm⟩) (by simp);have Yv:i<J.toArray.size:=by
   have:=(az.mp N).1
   simpa using this
  refine W.item i s _ _ Yv ⟨⟨y,t1⟩,F,q1⟩ λT a6 S M pt le tup O keep=>?_;refine⟨_,rfl,W.go G x1 Wf i T { s with heap:=S,toks:=M } _ _ O λh2 YJ V=>?_⟩;obtain⟨tt,xv,px,ev⟩:=pt;have al:xv=xu:=by
   have h1:J[i]?=some xv:=(by simpa using px);rw[N]at h1;cases h1
   rfl
  subst al;have Tw:T∉[e,it]:=W.apart i T S O;have kp:∀q o,q∉[e,it]->s.heap.get? q=some o->h2.get? q=some o:=λq o d eo=>V q o d (keep q o d eo);obtain⟨ot,ht,a1,nt,am⟩:=tup;have av:h2.get? T=some ot:=V T ot Tw ht;have U:∀q u,H q=some u->q∉[e,it]:=λq u e d=>by rw[(D q d).1]at e;cases e
  have L:H T=none:=I.ψ.fresh le;have Tb:∀q o,s.heap.get? q=some o->q≠T:=λq o eo=>aV (aZ (aH eo) le);have B:Inv X C σ H { s with heap:=h2,toks:=M }:=by
   refine I.step (g':=s.gens) (d':=s.drawn) (t':=M) (ch:=[e,it]) (λq d=>⟨(D q d).2.2.2.1,(D q d).2.1,(D q d).2.2.2.2.1,(D q d).2.2.2.2.2⟩) (λq o _ _ d e _=>kp q o d e) (λq o _ _ d e _=>⟨o.slots,kp q o d e⟩) (λ_ _ _ _ n=>n)
    (λq o d e=>⟨o,kp q o d e⟩) (λ_ _ e=>e) (λ_ _ _ e=>e) (λq ps e=>⟨#[],by rw[e];simp⟩) (λm hm=>?_) (λq u e=>?_) I.bare
   .obtain⟨o,es,ep,ho,r⟩:=hm;exact⟨o,es,ep,kp _ o (λd=>(D _ d).2.1 rfl) ho,r⟩
   .refine(I.ψ q u e).iF (λR v Wo j=>kp R v ?_ j) (λ_ j=>j) λ_ _ j=>j;rcases Wo with rfl|Wo
    .exact U _ u e
    .exact U _ _ Wo
  have I3:Inv X C σ (upd H T (.tup [.int i,x])) { s with heap:=h2,toks:=M }:=by
   refine⟨B.ok,B.os,B.bare,?_,B.loc,B.cell,?_,λn c e=>?_,λp hp=>?_,λq u e=>?_,B.len⟩
   .refine⟨B.base.keep,B.base.slot,λq o e n Y=>?_,B.base.there,λq Z e=>?_,λq o u e=>?_,λq ps e=>?_⟩
    .have lt:q<X.s₀.heap.objs.size:=aH e;rw[aR (aV (aZ lt (aL I.sz le)))];exact B.base.free q o e n Y
    .have j:=B.base.oR q Z e;rw[aR (λz=>by rw[z,L]at j;cases j)];exact j
    .have j:=B.base.iN q o u e;rw[aR (λz=>by rw[z,L]at j;cases j)];exact j
    .obtain⟨more,j⟩:=B.base.rW q ps e;exact⟨more,by rw[aR (λz=>by rw[z,L]at j;cases j)];exact j⟩
   .rw[aR (aV (aZ I.lt le))];exact B.free
   .obtain⟨vv,o,ho,_⟩:=I.cell n c e;rw[aR (Tb _ _ ho)];exact B.Ϟ n c e
   .obtain⟨k1,k2,k3⟩:=I.pin p hp;rw[aR (Tb _ _ k1)];exact B.pin p hp
   .by_cases d:q=T
    .subst d;rw[ay]at e;cases e;refine⟨by show 2<=sizeLine;decide,[.int (i:Nat) tt,xv],.cons ⟨tt,rfl⟩ (.cons rx .nil),ot,av,a1,nt,?_⟩;rw[am,ev]
    .rw[aR d]at e;refine(B.ψ q u e).iF (λ_ _ _ j=>j) (λR j=>?_) λR Z j=>?_
     .rw[aR (λz=>by rw[z,L]at j;cases j)];exact j
     .rw[aR (λz=>by rw[z,L]at j;cases j)];exact j
  refine⟨.ref T,_,I3,rfl,⟨T,x,L,rfl,rfl,λbS q=>?_⟩,⟨YJ.1,YJ.2.1⟩,λq d=>?_⟩
  .rw[<-I.Xh s1 q];exact Y
  .have ό:q≠T:=by
    simp only[ax,dL,or_false]at d;rcases d with rfl|rfl
    .exact Tb _ _ t1
    .exact let ⟨o,e,_⟩:=(j0 a c X.prog X.w).obj _ _ _ F;Tb _ _ e
   rw[aR ό];exact(D q d).1
 done:=λX e1 e2 e3 hc i C s σ H E I f t g=>by
  subst e1 e2 e3;obtain⟨⟨y,t1⟩,F⟩:=t;obtain⟨Z,s1,bk⟩:=g;obtain⟨J,r1,q1⟩:=I.WZ s1;have hh:X.A.in1.handled=none:=I.ok.hd hc;have D:∀q∈[e,it],ph X C H q:=f;have W:=WalksT.enumerateD (A:=X.A) (FF (P:=X.prog) (w:=X.w) (A:=X.A.in1) (l:=a) c (it:=it) hh ai J.toArray) e ne (by simp;exact⟨ne,ae.symm⟩) (by simp);have ei:i=J.toArray.size:=by
   have:=r1.length;simp
   lia
  subst ei;refine W.done s _ _ ⟨⟨y,t1⟩,F,q1⟩ λS M keep=>⟨rfl,?_⟩;have kp:∀q o,q∉[e,it]->s.heap.get? q=some o->S.get? q=some o:=λq o d e=>keep q o d e;have U:∀q u,H q=some u->q∉[e,it]:=λq u e d=>by rw[(D q d).1]at e;cases e
  refine I.step (g':=s.gens) (d':=s.drawn) (t':=M) (ch:=[e,it]) (λq d=>⟨(D q d).2.2.2.1,(D q d).2.1,(D q d).2.2.2.2.1,(D q d).2.2.2.2.2⟩) (λq o _ _ d e _=>kp q o d e) (λq o _ _ d e _=>⟨o.slots,kp q o d e⟩) (λ_ _ _ _ n=>n)
   (λq o d e=>⟨o,kp q o d e⟩) (λ_ _ e=>e) (λ_ _ _ e=>e) (λq ps e=>⟨#[],by rw[e];simp⟩) (λm hm=>?_) (λq u e=>?_) I.bare
  .obtain⟨o,es,ep,ho,r⟩:=hm;exact⟨o,es,ep,kp _ o (λd=>(D _ d).2.1 rfl) ho,r⟩
  .refine(I.ψ q u e).iF (λR v Wo j=>kp R v ?_ j) (λ_ j=>j) λ_ _ j=>j;rcases Wo with rfl|Wo
   .exact U _ u e
   .exact U _ _ Wo
 self:=λA i s Q E t q=>by
  obtain⟨⟨y,t1⟩,F⟩:=t;exact wpAny_pyIter_enum t1 q
def K5(K:gg)(c:Bool)(f:TE):TI:=λd H R=>f d H λx b=>∃a,x=.ref a/\(∃e,Ϫ K c b a e)/\R (Ite K c a) b
section
variable{X:Cx}{e:Expr}{f:TE}{g d:Pos}
theorem xQ{k:List Expr}{x1}{Wf:Pos}(c:Bool)(hg:Gl X "enumerate")(hm:X.mg "enumerate"=none)(he:PE X e f)(h2:starEach [e] X.env=[(false,eval e X.env)]:=by rfl):PI X (.Tuple k x1 Wf) (.Call (.Name "enumerate" g) [e] [] d) (K5 X.K c f):=by
 intro i s w H R I h;refine Call_ (oM I hg hm boot_enumerate (cG ?_ h2 rfl));rw[h2];show wpAny _ _ (spliced ((false,eval e X.env)::backTo d [])) _ _ s;refine gF (dQ (he i s w H _ I h) λu l x B m p n=>gQ ?_);obtain⟨a,z,⟨D,A⟩,q⟩:=n;subst z;cases p;obtain⟨G,p,n⟩:=m.WZ A;obtain⟨F,o⟩:=rY a c _ _ n;have r:=aH o;refine Lw (j0 a c) n (wZ a c) λE v y C=>?_;refine wpAny_pyIter_enum v ?_;refine⟨_,[l.heap.objs.size+1,l.heap.objs.size],_,_,B,rfl,m.kept (t':=l.toks) C,Ml c a _ _ (Nat.succ_ne_self _) (aV (gH r)) (aV r),⟨⟨_,v⟩,y⟩,λb t=>?_,q⟩;have j:l.heap.objs.size<=b:=by
  simp only[ax,dL,or_false]at t;rcases t with rfl|rfl
  .exact fD _
  .exact ap _
 exact m.YN j (m.ψ.fresh j)
end
theorem zO{K:gg}{c:Bool}{a:Addr}{xs:List V}{g:TG}{n:TS}{D:Ends}{b:St}{H:Hp}(h:Nat->St->Hp->Prop)(w:h 0 b H)(r:∀i b H,h i b H->Ϫ K c H a xs)(A:∀(i:Nat) (x:V) (b:St) (H:Hp) (p:Addr) (N:St->Hp->Prop),(∀d f,h (i+1) d f->N d f)->xs[i]?=some x->h i b H->H p=none->g (.ref p) b (upd H p (.tup [.int i,x])) λj s=>n { D with nx:=N,ct:=N,bk:=D.nx } j s)(B:∀b H,h xs.length b H->D.nx b H):sf (Ite K c a) D g n b H:=by
 refine⟨λi m b H=>m=xs.length-i/\i<=xs.length/\h i b H,⟨_,rfl,bj _,w⟩,?_⟩;rintro i m b H ⟨rfl,C,p⟩;have l:=r i b H p;by_cases q:i<xs.length
 .refine .inr ⟨⟨xs,xs[i],l,ao q⟩,λd f=>∃o,o<xs.length-i/\(o=xs.length-(i+1)/\i+1<=xs.length/\h (i+1) d f),λd f z=>z,λx f y=>?_⟩;obtain⟨k,t,v,rfl,rfl,u⟩:=y;exact A i t b H k _ (λd f k=>⟨xs.length-(i+1),by lia,rfl,q,k⟩) (u xs l) p v
 .have e:i=xs.length:=by lia
  subst e;exact .inl ⟨⟨xs,l,rfl⟩,B b H p⟩
end L2
namespace Pb
open L2 PySem
theorem Jv{e f:Type}{R:e->f->Prop}{a:e}{b:f}(h:R a b):∀{d:List e}{c:List f},Paired R d c->Paired R (d++[a]) (c++[b])
 | _,_,.nil=>.cons h .nil
 | _,_,.cons x xs=>.cons x (Jv h xs)
end Pb
namespace Pb
open L2
section
variable{m:Int}{i:hU}{r:Int}{b:f5}{g:gb}{a d:f5}{e:hR}
theorem qM{f h:f5}{l:f3}(j:∀c∈l,f c=h c):(l.map f).sum=(l.map h).sum:=by rw[bZ j]
end
end Pb
namespace L2
open PySem PySem.Spec PyProof.Rows
theorem Lj(a:List V){k:Int}(e:0<=k):wI a (some k) none=a.drop k.toNat:=by
 unfold wI;have d:HT.WY a.length a.length none=a.length:=rfl;have b:HT.WY a.length 0 (some k)=min k.toNat a.length:=by
  show(if k<0 then(k+(a.length:Int)).toNat else min k.toNat a.length)=_;rw[ag (by lia)]
 rw[d,b,dc (by rw[fu];lia)];by_cases c:k.toNat<=a.length
 .rw[Nat.min_eq_left c]
 .rw[Nat.min_eq_right (by lia),mC (ap _),mC (by lia)]
end L2
namespace Pb
open L2 PySem
section
variable{m:Int}{d:hU}{r b:Int}{a:f5}{c:gb}
def Dc(a:f5)(b:Int):Nat->Int->Bool
 | 0,v=>decide (v=b)
 | n+1,v=>decide (v=b)||Dc a b n (a v)
def ben(a:f5)(c:gb)(b v:Int):Bool:=Dc a b (c v) v
theorem P9(R:ζ m d r a c){v:Int}(e:0<=v)(f:v<m)(g:v≠r):ben a c b v=(decide (v=b)||ben a c b (a v)):=by
 unfold ben;rw[R.pos e f g]
 rfl
end
end Pb
namespace L2
theorem cL{A B:TS}{D:Ends}{b:St}{H:Hp}(h:∀N:St->Hp->Prop,(∀a c,B D a c->N a c)->A { D with nx:=N } b H):KD A B D b H:=h (B D) λ_ _ z=>z
end L2
namespace L2
open PySem
theorem mG{K:gg}{a:Addr}{xs:List V}{g:TG}{h:TS}{D:Ends}{b:St}{H:Hp}(d:Nat->St->Hp->Prop)(m:d 0 b H)(l:∀i b H,i<=xs.length->d i b H->ξ K H a xs)(n:∀(i:Nat) (x:V) (b:St) (H:Hp) (N B:St->Hp->Prop),(∀b H,(g x b H λc f=>h { D with nx:=N,ct:=N,bk:=D.nx } c f)->B b H)->(∀e j,d (i+1) e j->N e j)->xs[i]?=some x->d i b H->B b H)(q:∀(B:St->Hp->Prop) b H,(∀b H,D.nx b H->B b H)->d xs.length b H->B b H):sf (Itl K a) D g h b H:=ww d m l (λi x b H N k o p=>n i x b H N (λb H=>g x b H λc f=>h { D with nx:=N,ct:=N,bk:=D.nx } c f) (λ_ _ z=>z) k o p) λb H p=>q (λb H=>D.nx b H) b H (λ_ _ z=>z) p
theorem vH{lo:Int}{n:Nat}{g:TG}{f:TS}{D:Ends}{a:St}{H:Hp}(d:Nat->St->Hp->Prop)(k:d 0 a H)(l:∀(i:Nat) (a:St) (H:Hp) (N B:St->Hp->Prop),(∀a H,(g (.int (lo+i)) a H λb e=>f { D with nx:=N,ct:=N,bk:=D.nx } b e)->B a H)->(∀c h,d (i+1) c h->N c h)->i<n->d i a H->B a H)(o:∀(B:St->Hp->Prop) a H,(∀a H,D.nx a H->B a H)->d n a H->B a H):sf (ZP lo n) D g f a H:=p8 d k (λi a H N j m p=>l i a H N (λa H=>g (.int (lo+i)) a H λb e=>f { D with nx:=N,ct:=N,bk:=D.nx } b e) (λ_ _ z=>z) j m p) λa H p=>o (λa H=>D.nx a H) a H (λ_ _ z=>z) p
theorem B4{c:TT}{h:TS}{D:Ends}{d:St}{H:Hp}(W:Nat->St->Hp->Prop)(j:Nat)(l:W j d H)(m:∀(n:Nat) (d:St) (H:Hp) (N:St->Hp->Prop) (B:Nat->St->Hp->Prop),(∀n d H,(c d H λb g=>if b=true then ∃N:St->Hp->Prop,(∀a e,N a e->∃f,f<n/\W f a e)/\h { D with nx:=N,ct:=N,bk:=D.nx } d g else D.nx d g)->B n d H)->(∀i a e,i<n->W i a e->N a e)->(∀a e,N a e->∃f,f<n/\W f a e)->W n d H->B n d H):GB c h D d H:=u9 W j l λn d H N k o w=>m n d H N (λn d H=>c d H λb g=>if b=true then ∃N:St->Hp->Prop,(∀a e,N a e->∃f,f<n/\W f a e)/\h { D with nx:=N,ct:=N,bk:=D.nx } d g else D.nx d g) (λ_ _ _ z=>z) k o w
theorem an4{a b c d:Prop}(f:a)(g:b)(h:c)(e:d):a/\b/\c/\d:=⟨f,g,h,e⟩
theorem an6{a b d e f c:Prop}(j:a)(k:b)(l:d)(i:e)(g:f)(h:c):a/\b/\d/\e/\f/\c:=⟨j,k,l,i,g,h⟩
theorem an7{a b e f g c d:Prop}(k:a)(m:b)(n:e)(j:f)(h:g)(i:c)(l:d):a/\b/\e/\f/\g/\c/\d:=⟨k,m,n,j,h,i,l⟩
end L2
namespace Pb
open L2 PySem
section
variable{m:Int}{e:hU}{r b:Int}{a:f5}{d:gb}
theorem Jw:∀(n:Nat)(v:Int),Dc a b n v=decide (b∈nc a n v)
 | 0,v=>by
   show decide (v=b)=decide (b∈[v]);exact kW.mpr ⟨λz=>by rw[z];exact aJ,λz=>(aI.mp z).symm⟩
 | n+1,v=>by
   show(decide (v=b)||Dc a b n (a v))=decide (b∈v::nc a n (a v));rw[Jw n (a v)];by_cases c:v=b
   .rw[bh c,Bool.true_or,bh (by rw[c];exact aJ)]
   .rw[bA c,nh];exact kW.mpr ⟨λz=>aG _ z,λz=>by
     rcases ax.mp z with z|z
     .exact absurd z.symm c
     .exact z⟩
end
section
variable{m:Int}{j:hU}{r b:Int}{a:f5}{d:gb}
theorem Q7:∀(k:Nat)(x:Int),up a (k+1) x=up a k (a x)
 | 0,_=>rfl
 | k+1,x=>by show a (up a (k+1) x)=a (up a k (a x));rw[Q7 k x]
theorem yM:∀(n k:Nat)(x:Int),k<=n->up a k x∈nc a n x
 | 0,0,x,_=>aJ
 | n+1,0,x,_=>aJ
 | n+1,k+1,x,h=>by
   rw[Q7];exact aG _ (yM n k (a x) (by lia))
theorem IL{f:Int->List Int}:∀{l:f3}{k:Nat}{p:Int},(l.flatMap f)[k]?=some p->∃u∈l,∃e rest,(f u)[e]?=some p/\(l.flatMap f).drop k=(f u).drop e++rest
 | [],k,p,h=>by simp at h
 | u::l,k,p,h=>by
   rw[bC]at h ⊢;by_cases c:k<(f u).length
   .rw[dh c]at h;exact⟨u,aJ,k,l.flatMap f,h,jJ (iX c)⟩
   .rw[c8 (by lia)]at h;obtain⟨w,n,e,rest,g,i⟩:=IL h;refine⟨w,aG _ n,e,rest,g,?_⟩;rw[<-i,List.drop_append,mz (by lia),f8]
theorem QO(g:Good m j)(R:ζ m j r a d):∀(n:Nat)(v:Int),m.toNat-1-d v=n->0<=v->v<m->∀(k:Nat)(p:Int),(bO m j r a d v)[k]?=some p->∃rest,(bO m j r a d v).drop k=bO m j r a d p++rest:=by
 intro n
 induction n with
 | zero=>
   intro v o i f k p h;have e:bO m j r a d v=[v]:=by unfold bO;rw[o];rfl
   cases k with
   | zero=>
     have:p=v:=(by rw[e]at h;exact(bi h).symm);rw[this];exact⟨[],by rw[bH];rfl⟩
   | succ k=>rw[e]at h;simp at h
 | succ n ih=>
   intro v o i f k p h;have e:=fM g R i f;cases k with
   | zero=>
     have:p=v:=(by rw[e]at h;exact(bi h).symm);rw[this];exact⟨[],by rw[bH];rfl⟩
   | succ k=>
     rw[e,iC]at h;obtain⟨u,x,z,rest,w,y⟩:=IL h;obtain⟨c,t,up⟩:=(bw g R i f).mp x;have q:=R.pos c.1 c.2 t;rw[up]at q;have dl:=kH R c.1 c.2;obtain⟨l,s⟩:=ih u (by lia) c.1 c.2 z p w;exact⟨l++rest,by rw[e,nA,y,s,bX]⟩
theorem zV(g:Good m j)(R:ζ m j r a d){v:Int}(c:0<=v)(e:v<m):v∈bO m j r a d v:=by
 rw[fM g R c e];exact aJ
theorem R0(g:Good m j)(R:ζ m j r a d){p:Int}(f:0<=p)(l:p<m)(x:Int):x∈bO m j r a d p↔(0<=x/\x<m)/\ben a d p x=true:=by
 constructor
 .intro h;obtain⟨c,k,v,t⟩:=(ou g R _ p f l).2 x h;refine⟨c,?_⟩;unfold ben;rw[Jw];refine bh ?_;rw[<-t];exact yM _ _ _ (by lia)
 .rintro⟨c,h⟩;generalize s:d x=n
  induction n generalizing x with
  | zero=>
    by_cases z:x=r
    .subst z;have:p=x:=by
      unfold ben at h;rw[R.root]at h;exact(bN h).symm
     rw[this];exact zV g R c.1 c.2
    .have:=R.pos c.1 c.2 z
     lia
  | succ n ih=>
    have z:x≠r:=λz=>by rw[z,R.root]at s;lia
    have u:=R.up x c.1 c.2 z;rw[P9 R c.1 c.2 z]at h;by_cases y:x=p
    .rw[y];exact zV g R f l
    .rw[bA y,nh]at h;have q:=ih (a x) u.1 h (by lia);obtain⟨k,o⟩:=cJ q;obtain⟨rest,e⟩:=QO g R _ p rfl f l k _ o;refine b5 (i:=k) ?_;rw[e,fM g R u.1.1 u.1.2];refine bo _ (aG _ (dJ.mpr ⟨x,(bw g R u.1.1 u.1.2).mpr ⟨c,z,rfl⟩,zV g R c.1 c.2⟩))
end
end Pb
namespace L2
open PySem
def VH(_ j:Int):Prop:=0<j/\j.natAbs.log2<9000
theorem F6{X:Cx}:iS X (binaryOp .FloorDiv) (rI VH λi j=>.int (i/j)):=opI λi j _ _ _ _ _ a q=>by
 have b:(0:Int)<j:=a.1;exact PyProof.Rows.floordiv_int (by lia) (by rw[kJ i (by lia)];exact q) (.inl (PyProof.noPylong_of_log2 a.2))
end L2
namespace Pb
open PySem L2
def vPr(r:Int)(a:f5)(v:Int):List V:=[.int v,front r a v]
abbrev Μ(H:Hp)(r:Int)(a:f5):List Addr->List Int->Prop:=Paired λq v=>H q=some (.tup (vPr r a v))
theorem Μ.same{H b:Hp}{r:Int}{a:f5}{d:gw}{c:f3}(e:δ H b)(h:Μ H r a d c):Μ b r a d c:=Paired.imp' (λq v x=>e q _ x) h
theorem Μ.get{H:Hp}{r:Int}{c:f5}:∀{d:gw}{f:f3}{i:Nat}{x:V},Μ H r c d f->(d.map V.ref)[i]?=some x->∃p v,x=.ref p/\d[i]?=some p/\f[i]?=some v/\H p=some (.tup (vPr r c v))
 | _,_,i,x,.nil,e=>by simp at e
 | _,_,0,x,.cons (a:=p) (b:=r) h hs,e=>⟨p,r,by simpa using e.symm,by simp,by simp,h⟩
 | a::l1,_,i+1,x,.cons h hs,e=>by
   have j:(List.map V.ref l1)[i]?=some x:=by simpa using e
   obtain⟨p,r,l,m,k,g⟩:=Μ.get hs j;exact⟨p,r,l,by simpa using m,by simpa using k,g⟩
theorem Μ.snoc{H:Hp}{r:Int}{a:f5}{q:Addr}{v:Int}(e:H q=some (.tup (vPr r a v))):∀{c:gw}{b:f3},Μ H r a c b->Μ H r a (c++[q]) (b++[v])
 | _,_,.nil=>.cons e .nil
 | _,_,.cons x xs=>.cons x (Μ.snoc e xs)
theorem Jf{e f:Type}{R:e->f->Prop}{a:List e}{d:List f}(h:Paired R a d):∀{c:List e}{b:List f},Paired R c b->Paired R (c++a) (b++d)
 | _,_,.nil=>h
 | _,_,.cons x xs=>.cons x (Jf h xs)
end Pb
set_option exponentiation.threshold 5000
namespace Pb
open L2 PySem
section
variable{m:Int}{q:hU}{r:Int}{d:f5}{o:gb}
def foU(C:hR)(m:Int)(q:hU)(r:Int)(d:f5)(p:f5)(A:hR):Nat->Int->Int
 | 0,v=>p v
 | n+1,v=>((bR m q (front r d v) v).map λc=>A c (foU C m q r d p A n c)).foldl C (p v)
def fo(C:hR)(m:Int)(q:hU)(r:Int)(d:f5)(o:gb)(p:f5)(A:hR)(v:Int):Int:=foU C m q r d p A (m.toNat-1-o v) v
variable{C:hR}{p:f5}{A:hR}
theorem sC(g:Good m q)(R:ζ m q r d o){v:Int}(i:0<=v)(k:v<m):fo C m q r d o p A v=((bR m q (front r d v) v).map λc=>A c (fo C m q r d o p A c)).foldl C (p v):=by
 have f:∀u∈bR m q (front r d v) v,o u=o v+1/\o u+1<=m.toNat:=λu a=>by
  obtain⟨b,h,j⟩:=(bw g R i k).mp a;have:=R.pos b.1 b.2 h;rw[j]at this;exact⟨this,kH R b.1 b.2⟩
 unfold fo;cases e:m.toNat-1-o v with
 | zero=>
   have:bR m q (front r d v) v=[]:=gG.mpr λu a=>by
    have:=f u a
    lia
   rw[this]
   rfl
 | succ n=>
   show List.foldl C (p v) _=_;rw[bZ λu a=>show A u (foU C m q r d p A n u)=A u (foU C m q r d p A (m.toNat-1-o u) u) by rw[show m.toNat-1-o u=n by have:=f u a;lia]]
def zb(C:hR):Prop:=∀a b c,C (C a b) c=C (C a c) b
theorem LK(c:zb C){l b:f3}(h:l.Perm b):∀a,l.foldl C a=b.foldl C a:=by
 induction h with
 | nil=>exact λ_=>rfl
 | cons x _ ih=>exact λa=>ih _
 | swap x y l=>intro a;show List.foldl C (C (C a y) x) l=List.foldl C (C (C a x) y) l;rw[c]
 | trans _ _ h1 h2=>exact λa=>(h1 a).trans (h2 a)
theorem Ie(b:zb C):∀(l:f3)(a x:Int),l.foldl C (C a x)=C (l.foldl C a) x
 | [],a,x=>rfl
 | y::l,a,x=>by show l.foldl C (C (C a x) y)=C (l.foldl C (C a y)) x;rw[b,Ie b l]
def xS(C:hR)(d:f5)(A:hR)(a:f3)(v:Int):List Int:=a.set (d v).toNat (C (a.getD (d v).toNat 0) (A v (a.getD v.toNat 0)))
structure Le(C:hR)(m:Int)(q:hU)(r:Int)(d:f5)(o:gb)(p:f5)(A:hR)(t cs:f3):Prop where
 len:(cs.length:Int)=m
 val:∀v,0<=v->v<m->cs.getD v.toNat 0=((t.filter λc=>decide (d c=v)).map λc=>A c (fo C m q r d o p A c)).foldl C (p v)
theorem Le.nil{a:f3}(h:(a.length:Int)=m)(e:∀v,0<=v->v<m->a.getD v.toNat 0=p v):Le C m q r d o p A [] a:=⟨h,λv b c=>e v b c⟩
theorem Le.full(i:zb C)(g:Good m q)(R:ζ m q r d o){t c:f3}(s:Le C m q r d o p A t c)(h:t.Nodup)(e:∀x∈t,(0<=x/\x<m)/\x≠r){v:Int}(a:0<=v)(b:v<m)(f:∀k,0<=k->k<m->k≠r->d k=v->k∈t):c.getD v.toNat 0=fo C m q r d o p A v:=by
 rw[s.val v a b,sC g R a b,LK i ((yO g R h e a b f).map _)]
theorem Le.step(i:zb C)(g:Good m q)(R:ζ m q r d o){t a:f3}(s:Le C m q r d o p A t a){v:Int}(f:0<=v)(h:v<m)(hr:v≠r)(e:a.getD v.toNat 0=fo C m q r d o p A v):Le C m q r d o p A (v::t) (xS C d A a v) where
 len:=by unfold xS;rw[eO];exact s.len
 val:=λu u0 u1=>by
  have k:=(R.up v f h hr).1;have j:=s.len;have b:=s.val u u0 u1;unfold xS;rw[e];by_cases c:d v=u
  .have hl:u.toNat<a.length:=(by lia);rw[eJ (by simpa using c),aq,List.foldl_cons,Ie i,<-b,c];simp[List.getD,hl]
  .rw[dF (by simpa using c),<-b];have:(d v).toNat≠u.toNat:=(by lia);simp[List.getD,dY this]
theorem Order.cut(R:ζ m q r d o){t:f3}(O:Order m r d t){i:Nat}{v:Int}(a:t.reverse[i]?=some v):((0<=v/\v<m)/\v≠r)/\t.drop (t.length-(i+1))=v::t.drop (t.length-i)/\(t.drop (t.length-i)).Nodup/\(∀x∈t.drop (t.length-i),(0<=x/\x<m)/\x≠r)/\∀k,0<=k->k<m->k≠r->d k=v->k∈t.drop (t.length-i):=by
 have F:i<t.length:=by
  have:=(az.mp a).1
  rwa [bc]at this
 rw[cC F]at a;generalize H:t.length-1-i=j at a;have E:t.length-i=j+1:=by lia
 have f:t.length-(i+1)=j:=by lia
 rw[E,f];have c:j<t.length:=by lia
 have B:v∈t:=aQ a;have h:=O.places v B;have u:t.drop j=v::t.drop (j+1):=by
  rw[ck c];rw[ao c]at a;cases a
  rfl
 have e:t=t.take j++v::t.drop (j+1):=by rw[<-u,b8]
 have b:=(bg.mp O.nd).2;have l:=b;rw[e]at l;have D:v∉t.take j:=λz=>(dC.mp l).2.2 v z v aJ rfl;refine⟨h,u,b.sublist (List.drop_sublist _ _),λx G=>O.places x (b5 G),λk n y s g=>?_⟩;rcases O.all k n y with z|z
 .exact absurd z s
 .rw[e]at z;rcases aY.mp z with z|z
  .have af:=O.af;rw[e]at af;rcases af.up k z with w|w
   .rw[g]at w;exact absurd (aI.mp w) h.2
   .rw[g]at w;exact absurd w D
  .rcases ax.mp z with z|z
   .subst z;exact absurd g (R.ne n y s)
   .exact z
theorem Order.adJ(c:zb C)(g:Good m q)(R:ζ m q r d o){t b:f3}(O:Order m r d t){i:Nat}{v:Int}(s:Le C m q r d o p A (t.drop (t.length-i)) b)(f:t.reverse[i]?=some v):((0<=v/\v<m)/\v≠r)/\b.getD v.toNat 0=fo C m q r d o p A v/\Le C m q r d o p A (t.drop (t.length-(i+1))) (xS C d A b v):=by
 obtain⟨a,l,k,h,j⟩:=O.cut R f;have e:=s.full c g R k h a.1.1 a.1.2 j;exact⟨a,e,by rw[l];exact s.step c g R a.1.1 a.1.2 a.2 e⟩
def foL(C:hR)(m:Int)(q:hU)(r:Int)(d:f5)(o:gb)(p:f5)(A:hR):List Int:=(b6 m.toNat).map (fo C m q r d o p A)
theorem gM{v:Int}(a:0<=v)(b:v<m):(foL C m q r d o p A).getD v.toNat 0=fo C m q r d o p A v:=by
 unfold foL;rw[List.getD,aA,fL (by lia),br a]
 rfl
theorem qw:(foL C m q r d o p A).length=m.toNat:=by unfold foL;rw[aa,b7]
theorem Order.doneF(f:zb C)(g:Good m q)(R:ζ m q r d o){t a:f3}(O:Order m r d t)(s:Le C m q r d o p A t a):a=foL C m q r d o p A:=by
 have l:=s.len;refine eA λi=>?_;by_cases h:i<m.toNat
 .have hc:i<a.length:=by lia
  have e:=s.full f g R (bg.mp O.nd).2 O.places (v:=(i:Int)) (by lia) (by lia) λk b j c n=>(O.all k b j).resolve_left c;unfold foL;rw[aA,fL h];rw[bJ,List.getD,ao hc]at e;rw[ao hc];exact congrArg some e
 .rw[bI (by lia),bI (by rw[qw];lia)]
def mx(i j:Int):Int:=if j>i then j else i
theorem Jq:zb mx:=λa b c=>by
 have h:∀x y,mx x y=max x y:=λx y=>by unfold mx;lia
 rw[h,h,h,h]
 lia
def bor(q:hU)(d:f5)(v x:Int):Int:=x*(cN q v (d v)).getD 1
abbrev ο(m:Int)(q:hU)(r:Int)(d:f5)(o:gb):Int->Int:=fo mx m q r d o (λ_=>1) (bor q d)
abbrev dD(m:Int)(q:hU)(r:Int)(d:f5)(o:gb):List Int:=foL mx m q r d o (λ_=>1) (bor q d)
theorem yc{B:Int}:∀(l:f3)(a:Int),a<=B->(∀x∈l,x<=B)->a<=l.foldl mx a/\l.foldl mx a<=B/\∀x∈l,x<=l.foldl mx a
 | [],a,h,_=>⟨ce _,h,λx b=>by cases b⟩
 | y::l,a,h,hl=>by
   have j:=hl y aJ;have c:a<=mx a y/\y<=mx a y/\mx a y<=B:=by unfold mx;split<;>lia
   obtain⟨f,g,i⟩:=yc l (mx a y) c.2.2 λx b=>hl x (aG _ b);refine⟨bE c.1 f,g,λx b=>?_⟩;rcases ax.mp b with e|e
   .rw[e];exact bE c.2.1 f
   .exact i x e
theorem AK(g:Good m q)(R:ζ m q r d o):∀(n:Nat)(v:Int),0<=v->v<m->1<=foU mx m q r d (λ_=>1) (bor q d) n v/\foU mx m q r d (λ_=>1) (bor q d) n v<=1000000^n
 | 0,v,_,_=>⟨ce _,ce _⟩
 | n+1,v,h0,h1=>by
   have w:(1:Int)<=1000000^n:=Int.pow_pos (by decide);have b:(1000000:Int)^(n+1)=1000000^n*1000000:=Int.pow_succ ..;show 1<=List.foldl mx 1 _/\List.foldl mx 1 _<=_;obtain⟨j,i,_⟩:=yc (B:=1000000^(n+1)) ((bR m q (front r d v) v).map λc=>bor q d c (foU mx m q r d (λ_=>1) (bor q d) n c)) 1 (by lia) λx s=>by
    obtain⟨c,h,rfl⟩:=aP.mp s;obtain⟨a,f,z⟩:=(bw g R h0 h1).mp h;obtain⟨k,e,y,t⟩:=oh g R a.1 a.2 f;obtain⟨u,l⟩:=AK g R n c a.1 a.2;unfold bor;rw[e,b];show _*k<=_;exact de l t (by lia) (by lia)
   exact⟨j,i⟩
theorem ff(g:Good m q)(R:ζ m q r d o){v:Int}(c:0<=v)(e:v<m):1<=ο m q r d o v/\ο m q r d o v<=2^480:=by
 obtain⟨a,b⟩:=AK g R (m.toNat-1-o v) v c e;refine⟨a,bE b ?_⟩;have Ο:=g.Ο;have:(1000000:Int)^(m.toNat-1-o v)<=1000000^24:=by
  have f:m.toNat-1-o v<=24:=by lia
  have h:=Int.ofNat_le.mpr (bB (show 0<1000000 by decide) f);rw[Int.natCast_pow,Int.natCast_pow]at h;exact h
 exact bE this (by decide +kernel)
theorem DE(g:Good m q)(R:ζ m q r d o):∀x∈dD m q r d o,x.natAbs<2^4000:=λx f=>by
 obtain⟨v,a,rfl⟩:=aP.mp f;obtain⟨b,j⟩:=dN.mp a;obtain⟨h,i⟩:=ff g R b (show v<m by lia);have e:((fo mx m q r d o (λ_=>1) (bor q d) v).natAbs:Int)<=2^480:=by rw[Int.natAbs_of_nonneg (bE (by decide) h)];exact i
 have c:(fo mx m q r d o (λ_=>1) (bor q d) v).natAbs<=2^480:=by exact_mod_cast e
 exact gm c (mI (by decide) (by decide))
theorem JB{w:Int}(b:-(10^60)<=w)(c:w<=10^60):(w-1).natAbs<2^4000:=by
 have a:(w-1).natAbs<=10^60+1:=by lia
 exact gm a (aZ (show 10^60+1<2^200 by decide +kernel) (bB (by decide) (by decide)))
def Zv(q:hU)(d:f5)(a:f3)(v:Int):Int:=a.getD v.toNat 0*((cN q v (d v)).getD 1-1)
def gE(m:Int)(q:hU)(r:Int)(d:f5)(a:f3)(w:Int):Int:=a.getD r.toNat 0*(w-1)+(((b6 m.toNat).filter λv=>decide (v≠r)).map (Zv q d a)).sum
theorem Order.sums{t:f3}(O:Order m r d t)(f:f5):(t.map f).sum=(((b6 m.toNat).filter λv=>decide (v≠r)).map f).sum:=by
 refine sN ((gK (bg.mp O.nd).2 ((hZ _).filter _) λx=>?_).map f);rw[bG,dN,bM];refine⟨λh=>⟨⟨(O.Χ x h).1,?_⟩,O.ne h⟩,λh=>(O.all x h.1.1 ?_).resolve_left h.2⟩
 .have:=(O.Χ x h).2
  lia
 .have:=h.1.2
  lia
theorem Order.XG{t:f3}(O:Order m r d t)(a:0<=r)(b:r<m):t.length+1=m.toNat:=by
 have h:=(gK O.nd (hZ m.toNat) λx=>by
  rw[ax,dN];refine⟨λh=>?_,λh=>O.all x h.1 (by have:=h.2;lia)⟩;rcases h with h|h
  .rw[h];exact⟨a,by lia⟩
  .have:=O.Χ x h;exact⟨this.1,by lia⟩).length_eq
 rw[b7,aF]at h;exact h
theorem Gm{f:f5}{l:f3}{i:Nat}{v:Int}(h:l[i]?=some v):((l.take (i+1)).map f).sum=((l.take i).map f).sum+f v:=by
 rw[bK,h,Option.toList_some,aw,c7];simp
structure Slk(m:Int)(q:hU)(d:f5)(t cs:f3):Prop where
 len:(cs.length:Int)=m
 pos:∀v,0<=v->v<m->1<=cs.getD v.toNat 0
 std:∀c∈t,cs.getD c.toNat 0*(cN q c (d c)).getD 1<=cs.getD (d c).toNat 0
theorem Rv{cs:f3}{i:Nat}(h:i<cs.length):cs.getD i 0∈cs:=by
 rw[List.getD,ao h];exact dj h
end
section
variable{m:Int}{n:hU}{r:Int}{j:f5}{p:gb}
def tup(n:hU)(j:f5)(v:Int):Int:=(cN n v (j v)).getD 1
structure Bea(m:Int)(n:hU)(r:Int)(j:f5)(p:gb)(q:Int->Option Int):Prop where
 no:∀v,0<=v->v<m->q v=none->bR m n (front r j v) v=[]
 hv:∀v b,0<=v->v<m->q v=some b->b∈bR m n (front r j v) v/\ο m n r j p b*tup n j b=ο m n r j p v
theorem fT(g:Good m n)(R:ζ m n r j p){v:Int}(b:0<=v)(d:v<m)(e:v≠r):2<=tup n j v/\tup n j v<=1000000:=by
 obtain⟨k,c,a,f⟩:=oh g R b d e;unfold tup;rw[c];exact⟨a,f⟩
theorem D1:∀(l:f3)(a:Int),l.foldl mx a=a\/l.foldl mx a∈l
 | [],a=>.inl rfl
 | y::l,a=>by
   show l.foldl mx (mx a y)=a\/l.foldl mx (mx a y)∈y::l;rcases D1 l (mx a y)with h|h
   .rw[h];unfold mx;by_cases c:y>a
    .rw[aj c];exact .inr aJ
    .rw[ag c];exact .inl rfl
   .exact .inr (aG _ h)
theorem t9(g:Good m n)(R:ζ m n r j p){v:Int}(o:0<=v)(k:v<m)(u:bR m n (front r j v) v≠[]):∃c∈bR m n (front r j v) v,ο m n r j p c*tup n j c=ο m n r j p v:=by
 have e:ο m n r j p v=((bR m n (front r j v) v).map λc=>bor n j c (ο m n r j p c)).foldl mx 1:=sC g R o k;have a:=D1 ((bR m n (front r j v) v).map λc=>bor n j c (ο m n r j p c)) 1;rw[<-e]at a;rcases a with h|h
 .exfalso
  obtain⟨c,l,D⟩:=List.exists_cons_of_ne_nil u;have f:c∈bR m n (front r j v) v:=by rw[D];exact aJ
  obtain⟨b,w,E⟩:=(bw g R o k).mp f;have q:=fT g R b.1 b.2 w;have s:=ff g R b.1 b.2;have z:∀x∈(bR m n (front r j v) v).map λc=>bor n j c (ο m n r j p c),x<=2^480*1000000:=λx A=>by
   obtain⟨d,C,rfl⟩:=aP.mp A;obtain⟨i,y,G⟩:=(bw g R o k).mp C;have q:=fT g R i.1 i.2 y;have s:=ff g R i.1 i.2;show _*tup n j d<=_;exact de s.2 q.2 (by lia) (by decide +kernel)
  obtain⟨_,_,t⟩:=yc (B:=2^480*1000000) ((bR m n (front r j v) v).map λc=>bor n j c (ο m n r j p c)) 1 (by decide +kernel) z;have:ο m n r j p c*tup n j c<=_:=t _ (aP.mpr ⟨c,f,rfl⟩);rw[<-e,h]at this;have F:(1:Int)*2<=ο m n r j p c*tup n j c:=de s.1 q.1 (by decide) (by lia)
  lia
 .obtain⟨c,f,ec⟩:=aP.mp h;exact⟨c,f,ec⟩
def YW(o:Option Int):V:=match o with|none=>.ω|some b=>.int b
def Y9(m:Int)(q:Int->Option Int):List V:=(b6 m.toNat).map λv=>YW (q v)
theorem IE{q:Int->Option Int}{v:Int}(a:0<=v)(b:v<m):ϲ (Y9 m q) v=some (YW (q v)):=by
 refine cT a ?_;unfold Y9;rw[aA,fL (by lia),br a]
 rfl
theorem RC{q:Int->Option Int}{v b:Int}(a:0<=v)(d:v<m):(Y9 m q).set v.toNat (.int b)=Y9 m λx=>if x=v then some b else q x:=by
 refine eA λi=>?_;unfold Y9;by_cases c:i<m.toNat
 .rw[aA,fL c];by_cases z:v.toNat=i
  .rw[<-z,gC (by rw[aa,b7];lia)];show _=some (YW (if((v.toNat:Nat):Int)=v then some b else _));rw[aj (by lia)]
   rfl
  .rw[dY z,aA,fL c];show some (YW (q _))=some (YW (if((i:Nat):Int)=v then some b else _));rw[ag (by lia)]
 .rw[bI (by rw[eO,aa,b7];lia),bI (by rw[aa,b7];lia)]
def bV(m:Int)(n:hU)(r:Int)(j:f5)(p:gb)(t:f3)(v:Int):Option Int:=(t.filter λb=>decide (j b=v/\ο m n r j p b*tup n j b=ο m n r j p v)).getLast?
theorem Mx{t:f3}{v:Int}(h:ο m n r j p v*tup n j v=ο m n r j p (j v)):bV m n r j p (t++[v])=λx=>if x=j v then some v else bV m n r j p t x:=by
 funext x
 unfold bV;rw[b4];by_cases c:x=j v
 .subst c;rw[aj rfl,eJ (by simpa using h),jH,jv]
  rfl
 .rw[ag c,dF (by simp;intro z;exact absurd z.symm c),jH,bH]
theorem Ln{t:f3}{v:Int}(h:¬ο m n r j p v*tup n j v=ο m n r j p (j v)):bV m n r j p (t++[v])=bV m n r j p t:=by
 funext x
 unfold bV;rw[b4,dF (by simp;intro z;rw[<-z];exact h),jH,bH]
theorem EY(g:Good m n)(R:ζ m n r j p){t:f3}(O:Order m r j t):Bea m n r j p (bV m n r j p t) where
 no:=λv f a e=>by
  apply Classical.byContradiction;intro z;obtain⟨c,hc,k⟩:=t9 g R f a z;obtain⟨c1,c2,l⟩:=(bw g R f a).mp hc;have d:c∈t.filter λb=>decide (j b=v/\ο m n r j p b*tup n j b=ο m n r j p v):=bG.mpr ⟨(O.all c c1.1 c1.2).resolve_left c2,bh ⟨l,k⟩⟩;unfold bV at e;rw[kE]at e;rw[e]at d;cases d
 hv:=λv b f a e=>by
  have d:=jB e;obtain⟨h,i⟩:=bG.mp d;obtain⟨o,q⟩:=bN i;exact⟨(bw g R f a).mpr ⟨O.Χ b h,O.ne h,o⟩,q⟩
variable{q:Int->Option Int}{w:Int}{s:f5}
theorem IV{x k:Int}(a:2<=k):((x+1)*k-1)/k=x:=by
 rw[show(x+1)*k-1=(k-1)+x*k by rw[eE];lia,ja _ _ (by lia),jf (by lia) (by lia),cQ]
theorem vD(f:f5)(h:Int->List Int):∀l:List Int,((l.flatMap h).map f).sum=(l.map λc=>((h c).map f).sum).sum
 | []=>rfl
 | a::l=>by rw[bC,aw,c7,vD f h l,aq,aN]
theorem vM(f h:f5):∀l:List Int,(l.map λc=>f c-h c).sum=(l.map f).sum-(l.map h).sum
 | []=>rfl
 | a::l=>by rw[aq,aq,aq,aN,aN,aN,vM f h l];lia
theorem Jr(g:Good m n)(R:ζ m n r j p){t:f3}(O:Order m r j t):Slk m n j t (dD m n r j p) where
 len:=by
  have:=g.m1;rw[qw]
  lia
 pos:=λv v0 v1=>by rw[gM v0 v1];exact(ff g R v0 v1).1
 std:=λc hc=>by
  have a:=O.Χ c hc;have s:=O.ne hc;have u:=R.up c a.1 a.2 s;rw[gM a.1 a.2,gM u.1.1 u.1.2];have hk:c∈bR m n (front r j (j c)) (j c):=(bw g R u.1.1 u.1.2).mpr ⟨a,s,rfl⟩;have e:ο m n r j p (j c)=((bR m n (front r j (j c)) (j c)).map λc=>bor n j c (ο m n r j p c)).foldl mx 1:=sC g R u.1.1 u.1.2;have k:∀x∈(bR m n (front r j (j c)) (j c)).map λc=>bor n j c (ο m n r j p c),x<=2^480*1000000:=λx o=>by
   obtain⟨d,hd,rfl⟩:=aP.mp o;obtain⟨b,h,y⟩:=(bw g R u.1.1 u.1.2).mp hd;have i:=fT g R b.1 b.2 h;have l:=ff g R b.1 b.2;show _*tup n j d<=_;exact de l.2 i.2 (by lia) (by decide +kernel)
  obtain⟨_,_,f⟩:=yc (B:=2^480*1000000) ((bR m n (front r j (j c)) (j c)).map λc=>bor n j c (ο m n r j p c)) 1 (by decide +kernel) k;have:=f _ (aP.mpr ⟨c,hk,rfl⟩);rw[<-e]at this;exact this
end
end Pb
namespace L2
open PySem PySem.Spec PyProof.Rows PySem.W
def ώ{c:Type}(I:Nat->Prop)(P:c->Prop):KasT c->Prop
 | .ret a=>P a
 | .ask i j k=>I i/\I j/\∀b,ώ I P (k b)
theorem ώ.bind{c d:Type}{I:Nat->Prop}{P:c->Prop}{R:d->Prop}{f:c->KasT d}(e:∀a,P a->ώ I R (f a)):∀{t:KasT c},ώ I P t->ώ I R (t.bind f)
 | .ret a,h=>e a h
 | .ask i j k,h=>⟨h.1,h.2.1,λb=>ώ.bind e (h.2.2 b)⟩
section
variable{n:Nat}
abbrev Ρ(n:Nat)(p:Array Nat):Prop:=p.toList.Perm (List.range n)
theorem Ρ.at(c:0<n){p:Array Nat}(h:Ρ n p)(k:Nat):p.getD k 0<n:=by
 by_cases a:k<p.size
 .have:p.getD k 0∈p.toList:=by
   have e:p.getD k 0=p[k]:=(by simp[Array.getD,a]);rw[e];exact Array.getElem_mem_toList a
  exact bU.mp (h.mem_iff.mp this)
 .have e:p.getD k 0=0:=by simp[Array.getD,a]
  rw[e];exact c
theorem Ρ.rev{p:Array Nat}(h:Ρ n p)(i j:Nat):Ρ n (kas_rev p i j):=(kU.mp (mirror_perm p i j _)).trans h
theorem Ρ.bub{p:Array Nat}(h:Ρ n p)(i j:Nat):Ρ n (bubble p i j):=(kU.mp (bubble_perm p i j)).trans h
variable(c:0<n)
include c
theorem CH{p:Array Nat}(h:Ρ n p):∀f m,ώ (·<n) (λ_:Nat=>True) (kas_asc p f m)
 | 0,m=>trivial
 | f+1,m=>⟨h.at c _,h.at c _,λb=>by cases b with
   | true=>exact trivial
   | false=>exact CH h f (m+1)⟩
theorem vx:∀f {p:Array Nat} (h:Ρ n p) m q,ώ (·<n) (λr:Array Nat×Nat×Nat=>Ρ n r.1) (kas_desc f p m q)
 | 0,p,h,m,q=>h
 | f+1,p,h,m,q=>⟨h.at c _,h.at c _,λb=>by
   cases b with
   | true=>
     show ώ _ _ (if q>0 then _ else _);split
     .exact vx f (h.rev _ _) _ _
     .exact vx f h _ _
   | false=>
     refine⟨h.at c _,h.at c _,λd=>?_⟩;cases d with
     | true=>exact h
     | false=>exact vx f h _ _⟩
theorem EO{p:Array Nat}(h:Ρ n p)(m r:Nat):ώ (·<n) (λr:Nat×Array Nat=>Ρ n r.2) (kas_tail3 m r p):=ώ.bind (R:=λr:Nat×Array Nat=>Ρ n r.2) (f:=λk=>.ret (k,kas_rev p 0 m)) (λa _=>h.rev _ _) (CH c (h.rev _ _) _ _)
theorem wC{p:Array Nat}(h:Ρ n p)(m r:Nat):ώ (·<n) (λr:Nat×Array Nat=>Ρ n r.2) (kas_descPart m r p):=by
 refine ώ.bind (λa b=>?_) (vx c _ h _ _);split
 .exact EO c (Ρ.rev b _ _) _ _
 .exact EO c b _ _
theorem Lv{p:Array Nat}(h:Ρ n p)(r:Nat):ώ (·<n) (λr:Nat×Array Nat=>Ρ n r.2) (kas_count r p):=by
 refine ώ.bind (λa _=>?_) (CH c h _ _);split
 .exact h
 .split
  .refine⟨h.at c _,h.at c _,λb=>?_⟩;cases b with
   | true=>exact h
   | false=>exact wC c (h.rev _ _) _ _
  .exact wC c h _ _
theorem wH{p:Array Nat}(h:Ρ n p)(k:Nat):∀f l r,ώ (·<n) (λ_:Nat=>True) (kas_place p k f l r)
 | 0,l,r=>trivial
 | f+1,l,r=>by
   show ώ _ _ (if l ≥ r then _ else _);split
   .exact trivial
   .refine⟨h.at c _,h.at c _,λb=>?_⟩;cases b with
    | true=>exact wH h k f _ _
    | false=>exact wH h k f _ _
theorem IM:∀f {p:Array Nat} (h:Ρ n p) k,ώ (·<n) (λp:Array Nat=>Ρ n p) (kas_bin f p k)
 | 0,p,h,k=>h
 | f+1,p,h,k=>ώ.bind (λl _=>IM f (h.bub _ _) _) (wH c h k _ _ _)
theorem Nx:ώ (·<n) (λp:Array Nat=>Ρ n p) (kas_sort n):=by
 refine ώ.bind (λr a=>?_) (Lv c (iJ _) n);split
 .exact IM c _ a _
 .exact a
end
theorem DM{b:Type}(a:List b)(d:b):(List.range a.length).map (λi=>a.getD i d)=a:=by
 apply eA;intro i;rw[aA];by_cases h:i<a.length
 .rw[fA h];simp[h]
 .rw[bI (by simpa using h),bI (by lia)]
  rfl
end L2
namespace L2
open PySem PySem.Spec PyProof.Rows PySem.W Pb
theorem DG:∀a:List Addr,Vals (a.map V.ref) (a.map Value.ref)
 | []=>.nil
 | q::a=>.cons rfl (DG a)
end L2
namespace L2
theorem GC{a:Type}[DecidableEq a]{θ:List (a×V)}{k:a}{v:V}{p:a×V}(h:p∈iG θ k v):p.1=k\/∃q∈θ,p.1=q.1:=by
 unfold iG at h;split at h
 .obtain⟨q,hq,e⟩:=aP.mp h;refine .inr ⟨q,hq,?_⟩;rw[<-e];split<;>rfl
 .rcases aY.mp h with h|h
  .exact .inr ⟨p,h,rfl⟩
  .rw[aI.mp h];exact .inl rfl
end L2
namespace Pb
open L2 PySem
theorem EU:∀{z:f3},(∀x∈z,0<=x)->0<=z.sum
 | [],_=>ce 0
 | x::z,h=>by
   have b:=h x (.head _);have c:=EU λy a=>h y (.tail _ a);rw[aN]
   lia
end Pb
namespace L2
open PySem PySem.Spec PyProof.Rows Pb
theorem Cj:∀{x y:f3},x.map V.int=y.map V.int->x=y
 | [],[],_=>rfl
 | a::x,b::y,h=>by
   obtain⟨d,c⟩:=d8 h;rw[Cj c,V.int.inj d]
end L2
namespace Pb
open L2 PySem PySem.W NumText
theorem _root_.List.μ{a b:Type}{f:a->b}{l:List a}{i:Nat}{y:b}(h:(l.map f)[i]?=some y):∃x,l[i]?=some x/\y=f x:=by
 rw[aA]at h;cases e:l[i]? with
 | none=>rw[e]at h;cases h
 | some x=>rw[e]at h;exact⟨x,rfl,(bi h).symm⟩
end Pb
namespace Pb
open L2 PySem
section
variable{m:Int}{d:hU}{r:Int}{b:f5}{j:gb}{held:f5}
theorem EH{f h:f5}:∀{l:f3},(∀c∈l,f c<=h c)->(l.map f).sum<=(l.map h).sum
 | [],_=>ce _
 | a::l,hl=>by
   rw[aq,aq,aN,aN];have g:=hl a (.head _);have i:=EH (l:=l) λc e=>hl c (.tail _ e)
   lia
theorem zc(k:Int)(f:f5):∀l:List Int,(l.map λc=>k*f c).sum=k*(l.map f).sum
 | []=>(lC k).symm
 | a::l=>by rw[aq,aq,aN,aN,zc k f l,cM]
theorem wle(g:Good m d)(R:ζ m d r b j){ws:f5}(pos:∀v,0<=v->v<m->0<=ws v)(f:∀c,0<=c->c<m->c≠r->ws c*tup d b c<=ws (b c))(o:∀v,0<=held v):∀(n:Nat)(v:Int),m.toNat-j v=n->0<=v->v<m->((bO m d r b j v).map λu=>ws u*held u-ws u*(tup d b u-1)).sum<=ws v*Φ m d r b j held (Η d b) v-ws v*(tup d b v-1)
 | 0,v,e,h0,h1=>by
   have:=kH R h0 h1
   lia
 | n+1,v,e,h0,h1=>by
   rw[fM g R h0 h1,aq,aN,vD,nF g R h0 h1];have B:∀u∈bR m d (front r b v) v,((bO m d r b j u).map λu=>ws u*held u-ws u*(tup d b u-1)).sum<=ws v*Η d b u (Φ m d r b j held (Η d b) u):=λu w=>by
    obtain⟨a,h,q⟩:=(bw g R h0 h1).mp w;have A:=R.pos a.1 a.2 h;rw[q]at A;refine bE (wle g R pos f o n u (by lia) a.1 a.2) ?_;obtain⟨x,y⟩:=fT g R a.1 a.2 h;have st:=f u a.1 a.2 h;rw[q]at st;have p:=xF (m:=m) (r:=r) (par:=b) (dep:=j) g o u;have i:=pos u a.1 a.2;show _<=ws v*(Φ m d r b j held (Η d b) u/tup d b u);generalize Φ m d r b j held (Η d b) u=G at p ⊢;generalize tup d b u=k at x y st ⊢;generalize ws u=W at i st ⊢;generalize ws v=V at st ⊢;have t:0<=G/k:=ip p (by lia);have l:=mF G k;have C:=cR G (show 0<k by lia);have z:W*G-W*(k-1)<=W*k*(G/k):=by
     have:W*G=W*(G%k)+W*k*(G/k):=(by rw[<-l,cM,<-gc,l]);rw[this];have:W*(G%k)<=W*(k-1):=cj (by lia) i
     lia
    exact bE z (bu st t)
   have s:=EH B;rw[zc (ws v) (λu=>Η d b u (Φ m d r b j held (Η d b) u))]at s;rw[cM]
   lia
theorem RB(g:Good m d)(R:ζ m d r b j)(e:0<=r)(i:r<m){ws:f3}{a:f3}(y:bO m d r b j r=r::a)(O:Order m r b a)(S:Slk m d b a ws)(q:∀v,0<=held v){w:Int}(z:Φ m d r b j held (Η d b) r<w):((b6 m.toNat).map λv=>ws.getD v.toNat 0*held v).sum<=gE m d r b ws w:=by
 have pos:∀v,0<=v->v<m->0<=ws.getD v.toNat 0:=λv t l=>by have:=S.pos v t l;lia
 have h:=wle (held:=held) g R (ws:=λv=>ws.getD v.toNat 0) pos (λc s p o=>S.std c ((O.all c s p).resolve_left o)) q _ r rfl e i;rw[y,vM]at h;have k:((r::a).map λv=>ws.getD v.toNat 0*held v).sum=((b6 m.toNat).map λv=>ws.getD v.toNat 0*held v).sum:=by
  refine sN ((gK O.nd (hZ _) λx=>?_).map _);rw[ax,dN];refine⟨λh=>?_,λh=>O.all x h.1 (by have:=h.2;lia)⟩;rcases h with h|h
  .rw[h];exact⟨e,by lia⟩
  .have:=O.Χ x h;exact⟨this.1,by lia⟩
 rw[<-k];unfold gE;rw[<-O.sums];have n:(a.map (Zv d b ws)).sum=(a.map λu=>ws.getD u.toNat 0*(tup d b u-1)).sum:=rfl;rw[n];rw[aq (f:=λu=>ws.getD u.toNat 0*(tup d b u-1)),aN]at h;have:ws.getD r.toNat 0*Φ m d r b j held (Η d b) r<=ws.getD r.toNat 0*(w-1):=cj (by lia) (pos r e i)
 lia
theorem Se(g:Good m d){ws:f3}(a:∀v,0<=v->v<m->1<=ws.getD v.toNat 0)(f:∀v,0<=held v):((b6 m.toNat).map held).sum<=((b6 m.toNat).map λv=>ws.getD v.toNat 0*held v).sum:=by
 refine EH λv c=>?_;obtain⟨e,h⟩:=dN.mp c;have:=a v e (by lia);have:=bu this (f v)
 lia
theorem JG:∀(a:f3),(List.range a.length).map (λi=>a.getD i 0)=a:=λa=>by
 refine eA λi=>?_;rw[aA];by_cases h:i<a.length
 .rw[fA h,ao h];show some (a.getD i 0)=_;rw[List.getD,ao h]
  rfl
 .rw[bI (by rw[bD];lia),bI (by lia)]
  rfl
theorem Dz{a:f3}{n:Nat}(h:a.length=n):((b6 n).map λv=>a.getD v.toNat 0).sum=a.sum:=by
 unfold b6;rw[cZ,<-h];exact congrArg List.sum (JG a)
theorem Iy{a:f3}(h:∀x∈a,0<=x)(i:Nat):0<=a.getD i 0:=by
 rw[List.getD];cases e:a[i]? with
 | none=>exact ce _
 | some y=>exact h y (aQ e)
theorem Iq(R:ζ m d r b j):∀(n:Nat)(v:Int),j v=n->0<=v->v<m->Dc b r n v=true
 | 0,v,e,h0,h1=>by
   refine bh (Classical.byContradiction λh=>?_);have:=R.pos h0 h1 h
   lia
 | n+1,v,e,h0,h1=>by
   show(decide (v=r)||Dc b r n (b v))=true;by_cases h:v=r
   .rw[bh h];rfl
   .have u:=R.up v h0 h1 h;rw[Iq R n (b v) (by lia) u.1.1 u.1.2,Bool.or_true]
theorem MK(g:Good m d)(R:ζ m d r b j)(c:0<=r)(a:r<m):∃t,bO m d r b j r=r::t/\Order m r b t:=AE g R c a (ou g R _ r c a).1 λv=>by
 rw[R0 g R c a];exact⟨λh=>h.1,λh=>⟨h,Iq R _ v rfl h.1 h.2⟩⟩
theorem IB{f:f5}{C:Int}:∀{l:f3},(∀c∈l,f c<=C)->(l.map f).sum<=C*l.length
 | [],_=>by simp
 | a::l,h=>by
   have g:=h a (.head _);have i:=IB (l:=l) λc e=>h c (.tail _ e);rw[aq,aN,aF,dG,cM];show f a+(l.map f).sum<=C*l.length+C*1
   lia
end
theorem CT:∀{l:f3}{x:Int},(∀y∈l,0<=y)->x∈l->x<=l.sum
 | y::l,x,h,hx=>by
   have b:=EU λz a=>h z (aG y a);have c:=h y aJ;rw[aN];rcases ax.mp hx with e|e
   .lia
   .have:=CT (λz a=>h z (aG y a)) e
    lia
end Pb
namespace L2
open PySem
theorem LV{K:gg}{c:Bool}{a p:Addr}{xs:List V}{Q:VK}{g:TG}{B:TT}{u:TE}{n:St}{t:Hp}(k:Nat->List V->St->Hp->Prop)(J:k 0 [] n t)(C:∀i d f H,k i d f H->Ϫ K c H a xs)(L:∀(i:Nat) (x:V) (d:List V) (f:St) (H:Hp) (q:Addr) (N:List V->St->Hp->Prop),(∀o h l,k (i+1) o h l->N o h l)->xs[i]?=some x->k i d f H->H q=none->g (.ref q) f (upd H q (.tup [.int i,x])) λj D=>B j D λb v=>
 if b=true then u j v λy w=>w p=some (.lst d)/\d.length<sizeLine/\N (d++[y]) j (upd w p (.lst (d++[y])))else N d j v)(M:∀d f H,k xs.length d f H->Q (.ref p) H):uS (Ite K c a) p Q g B u n t:=by
 refine⟨λi m d f H=>m=xs.length-i/\i<=xs.length/\k i d f H,⟨_,rfl,bj _,J⟩,?_⟩;rintro i m d f H ⟨rfl,O,pv⟩;have s:=C i d f H pv;by_cases A:i<xs.length
 .refine .inr ⟨⟨xs,xs[i],s,ao A⟩,λx l y=>?_⟩;obtain⟨E,F,I,rfl,rfl,G⟩:=y;exact L i F d f H E (λo h l=>∃z,z<xs.length-i/\(z=xs.length-(i+1)/\i+1<=xs.length/\k (i+1) o h l)) (λo h l r=>⟨xs.length-(i+1),by lia,rfl,A,r⟩) (G xs s) pv I
 .have e:i=xs.length:=by lia
  subst e;exact .inl ⟨⟨xs,s,rfl⟩,M d f H pv⟩
def Yy(o:Addr)(H a:Hp):Prop:=∀b x,H b=some x->b≠o->a b=some x
theorem Yy.refl{o:Addr}{H:Hp}:Yy o H H:=λ_ _ h _=>h
theorem Yy.then{o:Addr}{H e d:Hp}(a:Yy o H e)(b:δ e d):Yy o H d:=λc x h n=>b c x (a c x h n)
theorem Yy.put{o:Addr}{H b:Hp}(a:Yy o H b)(x:HO):Yy o H (upd b o x):=λc y h n=>by rw[aR n];exact a c y h n
end L2
namespace Pb
open PySem L2
def YX(m:Int):List Int:=List.replicate m.toNat 0
def upT(b:hU)(a:f5)(v:Int):Int:=(cN b v (a v)).getD 1
abbrev kd(m:Int)(b:hU)(r:Int)(a:f5)(v:Int):List Int:=bR m b (front r a v) v
theorem xE:∀{l:f3},(∀x∈l,0<=x)->0<=l.sum
 | [],_=>by decide
 | a::l,h=>by
   have c:=h a aJ;have d:=xE λx b=>h x (aG _ b);rw[aN]
   lia
theorem tD{d c:Type}{R:d->c->Prop}:∀{l:List d}{f:List c},Paired R l f->∀{i:Nat}{b:c},f[i]?=some b->∃a,l[i]?=some a/\R a b
 | _,_,.nil,i,b,e=>by simp at e
 | _,_,.cons (a:=a) (b:=b') h _,0,b,e=>by
   rw[List.getElem?_cons_zero]at e;cases e;exact⟨a,rfl,h⟩
 | _,_,.cons h hs,i+1,b,e=>by
   rw[iC]at e;obtain⟨a,g,j⟩:=tD hs e;exact⟨a,by rw[iC];exact g,j⟩
theorem CM{c d:Type}{R S:c->d->Prop}:∀{l:List c}{e:List d},(∀a b,a∈l->R a b->S a b)->Paired R l e->Paired S l e
 | _,_,_,.nil=>.nil
 | _,_,f,.cons h hs=>.cons (f _ _ aJ h) (CM (λa b g=>f a b (aG _ g)) hs)
theorem Iw{c d:Type}{R:c->d->Prop}:∀{l:List c}{e:List d},Paired R l e->∀{a:c},a∈l->∃b,R a b
 | _,_,.nil,a,h=>by cases h
 | _,_,.cons (b:=b) h hs,a,ha=>by
   rcases ax.mp ha with rfl|ha
   .exact⟨b,h⟩
   .exact Iw hs ha
theorem tJ{c d:Type}{R:c->d->Prop}{a:c}{b:d}(e:R a b):∀{l:List c}{f:List d},Paired R l f->Paired R (l++[a]) (f++[b])
 | _,_,.nil=>.cons e .nil
 | _,_,.cons x xs=>.cons x (tJ e xs)
theorem MO{b:Type}{a:List b}{i:Int}(h:0<=i):ϲ a i=a[i.toNat]?:=by
 cases e:a[i.toNat]? with
 | some v=>exact cT h e
 | none=>
   have:=List.getElem?_eq_none_iff.mp e;unfold ϲ Zk;rw[aj h,ag (by lia)]
   rfl
theorem RI(m:Int):(YX m).map V.int=List.replicate m.toNat (V.int 0):=by unfold YX;rw[iu]
section
variable{m:Int}{c:hU}{r:Int}{b:f5}{a:gb}{e:f5}
theorem sF(g:Good m c)(R:ζ m c r b a){v:Int}(f:0<=v)(i:v<m){k:Int}(h:k∈kd m c r b v):((0<=k/\k<m)/\k≠r/\b k=v)/\m.toNat-a v=m.toNat-a k+1/\1<=m.toNat-a k:=by
 have w:=(bw g R f i).mp h;have:=R.pos w.1.1 w.1.2 w.2.1;have d:=kH R w.1.1 w.1.2;rw[w.2.2]at this;exact⟨w,by lia,by lia⟩
end
theorem CC{f:f5}{l:f3}(h:∀c∈l,0<=f c):0<=(l.map f).sum:=xE λx b=>by
 obtain⟨c,a,rfl⟩:=aP.mp b;exact h c a
section
variable{m:Int}{c:hU}{r:Int}{a:f5}{b:gb}{e:f5}
variable{w:f5}
variable{x d f:f5}
def hol(m:Int)(c:hU)(r:Int)(a:f5)(b:gb)(v:Int):Int:=ο m c r a b v*(upT c a v-1)
end
section
variable{m:Int}{b:hU}{r:Int}{a:f5}{c:gb}{d w:f5}
theorem zp(g:Good m b){v:Int}:(kd m b r a v).length<=24:=by
 have e:=cB (λu=>decide (V.int u≠front r a v)) (mj m b v);have f:=cB (λq=>decide (q∈gi b v)) (b6 m.toNat);rw[b7]at f;have:=g.Ο;show((mj m b v).filter λu=>decide (V.int u≠front r a v)).length<=24;unfold mj at e ⊢
 lia
end
theorem Ag{g e:Type}{R:g->e->Prop}:∀{l:List g}{f:List e}{b:e},Paired R l (f++[b])->∃d a,l=d++[a]/\Paired R d f/\R a b
 | _,[],b,.cons (a:=a) h .nil=>⟨[],a,rfl,.nil,h⟩
 | _,c::f,b,.cons (a:=a) h hs=>by
   obtain⟨d,x,rfl,i,j⟩:=Ag hs;exact⟨a::d,x,rfl,.cons h i,j⟩
theorem Ji{a:Type}(l:List a)(x:a):ϲ (l++[x]) (-1)=some x:=by
 unfold ϲ Zk;rw[ag (by decide),aE,aF,dW,aj (by lia)];show(l++[x])[(-1+((l.length+(0+1):Nat):Int)).toNat]?=some x;rw[show(-1+((l.length+(0+1):Nat):Int)).toNat=l.length by lia,c8 (ap _),d7]
 rfl
end Pb
namespace L2
open PySem PySem.Spec PyProof.Rows
def TK(K:gg)(e g:TE):TE:=λc H Q=>e c H λx f=>g c f λy b=>y=.int (-1)/\∃a d,x=.ref a/\ξ K b a d/\∀p,b p=none->Q (.ref p) (upd b p (.lst d.reverse))
theorem LM{X:Cx}{e st:Expr}{k j:TE}{i A:Pos}(n:PE X e k)(J:PE X st j):PE X (.Subscript e (.Slice none none (some st) A) i) (TK X.K k j):=by
 intro c s f H Q I h;refine Subscript_ (dQ (n c s f H _ I h) λv p x M N w O=>?_);refine wpAny_Slice ?_;rw[evalPart_none,evalPart_some];refine ba (ba (dQ (J c p f M _ N O) λu d y C G F D=>?_));obtain⟨rfl,a,z,rfl,P,q⟩:=D;obtain⟨t,rfl⟩:=F;cases w;have g:Inv X c f C { d with heap:=d.heap.push { cls:=.type "slice",data:=.fields #[.none,.none,.int (-1) t] } }:=G.kept (t':=d.toks) λb B q=>ar _ q;obtain⟨L,r,m,E⟩:=g.list P;have l:=r.length;refine tail_any (ops:=[.ref a,.ref d.heap.objs.size]) m.isList.typeIs slot_list_getitem.lookup (wpAny_getItem_list_slice m.isList (Heap.IsSliceOf.new ..) .none .none (.int (-1) t) (by decide) ?_ (by rw[aM]<;>lia)) (by with_unfolding_all rfl);rw[PySem.W.krv_pick];refine⟨.ref _,_,g.laid (t':=d.toks) (o:=.lst z.reverse) (λb B q=>ar _ q) (ap _) ?_,rfl,q _ (g.ψ.fresh (ap _))⟩;exact⟨by rw[bc];exact E,_,0,r.reverse,bf _ rfl⟩
end L2
namespace Pb
open L2 PySem PySem.W NumText
def ch:Nat->Nat->Nat
 | _,0=>1
 | 0,_+1=>0
 | n+1,k+1=>ch n k+ch n (k+1)
theorem pC(n:Nat):ch n 0=1:=by cases n<;>rfl
theorem Ff:∀{n k:Nat},n<k->ch n k=0
 | _,0,h=>absurd h (jk _)
 | 0,_+1,_=>rfl
 | n+1,k+1,h=>by
   show ch n k+ch n (k+1)=0;rw[Ff (by lia),Ff (by lia)]
theorem uX:∀n k:Nat,(ch n (k+1):Int)*((k:Int)+1)=(ch n k:Int)*((n:Int)-(k:Int))
 | 0,0=>by simp[ch]
 | 0,k+1=>by simp[ch]
 | n+1,0=>by
   have h:=uX n 0;rw[pC]at h ⊢;show((ch n 0+ch n 1:Nat):Int)*_=_;rw[pC];have h:((ch n 1:Nat):Int)*(((0:Nat):Int)+1)=((1:Nat):Int)*((n:Int)-((0:Nat):Int)):=h;simp only[dG,Int.natCast_one]at h ⊢
   lia
 | n+1,k+1=>by
   have d:=uX n k;have e:=uX n (k+1);show((ch n (k+1)+ch n (k+1+1):Nat):Int)*_=((ch n k+ch n (k+1):Nat):Int)*_;generalize ch n (k+1+1)=c at d e;generalize ch n (k+1)=b at d e;generalize ch n k=a at d e;simp only[dG,Int.natCast_one]at d e ⊢;have g:((b:Int)+(c:Int))*((k:Int)+1+1)=(c:Int)*((k:Int)+1+1)+(b:Int)*((k:Int)+1)+(b:Int):=by
    rw[eE,cM (b:Int) ((k:Int)+1) 1]
    lia
   have f:((a:Int)+(b:Int))*((n:Int)+1-((k:Int)+1))=(a:Int)*((n:Int)-(k:Int))+(b:Int)*((n:Int)-((k:Int)+1))+(b:Int):=by
    rw[show(n:Int)+1-((k:Int)+1)=(n:Int)-(k:Int) by lia,eE,show(n:Int)-(k:Int)=((n:Int)-((k:Int)+1))+1 by lia,cM (b:Int) _ 1]
    lia
   rw[g,f,d,e]
   lia
def Τ:List Int->Nat->Nat->Int
 | [],_,_=>0
 | d::r,n,k=>d*(ch n k:Int)+Τ r n (k+1)
theorem zi:∀(r:f3)(k:Nat),Τ r 0 (k+1)=0
 | [],_=>rfl
 | d::r,k=>by
   show d*((ch 0 (k+1):Nat):Int)+Τ r 0 (k+1+1)=0;rw[zi r (k+1)];show d*((0:Nat):Int)+0=0;simp
theorem FN:∀(r:f3)(n k:Nat),Τ r (n+1) (k+1)=Τ r n (k+1)+Τ r n k
 | [],_,_=>rfl
 | d::r,n,k=>by
   show d*((ch n k+ch n (k+1):Nat):Int)+Τ r (n+1) (k+1+1)=(d*(ch n (k+1):Int)+Τ r n (k+1+1))+(d*(ch n k:Int)+Τ r n (k+1));rw[FN r n (k+1),dG,cM]
   lia
def dl(f:Nat->Int):Nat->Int:=λn=>f (n+1)-f n
def Pd:Nat->(Nat->Int)->Prop
 | 0,f=>∀n,f n=f 0
 | d+1,f=>Pd d (dl f)
def Xl:Nat->(Nat->Int)->List Int
 | 0,_=>[]
 | N+1,f=>f 0::Xl N (dl f)
theorem CG:∀(N:Nat)(f:Nat->Int),(Xl N f).length=N
 | 0,_=>rfl
 | N+1,f=>by
   show(Xl N (dl f)).length+1=_;rw[CG N]
theorem Pd.zero{f:Nat->Int}(h:∀n,f n=0):∀d,Pd d f
 | 0=>λn=>by rw[h n,h 0]
 | d+1=>Pd.zero (f:=dl f) (λn=>by show f (n+1)-f n=0;rw[h,h];rfl) d
theorem Pd.up:∀{d:Nat}{f:Nat->Int},Pd d f->Pd (d+1) f
 | 0,f,h=>λn=>by
   show f (n+1)-f n=f (0+1)-f 0;rw[h (n+1),h n,h (0+1)]
 | d+1,f,h=>Pd.up (d:=d) (f:=dl f) h
theorem Pd.le{d e:Nat}{f:Nat->Int}(h:Pd d f)(l:d<=e):Pd e f:=by
 induction l with
 | refl=>exact h
 | step _ ih=>exact ih.up
theorem Pd.add:∀{d:Nat}{f g:Nat->Int},Pd d f->Pd d g->Pd d (λn=>f n+g n)
 | 0,f,g,h,k=>λn=>by
   show f n+g n=f 0+g 0;rw[h n,k n]
 | d+1,f,g,h,k=>by
   have:=Pd.add (d:=d) (f:=dl f) (g:=dl g) h k;have e:dl (λn=>f n+g n)=λn=>dl f n+dl g n:=by
    funext n
    show f (n+1)+g (n+1)-(f n+g n)=(f (n+1)-f n)+(g (n+1)-g n)
    lia
   show Pd d (dl (λn=>f n+g n));rw[e];exact this
theorem Pd.smul(c:Int):∀{d:Nat}{f:Nat->Int},Pd d f->Pd d (λn=>c*f n)
 | 0,f,h=>λn=>by
   show c*f n=c*f 0;rw[h n]
 | d+1,f,h=>by
   have:=Pd.smul c (d:=d) (f:=dl f) h;have e:dl (λn=>c*f n)=λn=>c*dl f n:=by
    funext n
    show c*f (n+1)-c*f n=c*(f (n+1)-f n);rw[gS]
   show Pd d (dl (λn=>c*f n));rw[e];exact this
theorem Pd.shift(b:Nat):∀{d:Nat}{f:Nat->Int},Pd d f->Pd d (λn=>f (n+b))
 | 0,f,h=>λn=>by
   show f (n+b)=f (0+b);rw[h (n+b),h (0+b)]
 | d+1,f,h=>by
   have:=Pd.shift b (d:=d) (f:=dl f) h;have e:dl (λn=>f (n+b))=λn=>dl f (n+b):=by
    funext n
    show f (n+1+b)-f (n+b)=f (n+b+1)-f (n+b);rw[show n+1+b=n+b+1 by lia]
   show Pd d (dl (λn=>f (n+b)));rw[e];exact this
def Λ:Nat->(Nat->Int)->Int
 | 0,_=>0
 | k+1,f=>Λ k f+f k
theorem Pd.sum{d:Nat}{f:Nat->Nat->Int}(h:∀i,Pd d (f i)):∀k,Pd d (λn=>Λ k λi=>f i n)
 | 0=>Pd.zero (λ_=>rfl) d
 | k+1=>(Pd.sum h k).add (h k)
theorem Jg(f:Nat->Int)(b:Nat):∀a:Nat,f (b+a)-f b=Λ a λi=>dl f (b+i)
 | 0=>by
   show f b-f b=0
   lia
 | a+1=>by
   have:=Jg f b a;show f (b+(a+1))-f b=(Λ a λi=>dl f (b+i))+dl f (b+a);rw[<-this];show f (b+(a+1))-f b=f (b+a)-f b+(f (b+a+1)-f (b+a));rw[show b+(a+1)=b+a+1 by lia]
   lia
theorem Pd.lin(a:Nat):∀{d:Nat}{f:Nat->Int},Pd d f->∀b,Pd d (λn=>f (a*n+b))
 | 0,f,h,b=>λn=>by
   show f (a*n+b)=f (a*0+b);rw[h (a*n+b),h (a*0+b)]
 | d+1,f,h,b=>by
   have e:dl (λn=>f (a*n+b))=λn=>Λ a λi=>(λi n=>dl f (a*n+(b+i))) i n:=by
    funext n
    show f (a*(n+1)+b)-f (a*n+b)=_;rw[show a*(n+1)+b=(a*n+b)+a by rw[nR];lia,Jg f (a*n+b) a]
    congr 1
    funext i
    show dl f (a*n+b+i)=dl f (a*n+(b+i));rw[Nat.add_assoc]
   show Pd d (dl (λn=>f (a*n+b)));rw[e];exact Pd.sum (λi=>Pd.lin a (d:=d) (f:=dl f) h (b+i)) a
def W5(f g:Nat->Int)(n:Nat):Int:=Λ (n+1) λk=>f k*g (n-k)
theorem rz{f g:Nat->Int}:∀{k:Nat},(∀i,i<k->f i=g i)->Λ k f=Λ k g
 | 0,_=>rfl
 | k+1,h=>by
   show Λ k f+f k=Λ k g+g k;rw[rz λi a=>h i (by lia),h k (by lia)]
theorem IT(f g:Nat->Int):∀k,Λ k (λi=>f i-g i)=Λ k f-Λ k g
 | 0=>rfl
 | k+1=>by
   show Λ k (λi=>f i-g i)+(f k-g k)=Λ k f+f k-(Λ k g+g k);rw[IT f g k]
   lia
theorem Ls(f g:Nat->Int):dl (W5 f g)=λn=>f (n+1)*g 0+W5 f (dl g) n:=by
 funext n
 show(Λ (n+1) λk=>f k*g (n+1-k))+f (n+1)*g (n+1-(n+1))-Λ (n+1) (λk=>f k*g (n-k))=f (n+1)*g 0+Λ (n+1) λk=>f k*dl g (n-k);have e:(Λ (n+1) λk=>f k*dl g (n-k))=Λ (n+1) λk=>f k*g (n+1-k)-f k*g (n-k):=rz λi a=>by
  show f i*(g (n-i+1)-g (n-i))=_;rw[gS,show n-i+1=n+1-i by lia]
 rw[e,IT,d7]
 lia
theorem Pd.W5{f:Nat->Int}{d:Nat}(a:Pd d f):∀{e:Nat}{g:Nat->Int},Pd e g->Pd (d+e+1) (W5 f g)
 | 0,g,hg=>by
   show Pd d (dl (Pb.W5 f g));rw[Ls];refine Pd.add ?_ (Pd.zero (λn=>?_) d)
   .have:=(a.shift 1).smul (g 0);have e:(λn=>g 0*f (n+1))=λn=>f (n+1)*g 0:=by
     funext n
     exact fE ..
    rw[e]at this;exact this
   .have z:∀m,dl g m=0:=λm=>by
     show g (m+1)-g m=0;rw[hg (m+1),hg m]
     lia
    have:=rz (k:=n+1) (f:=λk=>f k*dl g (n-k)) (g:=λ_=>0) λi _=>by rw[z];simp
    show Λ (n+1) (λk=>f k*dl g (n-k))=0;rw[this];clear this
    induction n+1 with
    | zero=>rfl
    | succ k ih=>show Λ k (λ_=>0)+0=0;rw[ih];rfl
 | e+1,g,hg=>by
   show Pd (d+e+1) (dl (Pb.W5 f g));rw[Ls];refine Pd.add ?_ (Pd.W5 a (e:=e) (g:=dl g) hg);have:=((a.shift 1).smul (g 0)).le (show d<=d+e+1 by lia);have e:(λn=>g 0*f (n+1))=λn=>f (n+1)*g 0:=by
    funext n
    exact fE ..
   rw[e]at this;exact this
theorem Az:∀(N:Nat){d:Nat}{f:Nat->Int},Pd d f->d<N->∀n,Τ (Xl N f) n 0=f n
 | 0,_,_,_,h,_=>absurd h (jk _)
 | N+1,d,f,hf,_,n=>by
   have a:∀n,Τ (Xl N (dl f)) n 0=dl f n:=by
    intro n;cases d with
    | zero=>
      have z:∀m,dl f m=0:=λm=>by
       show f (m+1)-f m=0;rw[hf (m+1),hf m]
       lia
      cases N with
      | zero=>rw[z];rfl
      | succ N=>exact Az (N+1) (Pd.zero z 0) (by lia) n
    | succ d=>exact Az N (d:=d) (f:=dl f) hf (by lia) n
   show f 0*(ch n 0:Int)+Τ (Xl N (dl f)) n (0+1)=f n;rw[pC]
   induction n with
   | zero=>
     rw[zi];simp
   | succ n ihn=>
     rw[FN,a n];show f 0*((1:Nat):Int)+(Τ (Xl N (dl f)) n (0+1)+(f (n+1)-f n))=f (n+1)
     lia
theorem tT:∀{N:Nat}{f g:Nat->Int},(∀i,i<N->f i=g i)->Xl N f=Xl N g
 | 0,_,_,_=>rfl
 | N+1,f,g,h=>by
   show f 0::Xl N (dl f)=g 0::Xl N (dl g);rw[h 0 (by lia),tT (N:=N) (f:=dl f) (g:=dl g) λi a=>by
    show f (i+1)-f i=g (i+1)-g i;rw[h i (by lia),h (i+1) (by lia)]]
def ϩ(a:f3):List Int:=Xl a.length λi=>a.getD i 0
def Zw(a:f3):List Int:=(a.zip (a.drop 1)).map λp=>p.2-p.1
theorem xN(a:f3):(Zw a).length=a.length-1:=by
 unfold Zw;rw[aa,lO,fu]
 lia
theorem S3{xs:f3}{i:Nat}(h:i+1<xs.length):(Zw xs).getD i 0=xs.getD (i+1) 0-xs.getD i 0:=by
 unfold Zw;rw[aX,aA,ao (by rw[lO,fu];lia)];simp[aX,h,show i<xs.length by lia,Nat.add_comm]
theorem FS(x:Int)(r:f3):ϩ (x::r)=x::ϩ (Zw (x::r)):=by
 unfold ϩ;rw[xN];show x::Xl r.length _=x::Xl (r.length+1-1) _;rw[Nat.add_sub_cancel]
 congr 1
 exact tT λi a=>(S3 (xs:=x::r) (by simpa using a)).symm
theorem KI:∀n k:Nat,ch n k<=2^n
 | 0,0=>ap _
 | 0,_+1=>bj _
 | n+1,0=>by rw[pC];exact Nat.one_le_two_pow
 | n+1,k+1=>by
   have a:=KI n k;have b:=KI n (k+1);show ch n k+ch n (k+1)<=2^(n+1);rw[eV]
   lia
theorem Jo(f:Nat->Int):∀k,((List.range k).map f).sum=Λ k f
 | 0=>rfl
 | k+1=>by
   rw[da,aw,c7,Jo f k];show Λ k f+(f k+0)=Λ k f+f k
   lia
def ϫ:Nat:=2^200000
theorem hW{n k:Nat}(h:n<=2^k)(a:k<200000):n<ϫ:=by
 unfold ϫ;exact gm h (mI (by decide) a)
theorem qA{a b:Int}(d:a.natAbs<ϫ)(c:b.natAbs<ϫ):IntMulOk a b:=by
 unfold ϫ at d c;exact IntMulOk.of_bits (aL (xR d) (by decide)) (aL (xR c) (by decide))
theorem SQ{n k:Nat}(h:n<=100000):ch n k<ϫ:=hW (KI n k) (by lia)
theorem wA:∀n k:Nat,ch n k<=(n+1)^k
 | n,0=>by rw[pC];exact ap _
 | 0,k+1=>bj _
 | n+1,k+1=>by
   have d:=wA n k;have b:=wA n (k+1);have a:(n+1)^k<=(n+1+1)^k:=fy (by lia) k;show ch n k+ch n (k+1)<=(n+1+1)^(k+1);rw[eV]at b;rw[eV,Nat.mul_succ];have c:(n+1)^k*(n+1)<=(n+1+1)^k*(n+1):=cY _ a
   lia
theorem Dp{n x k:Nat}(h:n+1<=2^x)(a:x*k<200000):ch n k<ϫ:=hW (k:=x*k) (aL (wA n k) (by rw[nI];exact fy h k)) a
def ς(c b:Int->Bool)(a:Int->Nat->Int):List Int->Nat->Int
 | [],_=>1
 | k::ks,n=>if c k=true then W5 (a k) (ς c b a ks) n else if b k=true then a k n*ς c b a ks 0 else a k 0*ς c b a ks n
variable{fr be:Int->Bool}{ws:Int->Nat->Int}
theorem qC{k:Int}{a:f3}(h:fr k=true):ς fr be ws (k::a)=W5 (ws k) (ς fr be ws a):=by
 funext n
 show(if fr k=true then _ else _)=_;rw[aj h]
theorem py{k:Int}{a:f3}(h:¬fr k=true)(b:be k=true):ς fr be ws (k::a)=λn=>ws k n*ς fr be ws a 0:=by
 funext n
 show(if fr k=true then _ else _)=_;rw[ag h,aj b]
theorem pi{k:Int}{a:f3}(h:¬fr k=true)(b:¬be k=true):ς fr be ws (k::a)=λn=>ws k 0*ς fr be ws a n:=by
 funext n
 show(if fr k=true then _ else _)=_;rw[ag h,ag b]
theorem Lu{d:gb}:∀{ks:f3},(∀k∈ks,Pd (d k) (ws k))->Pd ((ks.map λk=>d k+1).sum) (ς fr be ws ks)
 | [],_=>λ_=>rfl
 | k::ks,h=>by
   have a:=h k (.head _);have c:=Lu (ks:=ks) λx g=>h x (.tail _ g);rw[aq,aN];by_cases f:fr k=true
   .rw[qC f];exact(Pd.W5 a c).le (by lia)
   .by_cases b:be k=true
    .rw[py f b];have:=(a.smul (ς fr be ws ks 0)).le (show d k<=d k+1+(ks.map λk=>d k+1).sum by lia);have e:(λn=>ς fr be ws ks 0*ws k n)=λn=>ws k n*ς fr be ws ks 0:=by
      funext n
      exact fE ..
     rw[e]at this;exact this
    .rw[pi f b];exact(c.smul (ws k 0)).le (by lia)
theorem B6{f:Nat->Int}{B:Int}:∀{k:Nat},(∀i,i<k->0<=f i/\f i<=B)->0<=Λ k f/\Λ k f<=k*B
 | 0,_=>⟨ce _,by show(0:Int)<=((0:Nat):Int)*B;simp⟩
 | k+1,h=>by
   obtain⟨c,d⟩:=B6 (k:=k) λi b=>h i (by lia);obtain⟨a,e⟩:=h k (by lia);show 0<=Λ k f+f k/\Λ k f+f k<=((k+1:Nat):Int)*B;rw[Int.natCast_succ,eE,dP]
   lia
theorem xU{a b A B:Int}(c:0<=a/\a<=A)(d:0<=b/\b<=B):0<=a*b/\a*b<=A*B:=⟨cX c.1 d.1,de c.2 d.2 d.1 (bE c.1 c.2)⟩
theorem Rp{f g:Nat->Int}{A B:Int}{n:Nat}(a:∀i,i<=n->0<=f i/\f i<=A)(b:∀i,i<=n->0<=g i/\g i<=B):0<=W5 f g n/\W5 f g n<=((n+1:Nat):Int)*(A*B):=B6 λi c=>xU (a i (by lia)) (b (n-i) (by lia))
theorem lM(n:Nat):(0:Int)<2^n:=Int.pow_pos (by decide)
theorem vB{X x:Nat}(c:((X+1:Nat):Int)<=2^x){a:gb}:∀{ks:f3},(∀k∈ks,∀i,i<=X->0<=ws k i/\ws k i<=2^a k)->∀n,n<=X->0<=ς fr be ws ks n/\ς fr be ws ks n<=2^(ks.map λk=>x+a k).sum
 | [],_,n,_=>⟨by show(0:Int)<=1;decide,by show(1:Int)<=2^0;decide⟩
 | k::ks,h,n,hn=>by
   have d:=h k (.head _);have e:=vB c (ks:=ks) λx c=>h x (.tail _ c);rw[aq,aN,lW,lW];have m:=lM x;have up:∀{u:Int},0<=u/\u<=2^a k*2^(ks.map λk=>x+a k).sum->0<=u/\u<=2^x*2^a k*2^(ks.map λk=>x+a k).sum:=λ{u} hu=>by
    refine⟨hu.1,?_⟩;rw[gc];have:=(xU (a:=1) (A:=2^x) (b:=u) ⟨by decide,by lia⟩ hu).2;rw[dP]at this;exact this
   by_cases f:fr k=true
   .rw[qC f];obtain⟨g,l⟩:=Rp (n:=n) (λi j=>d i (by lia)) (λi j=>e i (by lia));refine⟨g,bE l ?_⟩;rw[gc];refine bu (by lia) (cX (lF (lM _)) (lF (lM _)))
   .by_cases b:be k=true
    .rw[py f b];exact up (xU (d n hn) (e 0 (by lia)))
    .rw[pi f b];exact up (xU (d 0 (by lia)) (e n hn))
theorem EZ:∀{N:Nat}{f:Nat->Int}{b:Nat},(∀i,i<N->(f i).natAbs<=2^b)->∀c∈Xl N f,c.natAbs<=2^(b+N)
 | 0,_,_,_,c,hc=>by cases hc
 | N+1,f,b,h,c,hc=>by
   rcases ax.mp (show c∈f 0::Xl N (dl f)from hc)with rfl|hc
   .exact aL (h 0 (by lia)) (bB (by decide) (by lia))
   .have:=EZ (N:=N) (f:=dl f) (b:=b+1) (λi e=>by
     have a:=h i (by lia);have d:=h (i+1) (by lia);show(f (i+1)-f i).natAbs<=2^(b+1);rw[eV,Nat.mul_two];exact aL (Int.natAbs_sub_le _ _) (gB d a)) c hc
    rw[show b+1+N=b+(N+1) by lia]at this;exact this
def ul(d:Nat)(W:Nat->Int):Prop:=Pd d W/\∀x n,((n+1:Nat):Int)<=2^x->0<=W n/\W n<=2^(d*(x+20*d))
def τ(c:Nat)(g:Nat):Nat:=(g+1)*c-1
theorem Jp{c g:Nat}(h:1<=c):τ c g=c*g+(c-1):=by
 unfold τ;rw[eT,g6]
 lia
theorem zP{a b:Nat}(h:a<=b):(2:Int)^a<=2^b:=by
 obtain⟨k,rfl⟩:∃k,b=a+k:=⟨b-a,by lia⟩;rw[lW];have:=cj (show(1:Int)<=2^k from lM k) (lF (lM a));rw[iL]at this;exact this
theorem qW{f g:gb}{y:Nat}:∀{ks:f3},(∀k∈ks,f k<=g k*y)->(ks.map f).sum<=(ks.map g).sum*y
 | [],_=>by simp
 | k::ks,h=>by
   have b:=h k (.head _);have c:=qW (ks:=ks) λx a=>h x (.tail _ a);rw[aq,aN,aq,aN,eT]
   lia
theorem vJ{g:gb}:∀{a:f3}{k:Int},k∈a->g k<=(a.map g).sum
 | k'::a,k,h=>by
   rw[aq,aN];rcases ax.mp h with rfl|h
   .lia
   .have:=vJ (g:=g) h
    lia
theorem xP{W:Int->Nat->Int}{c d:gb}{ks:f3}(h:∀k∈ks,ul (d k) (W k))(f:∀k∈ks,1<=c k/\c k<=1000000):ul (ks.map λk=>d k+1).sum (ς fr be (λk g=>W k (τ (c k) g)) ks):=by
 refine⟨Lu λk b=>?_,λx n m=>?_⟩
 .have:=(h k b).1.lin (c k) (c k-1);have e:(λg=>W k (τ (c k) g))=λg=>W k (c k*g+(c k-1)):=by
   funext g
   rw[Jp (f k b).1]
  rw[e];exact this
 .have key:=vB (fr:=fr) (be:=be) (ws:=λk g=>W k (τ (c k) g)) (X:=n) (x:=x) m (a:=λk=>d k*(x+20+20*d k)) (ks:=ks) (λk b i s=>by
   refine(h k b).2 (x+20) (τ (c k) i) ?_;have j:=(f k b).1;have p:=(f k b).2;have e:τ (c k) i+1=(i+1)*c k:=by
    unfold τ;have:1<=(i+1)*c k:=bP (show 1<=i+1 by lia) j
    lia
   rw[e,fj,lW];exact de (by lia) (by have:(2:Int)^20=1048576:=rfl;lia) (Int.natCast_nonneg _) (lF (lM x))) n (ap _)
  refine⟨key.1,bE key.2 ?_⟩;refine zP (qW λk b=>?_);have l:=vJ (g:=λk=>d k+1) b;generalize (ks.map λk=>d k+1).sum=D at l;have q:x+d k*(x+20+20*d k)=x+d k*x+d k*(20+20*d k):=by rw[show x+20+20*d k=x+(20+20*d k) by lia,nR];lia
  have r:(d k+1)*(x+20*D)=x+d k*x+(d k+1)*(20*D):=by rw[nR,eT];lia
  have o:d k*(20+20*d k)<=(d k+1)*(20*D):=bP (by lia) (by lia)
  lia
structure Ϗ(b:Nat)(cs:f3)(f:Nat->Int):Prop where
 ne:cs≠[]
 len:cs.length<=24
 bt:∀c∈cs,c.natAbs<=2^b
 val:∀n,Τ cs n 0=f n
theorem IP:∀(x:Int)(r:f3),Τ (x::r) 0 0=x:=λx r=>by
 show x*((1:Nat):Int)+Τ r 0 (0+1)=x;rw[zi];simp
theorem Ϗ.head{b:Nat}{a:f3}{f:Nat->Int}(h:Ϗ b a f):∃r,a=f 0::r:=by
 obtain⟨ne,_,_,v⟩:=h;cases a with
 | nil=>exact absurd rfl ne
 | cons x r=>exact⟨r,by rw[<-v 0,IP]⟩
theorem Ϗ.one:Ϗ 0 [1] (ς fr be ws []):=⟨by simp,by simp,λc a=>by rw[aI.mp a];decide,λn=>by
 show 1*((ch n 0:Nat):Int)+0=1;rw[pC]
 rfl⟩
theorem E2(a:Int):∀(b:f3)(n k:Nat),Τ (b.map λc=>a*c) n k=a*Τ b n k
 | [],_,_=>by show(0:Int)=a*0;simp
 | c::b,n,k=>by
   show a*c*(ch n k:Int)+Τ (b.map λc=>a*c) n (k+1)=a*(c*(ch n k:Int)+Τ b n (k+1));rw[E2 a b,cM,gc]
theorem Ϗ.ϩ{f:Nat->Int}{N d b:Nat}(h:Pd d f)(j:d<N)(a:N<=24)(g:∀i,i<N->(f i).natAbs<=2^b):Ϗ (b+N) (ϩ ((List.range N).map f)) f:=by
 have e:Pb.ϩ ((List.range N).map f)=Xl N f:=by
  unfold Pb.ϩ;rw[aa,bD];refine tT λi c=>?_;rw[aX,aA,fA c]
  rfl
 rw[e];refine⟨λz=>?_,by rw[CG];exact a,EZ g,Az N h j⟩;have:=CG N f;rw[z]at this;simp at this
 lia
def YY:List Int->List (List Int)
 | []=>[[]]
 | k::ks=>(k::ks)::YY ks
theorem Jh:∀a:List Int,(YY a).reverse=(List.range (a.length+1)).map λj=>a.drop (a.length-j)
 | []=>rfl
 | k::a=>by
   show((k::a)::YY a).reverse=_;rw[dZ,Jh a,da (n:=(k::a).length),aw,aq,d6,d7,kg]
   congr 1
   refine bZ λj b=>?_;have:=bU.mp b;rw[aF,show a.length+1-j=(a.length-j)+1 by lia,nA]
theorem Ϗ.le{b b':Nat}{a:f3}{f:Nat->Int}(h:Ϗ b a f)(l:b<=b'):Ϗ b' a f:=⟨h.ne,h.len,λc d=>aL (h.bt c d) (bB (by decide) l),h.val⟩
def Xm(d:gb)(a:f3):Nat:=(a.map λk=>d k*(25+20*d k)+29).sum
theorem sJ{d:gb}{ks:f3}(h:(ks.map λk=>d k+1).sum<=23):Xm d ks<=15000:=by
 have:Xm d ks<=(ks.map λk=>d k+1).sum*514:=qW λk a=>by
  have:=vJ (g:=λk=>d k+1) a;have b:d k*(25+20*d k)<=d k*485:=jM _ (by lia);rw[eT]
  lia
 lia
theorem sU(g:gb)(a:f3)(j:Nat):((a.drop j).map g).sum<=(a.map g).sum:=by
 have:=congrArg (λl=>(l.map g).sum) (b8 j a);simp only[aw,c7]at this
 lia
theorem DK{W:Int->Nat->Int}{c d:gb}{b:f3}{N:Nat}(p:N<=24)(h:∀k∈b,ul (d k) (W k))(l:∀k∈b,1<=c k/\c k<=1000000):∀i,i<N->0<=ς fr be (λk g=>W k (τ (c k) g)) b i/\ς fr be (λk g=>W k (τ (c k) g)) b i<=2^(b.map λk=>5+d k*(25+20*d k)).sum:=by
 intro i s;refine vB (X:=23) (x:=5) (by decide) (a:=λk=>d k*(25+20*d k)) (λk f j r=>?_) i (by lia);refine(h k f).2 25 (τ (c k) j) ?_;have m:=(l k f).1;have n:=(l k f).2;have e:τ (c k) j+1=(j+1)*c k:=by
  unfold τ;have:1<=(j+1)*c k:=bP (show 1<=j+1 by lia) m
  lia
 have q:(j+1)*c k<=24*1000000:=bP (by lia) n;have o:(2:Int)^25=33554432:=rfl;rw[e,o]
 lia
theorem Gz{W:Nat->Int}{c d:Nat}(h:ul d W)(b:1<=c)(f:c<=1000000){j:Nat}(i:j<24):0<=W (τ c j)/\W (τ c j)<=2^(d*(25+20*d)):=by
 refine h.2 25 (τ c j) ?_;have e:τ c j+1=(j+1)*c:=by
  unfold τ;have:1<=(j+1)*c:=bP (show 1<=j+1 by lia) b
  lia
 have g:(j+1)*c<=24*1000000:=bP (by lia) f;have a:(2:Int)^25=33554432:=rfl;rw[e,a]
 lia
theorem rq{z:Int}{b:Nat}(h:0<=z/\z<=2^b):z.natAbs<=2^b:=by
 have:((2^b:Nat):Int)=(2:Int)^b:=by simp
 lia
theorem vK(d:gb)(k:Int)(a:f3):Xm d (k::a)=d k*(25+20*d k)+29+Xm d a:=by
 unfold Xm;rw[aq,aN]
theorem Cd(d:gb):∀a:List Int,(a.map λk=>5+d k*(25+20*d k)).sum<=Xm d a
 | []=>ap _
 | k::a=>by
   have:=Cd d a;rw[vK,aq,aN]
   lia
theorem LH{W:Int->Nat->Int}{c d:gb}{k:Int}{S:f3}{N:Nat}(a:N<=24)(h:∀x∈k::S,ul (d x) (W x))(b:∀x∈k::S,1<=c x/\c x<=1000000)(l:((k::S).map λk=>d k+1).sum<N){e:f3}(f:e=(List.range N).map (ς fr be (λk g=>W k (τ (c k) g)) (k::S))):Ϗ (Xm d (k::S)) (ϩ e) (ς fr be (λk g=>W k (τ (c k) g)) (k::S)):=by
 subst f;refine(Ϗ.ϩ (xP h b).1 l a λi j=>rq (DK a h b i j)).le ?_;have:=Cd d S;rw[vK,aq,aN]
 lia
theorem Rb{W:Int->Nat->Int}{c d:gb}{k:Int}{S:f3}{e:f3}(i:ul (d k) (W k))(l:1<=c k)(m:c k<=1000000)(f:¬fr k=true)(b:¬be k=true)(a:Ϗ (Xm d S) e (ς fr be (λk g=>W k (τ (c k) g)) S)):Ϗ (Xm d (k::S)) (e.map λx=>W k (τ (c k) 0)*x) (ς fr be (λk g=>W k (τ (c k) g)) (k::S)):=by
 refine⟨λz=>a.ne (mZ.mp z),by rw[aa];exact a.len,λx p=>?_,λn=>?_⟩
 .obtain⟨y,hy,rfl⟩:=aP.mp p;have h:=rq (Gz i l m (j:=0) (by decide));have o:=a.bt y hy;rw[jW,vK];refine aL (bP h o) ?_;rw[<-eR];exact bB (by decide) (by lia)
 .rw[E2,a.val,pi f b]
theorem Mt{f g a b:Nat->Int}{n:Nat}(c:∀i,i<=n->f i=a i)(d:∀i,i<=n->g i=b i):W5 f g n=W5 a b n:=rz λi e=>by rw[c i (by lia),d (n-i) (by lia)]
theorem zk{f:Nat->Int}{N i:Nat}(h:i<N):((List.range N).map f).getD i 0=f i:=by
 rw[aX,aA,fA h]
 rfl
theorem L9{d:gb}:∀a:List Int,a.length<=(a.map λk=>d k+1).sum
 | []=>ap _
 | k::a=>by
   have:=L9 (d:=d) a;rw[aq,aN,aF]
   lia
theorem Jd{a b:Type}{R:a->b->Prop}:∀{l:List a}{c:List b},Paired R l c->Paired R l.reverse c.reverse
 | _,_,.nil=>.nil
 | _,_,.cons e h=>by
   rw[dZ,dZ];exact tJ e (Jd h)
theorem wV{fr' be':Int->Bool}{ws':Int->Nat->Int}:∀{ks:f3},(∀k∈ks,fr k=fr' k/\be k=be' k/\ws k=ws' k)->ς fr be ws ks=ς fr' be' ws' ks
 | [],_=>rfl
 | k::ks,h=>by
   obtain⟨d,e,b⟩:=h k (.head _);have a:=wV (ks:=ks) λx c=>h x (.tail _ c)
   funext n
   show(if fr k=true then W5 (ws k) (ς fr be ws ks) n else if be k=true then ws k n*ς fr be ws ks 0 else ws k 0*ς fr be ws ks n)=(if fr' k=true then W5 (ws' k) (ς fr' be' ws' ks) n else if be' k=true then ws' k n*ς fr' be' ws' ks 0 else ws' k 0*ς fr' be' ws' ks n);rw[d,e,b,a]
section
variable{m:Int}{d:hU}{r:Int}{a:f5}{b:gb}{c:gb}
def wyF(m:Int)(d:hU)(r:Int)(a:f5)(fr be:Int->Bool)(c:gb):Nat->Int->Nat->Int
 | 0,_=>λ_=>1
 | f+1,v=>ς fr be (λk g=>wyF m d r a fr be c f k (τ (c k) g)) (kd m d r a v)
def wy(m:Int)(d:hU)(r:Int)(a:f5)(b:gb)(fr be:Int->Bool)(c:gb)(v:Int):Nat->Int:=wyF m d r a fr be c (m.toNat-b v) v
theorem jE(g:Good m d)(R:ζ m d r a b){v:Int}(i:0<=v)(j:v<m):wy m d r a b fr be c v=ς fr be (λk g=>wy m d r a b fr be c k (τ (c k) g)) (kd m d r a v):=by
 unfold wy;cases e:m.toNat-b v with
 | zero=>
   have:kd m d r a v=[]:=by
    cases h:kd m d r a v with
    | nil=>rfl
    | cons k ks=>
      have:=(sF g R i j (k:=k) (by rw[h];exact .head _)).2.1
      lia
   rw[this]
   rfl
 | succ f=>
   show ς fr be (λk g=>wyF m d r a fr be c f k (τ (c k) g)) (kd m d r a v)=_;refine wV λk h=>⟨rfl,rfl,?_⟩;have:=(sF g R i j h).2.1;rw[show m.toNat-b k=f by lia]
def ϐ(m:Int)(d:hU)(r:Int)(a:f5)(b:gb)(v:Int):Nat:=(bO m d r a b v).length-1
theorem gj(g:Good m d)(R:ζ m d r a b){v:Int}(f:0<=v)(h:v<m):((kd m d r a v).map λk=>ϐ m d r a b k+1).sum=ϐ m d r a b v:=by
 have e:=congrArg List.length (fM g R f h);rw[aF,List.length_flatMap]at e;unfold ϐ;rw[e,Nat.add_sub_cancel];show _=((kd m d r a v).map λk=>(bO m d r a b k).length).sum;refine congrArg List.sum (bZ λk j=>?_);obtain⟨⟨i,l⟩,_⟩:=(sF g R f h j).1;have:=congrArg List.length (fM g R i l);rw[aF]at this
 lia
theorem AD(g:Good m d)(R:ζ m d r a b)(f:∀v,0<=v->v<m->v≠r->1<=c v/\c v<=1000000):∀(n:Nat){v:Int},0<=v->v<m->m.toNat-b v<=n->ul (ϐ m d r a b v) (wy m d r a b fr be c v)
 | n,v,h0,h1,hn=>by
   rw[jE g R h0 h1,<-gj g R h0 h1];refine xP (λk e=>?_) λk e=>?_
   .obtain⟨⟨k0,k1⟩,_⟩:=(sF g R h0 h1 e).1;have:=(sF g R h0 h1 e).2.1;cases n with
    | zero=>lia
    | succ n=>exact AD g R f n k0 k1 (by lia)
   .obtain⟨⟨k0,k1⟩,kr,_⟩:=(sF g R h0 h1 e).1;exact f k k0 k1 kr
end
theorem Ca:∀{a b:f3},b∈YY a->∀x∈b,x∈a
 | [],b,h,x,hx=>by
   rw[aI.mp h]at hx;exact hx
 | k::a,b,h,x,hx=>by
   rcases ax.mp (show b∈(k::a)::YY a from h)with rfl|h
   .exact hx
   .exact .tail _ (Ca h x hx)
theorem zq{d g:Type}{R S:d->g->Prop}:∀{l:List d}{c:List g},(∀a b,b∈c->R a b->S a b)->Paired R l c->Paired S l c
 | _,_,_,.nil=>.nil
 | _,_,f,.cons e h=>.cons (f _ _ (.head _) e) (zq (λa b i=>f a b (.tail _ i)) h)
theorem vL(a:f3):∃r,YY a=a::r:=by
 cases a with
 | nil=>exact⟨[],rfl⟩
 | cons k a=>exact⟨YY a,rfl⟩
theorem mr{m:Int}{c:hU}{r:Int}{b:f5}{a:gb}(g:Good m c)(R:ζ m c r b a){v:Int}(d:0<=v)(h:v<m):(ϐ m c r b a v:Int)<m:=by
 obtain⟨i,f⟩:=ou g R (m.toNat-1-a v) v d h;have:=fC (m:=m) (by lia) i λx e=>(f x e).1;have:=g.m1;unfold ϐ bO
 lia
theorem Mq{m:Int}{d:hU}{r:Int}{a:f5}{e:gb}(g:Good m d)(R:ζ m d r a e){b:f3}(O:Order m r a b){i:Nat}{v:Int}(f:(r::b).reverse[i]?=some v)(n:0<=v)(l:v<m):∀k∈kd m d r a v,k∈(r::b).reverse.take i:=by
 intro k j;have w:=(bw g R n l).mp j;rw[dZ]at f ⊢;by_cases c:i<b.length
 .rw[dh (by rw[bc];exact c)]at f;obtain⟨_,_,_,_,h⟩:=O.cut R f;have:=h k w.1.1 w.1.2 w.2.1 w.2.2;rw[List.take_append_of_le_length (by rw[bc];lia),List.take_reverse,dM];exact this
 .rw[List.take_append,dc (by rw[bc];lia)];exact bo _ (dM.mpr ((O.all k w.1.1 w.1.2).resolve_left w.2.1))
theorem Fh{f:Int->List Int}{v:Int}{z:f3}:∀{l:f3},(l.flatMap f).Nodup->(l.flatMap λk=>if v∈f k then z else[])=if v∈l.flatMap f then z else[]
 | [],_=>by simp
 | a::l,h=>by
   rw[bC]at h ⊢;obtain⟨i,g,d⟩:=dC.mp h;rw[bC,Fh g];by_cases c:v∈f a
   .have:v∉l.flatMap f:=λe=>d v c v e rfl;rw[aj c,ag this,aj (bo _ c),bH]
   .rw[ag c,f8];by_cases b:v∈l.flatMap f
    .rw[aj b,aj (aW _ b)]
    .rw[ag b,ag (λe=>(aY.mp e).elim c b)]
section
variable{m:Int}{j:hU}{r:Int}{d:f5}{i:gb}
theorem nD{f h:Int->List Int}:∀{l:f3},(∀x∈l,f x=h x)->l.flatMap f=l.flatMap h
 | [],_=>rfl
 | a::l,e=>by rw[bC,bC,e a aJ,nD λx b=>e x (aG _ b)]
theorem GL{p:Int->Bool}{f:Int->List Int}:∀l:List Int,(l.flatMap f).filter p=l.flatMap λk=>(f k).filter p
 | []=>rfl
 | a::l=>by rw[bC,b4,GL l,bC]
theorem D3:∀l:List Int,(l.flatMap λk=>[k])=l
 | []=>rfl
 | a::l=>by
   rw[bC,D3 l]
   rfl
theorem GO(g:Good m j)(R:ζ m j r d i){v:Int}(s:0<=v)(q:v<m):∀(n:Nat){u:Int},0<=u->u<m->m.toNat-i u<=n->((kd m j r d u).flatMap (bO m j r d i)).filter (λb=>decide (d b=v))=if v∈bO m j r d i u then kd m j r d v else[]
 | n,u,u0,u1,hn=>by
   have st:=fM g R u0 u1;have o:(bO m j r d i u).Nodup:=(ou g R _ u u0 u1).1;rw[st]at o;obtain⟨l,x⟩:=bg.mp o;have p:∀k∈kd m j r d u,(bO m j r d i k).filter (λb=>decide (d b=v))=(if u=v then[k]else[])++if v∈bO m j r d i k then kd m j r d v else[]:=λk a=>by
    have w:=sF g R u0 u1 a;rw[fM g R w.1.1.1 w.1.1.2,hV];have h:((kd m j r d k).flatMap (bO m j r d i)).filter (λb=>decide (d b=v))=if v∈bO m j r d i k then kd m j r d v else[]:=by
     cases n with
     | zero=>lia
     | succ n=>exact GO g R s q n w.1.1.1 w.1.1.2 (by lia)
    rw[show((bR m j (front r d k) k).flatMap (bO m j r d i)).filter (λb=>decide (d b=v))=_ from h,fM g R w.1.1.1 w.1.1.2,w.1.2.2];by_cases c:u=v
    .rw[aj (bh c),aj c]
     rfl
    .rw[ag (by rw[bM];exact c),ag c]
     rfl
   rw[GL,nD p];by_cases c:u=v
   .subst c;have t:u∈bO m j r d i u:=(by rw[st];exact .head _);rw[aj t];have:((kd m j r d u).flatMap λk=>(if u=u then[k]else[])++if u∈bO m j r d i k then kd m j r d u else[])=(kd m j r d u).flatMap λk=>[k]:=nD λk a=>by
     rw[aj rfl,ag (λe=>l (dJ.mpr ⟨k,a,e⟩)),bH]
    rw[this,D3]
   .have:((kd m j r d u).flatMap λk=>(if u=v then[k]else[])++if v∈bO m j r d i k then kd m j r d v else[])=(kd m j r d u).flatMap λk=>if v∈bO m j r d i k then kd m j r d v else[]:=nD λk a=>by rw[ag c,f8]
    rw[this,Fh x,st];by_cases f:v∈(bR m j (front r d u) u).flatMap (bO m j r d i)
    .rw[aj f,aj (.tail _ f)]
    .rw[ag f,ag (λe=>(ax.mp e).elim (λz=>c z.symm) f)]
theorem Pw(g:Good m j)(R:ζ m j r d i)(l:0<=r)(f:r<m){a:f3}(n:bO m j r d i r=r::a)(O:Order m r d a){v:Int}(c:0<=v)(k:v<m):bV m j r d i a v=((kd m j r d v).filter λb=>decide (ο m j r d i b*tup j d b=ο m j r d i v)).getLast?:=by
 have h:=GO g R c k (m.toNat-i r) l f (ap _);have e:(kd m j r d r).flatMap (bO m j r d i)=a:=by
  have:=fM g R l f;rw[n]at this;exact(d8 this).2.symm
 rw[e,n,aj (by
  rcases O.all v c k with z|z
  .rw[z];exact .head _
  .exact .tail _ z)]at h
 unfold bV;rw[<-h,List.filter_filter]
 congr 1
 refine List.filter_congr λb _=>?_;rw[<-Bool.decide_and];exact kW.mpr ⟨λ⟨x,y⟩=>⟨y,x⟩,λ⟨x,y⟩=>⟨y,x⟩⟩
theorem wd{f:Int->List Int}:∀{l:f3},(∀k∈l,k∈f k)->(l.flatMap f).Nodup->l.Nodup
 | [],_,_=>mh
 | a::l,h,nd=>by
   rw[bC]at nd;obtain⟨_,c,e⟩:=dC.mp nd;refine bg.mpr ⟨λz=>?_,wd (λk b=>h k (.tail _ b)) c⟩;exact e a (h a (.head _)) a (dJ.mpr ⟨a,z,h a (.head _)⟩) rfl
theorem Qw{p:Int->Bool}{b a:f3}{k:Int}(t:(b++k::a).Nodup):((b++k::a).filter p).getLast?=some k↔(p k&&!(a.any p))=true:=by
 obtain⟨_,v,n⟩:=dC.mp t;have q:k∉a:=(bg.mp v).1;have u:k∉b:=λz=>n k z k (.head _) rfl;rw[b4,b9,fX];by_cases f:a.any p=true
 .have ne:a.filter p≠[]:=λz=>by
   obtain⟨x,o,g⟩:=lP.mp f;have:x∈a.filter p:=bG.mpr ⟨o,g⟩;rw[z]at this;cases this
  have e:(b.filter p++(k::a).filter p).getLast?=(a.filter p).getLast?:=by
   obtain⟨l,s⟩:∃l,b.filter p++(k::a).filter p=l++a.filter p:=by
    rw[hV];by_cases c:p k=true
    .rw[aj c];exact⟨b.filter p++[k],by rw[bX];rfl⟩
    .rw[ag c];exact⟨_,rfl⟩
   rw[s,jv];cases h:(a.filter p).getLast? with
   | none=>exact absurd (kE.mp h) ne
   | some x=>rfl
  rw[e]
  constructor
  .intro z;exact absurd ((bG.mp (jB z)).1) q
  .intro z;rw[f]at z;cases z.2
 .have hf:a.filter p=[]:=List.filter_eq_nil_iff.mpr λx o g=>f (lP.mpr ⟨x,o,g⟩);rw[hV,hf];by_cases c:p k=true
  .rw[aj c,jv];exact⟨λ_=>⟨c,Bool.eq_false_iff.mpr f⟩,λ_=>rfl⟩
  .rw[ag c,bH]
   constructor
   .intro z;exact absurd ((bG.mp (jB z)).1) u
   .intro z;exact absurd z.1 c
theorem Oz(g:Good m j)(R:ζ m j r d i)(w:0<=r)(s:r<m){l:f3}(x:bO m j r d i r=r::l)(O:Order m r d l){v:Int}(f:0<=v)(c:v<m){h a:f3}{k:Int}(e:kd m j r d v=h++k::a):bV m j r d i l v=some k↔(decide (ο m j r d i k*tup j d k=ο m j r d i v)&&!(a.any λb=>decide (ο m j r d i b*tup j d b=ο m j r d i v)))=true:=by
 have t:(kd m j r d v).Nodup:=by
  have u:=fM g R f c;have o:(bO m j r d i v).Nodup:=(ou g R _ v f c).1;rw[u]at o;have q:=(bg.mp o).2;exact wd (λk n=>by rw[fM g R ((bw g R f c).mp n).1.1 ((bw g R f c).mp n).1.2];exact .head _) q
 rw[Pw g R w s x O f c,e];exact Qw (p:=λb=>decide (ο m j r d i b*tup j d b=ο m j r d i v)) (e▸t)
end
end Pb
namespace Pb
open L2 PySem PySem.W NumText
section
variable{c a:Int->Bool}{b:Int->Nat->Int}
theorem Fp{f:Nat->Int}:∀{k:Nat},(∀i,i<k->0<=f i)->0<=Λ k f
 | 0,_=>ce _
 | k+1,h=>by
   have e:=Fp (k:=k) λi d=>h i (by lia);have g:=h k (by lia);show 0<=Λ k f+f k
   lia
end
def Xw(a k:Nat):Int:=if k%2=0 then(ch (a+k) k:Int)else -(ch (a+k) k:Int)
def Yj:Int->Nat->Int
 | .ofNat n,k=>(ch n k:Int)
 | .negSucc a,k=>Xw a k
def nwN:List Int->Nat->Nat->Int
 | [],_,_=>0
 | d::r,a,k=>d*Xw a k+nwN r a (k+1)
def gT(b:f3)(n:Int)(k:Nat):Int:=match n with
 | .ofNat n=>Τ b n k
 | .negSucc a=>nwN b a k
theorem pH(a:f3)(n k:Nat):gT a (n:Int) k=Τ a n k:=rfl
theorem oE(n:Int)(k:Nat):gT [] n k=0:=by cases n<;>rfl
theorem jP(d:Int)(r:f3)(n:Int)(k:Nat):gT (d::r) n k=d*Yj n k+gT r n (k+1):=by cases n<;>rfl
theorem sV(n:Int):Yj n 0=1:=by
 cases n with
 | ofNat n=>show((ch n 0:Nat):Int)=1;rw[pC];rfl
 | negSucc a=>show Xw a 0=1;unfold Xw;rw[aj rfl,pC];rfl
theorem vw(a k:Nat):Xw a (k+1)=-(if k%2=0 then(ch (a+(k+1)) (k+1):Int)else -(ch (a+(k+1)) (k+1):Int)):=by
 unfold Xw;by_cases c:k%2=0
 .rw[ag (by lia),aj c]
 .rw[aj (by lia),ag c,Int.neg_neg]
theorem C3:∀k:Nat,ch k k=1
 | 0=>rfl
 | k+1=>by
   show ch k k+ch k (k+1)=1;rw[C3 k,Ff (by lia)]
theorem JU(n:Int)(k:Nat):Yj (n+1) (k+1)=Yj n k+Yj n (k+1):=by
 cases n with
 | ofNat n=>
   show((ch n k+ch n (k+1):Nat):Int)=(ch n k:Int)+(ch n (k+1):Int);rw[dG]
 | negSucc a=>
   cases a with
   | zero=>
     show((0:Nat):Int)=Xw 0 k+Xw 0 (k+1);rw[vw];unfold Xw;rw[iY,iY,C3,C3];split<;>rfl
   | succ a=>
     show Xw a (k+1)=Xw (a+1) k+Xw (a+1) (k+1);rw[vw,vw];unfold Xw;have e:ch (a+1+(k+1)) (k+1)=ch (a+1+k) k+ch (a+1+k) (k+1):=rfl;rw[e,dG,show a+(k+1)=a+1+k by lia];split<;>lia
theorem PJ(n:Int)(k:Nat):Yj n (k+1)*((k:Int)+1)=Yj n k*(n-(k:Int)):=by
 cases n with
 | ofNat n=>exact uX n k
 | negSucc a=>
   show Xw a (k+1)*((k:Int)+1)=Xw a k*(Int.negSucc a-(k:Int));have h:=uX (a+k) k;have e:ch (a+(k+1)) (k+1)=ch (a+k) k+ch (a+k) (k+1):=rfl;have b:(ch (a+(k+1)) (k+1):Int)*((k:Int)+1)=(ch (a+k) k:Int)*((a:Int)+(k:Int)+1):=by
    rw[e,dG,eE,h,<-cM]
    congr 1
    rw[dG]
    lia
   have c:Int.negSucc a-(k:Int)=-((a:Int)+(k:Int)+1):=by
    rw[Int.negSucc_eq]
    lia
   rw[vw,c,Int.mul_neg,oG];unfold Xw
   congr 1
   split
   .exact b
   .rw[oG,oG,b]
theorem Gf:∀(r:f3)(n:Int)(k:Nat),gT r (n+1) (k+1)=gT r n (k+1)+gT r n k
 | [],n,k=>by rw[oE,oE,oE];rfl
 | d::r,n,k=>by
   rw[jP,jP,jP,Gf r n (k+1),JU,cM]
   lia
theorem MY(d:Int)(r:f3)(n:Int):gT (d::r) (n+1) 0-gT (d::r) n 0=gT r n 0:=by
 rw[jP,jP,sV,sV,Gf]
 lia
theorem NP(r:f3)(d:Int)(n:Int)(k:Nat):gT (r++[d]) n k=gT r n k+d*Yj n (k+r.length):=by
 induction r generalizing k with
 | nil=>
   rw[f8,jP,oE,oE,dW,Nat.add_zero]
   lia
 | cons x r ih=>
   rw[fH,jP,jP,ih (k+1),aF,show k+1+r.length=k+(r.length+1) by lia]
   lia
theorem Pd.mul:∀(N:Nat){d e:Nat}{f g:Nat->Int},d+e<=N->Pd d f->Pd e g->Pd (d+e) (λn=>f n*g n)
 | N,0,e,f,g,_,hf,hg=>by
   have h:(λn=>f n*g n)=λn=>f 0*g n:=by
    funext n
    rw[hf n]
   rw[h,iY];exact hg.smul _
 | N,d+1,0,f,g,_,hf,hg=>by
   have h:(λn=>f n*g n)=λn=>g 0*f n:=by
    funext n
    rw[hg n,fE]
   rw[h];exact hf.smul _
 | 0,d+1,e+1,_,_,hn,_,_=>by lia
 | N+1,d+1,e+1,f,g,hn,hf,hg=>by
   have a:=Pd.mul N (d:=d+1) (e:=e) (f:=λn=>f (n+1)) (g:=dl g) (by lia) (hf.shift 1) hg;have b:=Pd.mul N (d:=d) (e:=e+1) (f:=dl f) (g:=g) (by lia) hf hg;rw[show d+1+(e+1)=d+e+1+1 by lia];show Pd (d+e+1) (dl λn=>f n*g n);have h:(dl λn=>f n*g n)=λn=>f (n+1)*dl g n+dl f n*g n:=by
    funext n
    show f (n+1)*g (n+1)-f n*g n=f (n+1)*(g (n+1)-g n)+(f (n+1)-f n)*g n;rw[gS,Int.sub_mul]
    lia
   rw[h];rw[show d+1+e=d+e+1 by lia]at a;rw[show d+(e+1)=d+e+1 by lia]at b;exact a.add b
theorem Pd.Λ{d:Nat}{f:Nat->Int}(h:Pd d f):Pd (d+1) (λj=>Λ j f):=by
 show Pd d (dl λj=>Pb.Λ j f);have e:(dl λj=>Pb.Λ j f)=f:=by
  funext j
  show Pb.Λ j f+f j-Pb.Λ j f=f j
  lia
 rw[e];exact h
theorem GK{z:Int}{x k:Nat}(d:-100<=z)(c:z+1<=2^x)(e:8<=x)(g:k<=100):(Yj z k).natAbs<=2^(x*k):=by
 cases z with
 | ofNat n=>
   show((ch n k:Nat):Int).natAbs<=_;rw[kI];have b:n+1<=2^x:=by
    have:((2^x:Nat):Int)=(2:Int)^x:=(by simp);have f:((n:Int)+1)<=2^x:=c
    lia
   exact aL (wA n k) (by rw[nI];exact fy b k)
 | negSucc a=>
   have h:a<=99:=by
    rw[Int.negSucc_eq]at d
    lia
   have b:=wA (a+k) k;have f:(a+k+1)^k<=2^(x*k):=by
    rw[nI];refine fy ?_ k;exact aL (show a+k+1<=2^8 by lia) (bB (by decide) e)
   show(Xw a k).natAbs<=_;unfold Xw;split
   .rw[kI];lia
   .rw[Int.natAbs_neg,kI];lia
theorem vI{z:Int}{x b:Nat}(d:-100<=z)(a:z+1<=2^x)(e:8<=x):∀{cs:f3}{k:Nat},k+cs.length<=100->(∀c∈cs,c.natAbs<=2^b)->(gT cs z k).natAbs<=cs.length*2^(b+x*100)
 | [],k,_,_=>by rw[oE];exact bj _
 | c::cs,k,hk,hc=>by
   rw[aF]at hk;have i:=vI d a e (cs:=cs) (k:=k+1) (by lia) λy h=>hc y (.tail _ h);have f:=GK d a e (k:=k) (by lia);have g:=hc c (.head _);have j:(c*Yj z k).natAbs<=2^(b+x*100):=by
    rw[jW,eR];refine bP g (aL f (bB (by decide) ?_));exact jM x (by lia)
   rw[jP,aF,eT,jC];have:=iR (c*Yj z k) (gT cs z (k+1))
   lia
end Pb
namespace L2
open PySem PySem.Spec PyProof.Rows
section
variable{X:Cx}
def aan:V->List V->Hp->VK->Prop:=λx e H Q=>∃d b c a,x=.ref d/\e=[.ref b]/\H d=some (.dK c)/\H b=some (.dK a)/\d≠b/\c.length+a.length<=sizeLine/\Q .ω (upd H d (.dK (jS c a)))
theorem LL:MtM X "dict.update" aan:=by
 intro l s C H x K v J Q I A p h;obtain⟨d,b,z,c,rfl,rfl,n,r,ne,m,q⟩:=h;cases A;obtain⟨u,rfl,B⟩:=p.one;cases B;obtain⟨L,y,f,i,a⟩:=EJ I.ψ n;obtain⟨G,o,g,j,e⟩:=EJ I.ψ r;refine call_meetsIn F.slot_dict_update a.typeIs F.entry_dict_update (F.args_dict_update_2 _ _) (meets_dict_update (ik X.prog X.w) d b ne o) ⟨f,g,a,e,?_,λE k D t=>?_⟩
 .rw[<-Paired.length i,<-Paired.length j];exact m
 .refine⟨.ω,_,xY I (by rw[n];exact True.intro) t (let ⟨q,_,_,hq,_⟩:=k;⟨q,hq⟩) (Gp (aL (oU c z) m) y (j.merge i) k),rfl,q⟩
end
end L2
namespace Pb
open L2 PySem PySem.W NumText
theorem Iz{cs:f3}{z:Int}(d:-100<=z)(a:z+1<=2^64)(e:cs.length<=24)(cb:∀c∈cs,c.natAbs<=2^15000):(gT cs z 0).natAbs<ϫ:=by
 have h:=vI (x:=64) (b:=15000) d a (by decide) (cs:=cs) (k:=0) (by lia) cb;refine hW (k:=21405) (aL h ?_) (by decide);have f:(2:Nat)^21405=32*2^(15000+64*100):=by rw[show 21405=5+(15000+64*100)from rfl,eR 2 5]
 rw[f];exact cY _ (aL e (by decide))
theorem uB{z:Int}{k:Nat}(b:-100<=z)(a:z+1<=2^64)(c:k<=24):(Yj z k).natAbs<ϫ:=hW (GK b a (by decide) (by lia)) (by lia)
theorem Bo{a:f3}(cb:∀c∈a,c.natAbs<=2^15000):∀c∈a,c.natAbs<ϫ:=λc b=>hW (cb c b) (by decide)
def ϰ(m:Nat)(F:Nat->Int):List Int:=(List.range m).map λj=>Λ j F
def Ϲ(b a:f3)(c:Nat)(z:Int)(g:Nat):Int:=Τ a (τ c g) 0*gT b (z-(g:Int)) 0
theorem R6{a:f3}{c:Int}(h:c∈Zw a):∃x∈a,∃y∈a,c=y-x:=by
 unfold Zw at h;obtain⟨p,b,rfl⟩:=aP.mp h;exact⟨p.1,(hG b).1,p.2,b5 (hG b).2,rfl⟩
theorem zh:∀(n:Nat){xs:f3}{b:Nat},xs.length=n->(∀x∈xs,x.natAbs<=2^b)->∀c∈ϩ xs,c.natAbs<=2^(b+n)
 | 0,xs,b,hl,_,c,hc=>by
   rw[lA.mp hl]at hc;cases hc
 | n+1,[],b,hl,_,c,hc=>by cases hc
 | n+1,x::r,b,hl,hx,c,hc=>by
   rw[FS]at hc;rcases ax.mp hc with rfl|hc
   .exact aL (hx _ (.head _)) (bB (by decide) (by lia))
   .have h:=zh n (xs:=Zw (x::r)) (b:=b+1) (by rw[xN,hl];rfl) (λy g=>by
     obtain⟨u,f,v,e,rfl⟩:=R6 g;have a:=hx u f;have d:=hx v e;rw[eV,Nat.mul_two];exact aL (Int.natAbs_sub_le _ _) (by first|exact gB a d|exact gB d a)) c hc
    rw[show b+(n+1)=b+1+n by lia];exact h
theorem zz{F:Nat->Int}{b:Nat}:∀{k:Nat},(∀i,i<k->(F i).natAbs<=2^b)->(Λ k F).natAbs<=k*2^b
 | 0,_=>by show(0:Int).natAbs<=_;lia
 | k+1,h=>by
   have a:=zz (F:=F) (k:=k) λi d=>h i (by lia);have c:=h k (by lia);show(Λ k F+F k).natAbs<=_;rw[eT,jC];exact aL (iR _ _) (gB a c)
theorem LI{cs:f3}{z:Int}(d:-100<=z)(a:z+1<=2^64)(e:cs.length<=24)(cb:∀c∈cs,c.natAbs<=2^15000):(gT cs z 0).natAbs<=2^21405:=by
 have h:=vI (x:=64) (b:=15000) d a (by decide) (cs:=cs) (k:=0) (by lia) cb;refine aL h ?_;have f:(2:Nat)^21405=32*2^(15000+64*100):=by rw[show 21405=5+(15000+64*100)from rfl,eR 2 5]
 rw[f];exact cY _ (aL e (by decide))
theorem Fc{b a:f3}{c:Nat}{z:Int}{g:Nat}(n:-70<=z)(o:z+1<=2^64)(j:g<=24)(h:c<=1000000)(i:b.length<=24)(f:a.length<=24)(k:∀c∈b,c.natAbs<=2^15000)(l:∀c∈a,c.natAbs<=2^15000):(Ϲ b a c z g).natAbs<=2^42810:=by
 unfold Ϲ;have m:τ c g+1<=2^25:=by
  unfold τ;have d:(g+1)*c<=25*1000000:=bP (by lia) h;have e:(2:Nat)^25=33554432:=rfl
  lia
 have d:(Τ a (τ c g) 0).natAbs<=2^21405:=LI (z:=((τ c g:Nat):Int)) (by lia) (by lia) f l;have e:(gT b (z-(g:Int)) 0).natAbs<=2^21405:=LI (by lia) (by lia) i k;rw[jW,show 42810=21405+21405 from rfl,eR];exact bP d e
theorem Jj{m:Nat}{d a:f3}{c:Nat}{z:Int}(t:m<=24)(o:-70<=z)(q:z+1<=2^64)(h:c<=1000000)(f:d.length<=24)(k:a.length<=24)(l:∀c∈d,c.natAbs<=2^15000)(r:∀c∈a,c.natAbs<=2^15000):∀x∈ϩ (ϰ m (Ϲ d a c z)),x.natAbs<ϫ:=λx p=>by
 have n:(ϰ m (Ϲ d a c z)).length=m:=by unfold ϰ;rw[aa,bD]
 have:=zh m (b:=42815) n (λy e=>by
  unfold ϰ at e;obtain⟨j,g,rfl⟩:=aP.mp e;have s:=bU.mp g;refine aL (zz λi u=>Fc o q (show i<=24 by lia) h f k l r) ?_;rw[show 42815=5+42810 from rfl,eR 2 5];exact cY _ (show j<=2^5 by lia)) x p
 exact hW this (by lia)
theorem B9(a:f3):(ϩ a).length=a.length:=by
 unfold ϩ;generalize (λi=>a.getD i 0)=f
 induction a.length generalizing f with
 | zero=>rfl
 | succ n ih=>show(_::Xl n _).length=_;rw[aF,ih]
section
variable{fr be:Int->Bool}{ws:Int->Nat->Int}
theorem qT{a b:Int}(d:1<=a)(c:1<=b):1<=a*b:=de d c (by decide) (by lia)
theorem pG:∀{ks:f3},(∀k∈ks,∀n,1<=ws k n)->∀n,1<=ς fr be ws ks n
 | [],_,_=>ce _
 | k::ks,h,n=>by
   have a:=h k (.head _);have b:=pG (ks:=ks) λx c=>h x (.tail _ c);show 1<=if fr k=true then _ else if be k=true then _ else _;split
   .show 1<=Λ n _+ws k n*ς fr be ws ks (n-n);have:=Fp (k:=n) (f:=λi=>ws k i*ς fr be ws ks (n-i)) λi _=>bE (by decide) (qT (a i) (b (n-i)));have:=qT (a n) (b (n-n))
    lia
   .split
    .exact qT (a _) (b _)
    .exact qT (a _) (b _)
variable{m r:Int}{l:hU}{d:f5}{j:gb}{c:gb}{o:f3}
theorem sZ(g:Good m l)(R:ζ m l r d j):∀(n:Nat){v:Int},0<=v->v<m->m.toNat-j v<=n->∀h,1<=wy m l r d j fr be c v h
 | 0,v,h0,h1,e=>by have:=kH R h0 h1;lia
 | n+1,v,h0,h1,e=>by
   rw[jE g R h0 h1];refine pG λk p i=>?_;obtain⟨a,q,b⟩:=(bw g R h0 h1).mp p;have f:=R.pos a.1 a.2 q;rw[b]at f;exact sZ g R n a.1 a.2 (by lia) _
theorem Ct(g:Good m l)(R:ζ m l r d j)(O:Order m r d o){k:Int}(a:0<=k)(b:k<m)(e:k≠r):ο m l r d j k*tup l d k<=ο m l r d j (d k):=by
 have p:=(R.up k a b e).1;have:=(Jr g R O).std k ((O.all k a b).resolve_left e);rw[gM a b,gM p.1 p.2]at this;exact this
theorem De(g:Good m l)(R:ζ m l r d j)(O:Order m r d o){k:Int}(a:0<=k)(f:k<m)(b:k≠r)(h:(c k:Int)=tup l d k)(i:Nat):ο m l r d j k*((τ (c k) i:Nat)+1)<=ο m l r d j (d k)*((i:Int)+1):=by
 have w:=Ct g R O a f b;have t:=(fT g R a f b).1;have e:((τ (c k) i:Nat):Int)+1=tup l d k*((i:Int)+1):=by
  unfold τ;have:1<=(i+1)*c k:=bP (show 1<=i+1 by lia) (show 1<=c k by lia);rw[jI this,fj,h,fE];simp
 rw[e,<-gc];exact bu w (by lia)
theorem vA{w a b:Int}(h:1<=w)(f:0<=a)(e:w*a<=b):a<=b:=bE (by have:=bu h f;lia) e
theorem IG(g:Good m l)(R:ζ m l r d j)(O:Order m r d o)(y:∀k,0<=k->k<m->k≠r->(c k:Int)=tup l d k){x:Nat}{v:Int}(q:0<=v)(n:v<m)(u:∀k∈kd m l r d v,∀h:Nat,ο m l r d j k*((h:Int)+1)<=2^x->0<=wy m l r d j fr be c k h/\wy m l r d j fr be c k h<=2^(x*ϐ m l r d j k)){ks:f3}(p:∀k∈ks,k∈kd m l r d v){h:Nat}(e:ο m l r d j v*((h:Int)+1)<=2^x):ς fr be (λk g=>wy m l r d j fr be c k (τ (c k) g)) ks h<=2^(x*(ks.map λk=>ϐ m l r d j k+1).sum):=by
 have w:=(ff g R q n).1;have:=(vB (fr:=fr) (be:=be) (ws:=λk g=>wy m l r d j fr be c k (τ (c k) g)) (X:=h) (x:=x) (by rw[dG];exact vA w (by lia) e) (a:=λk=>x*ϐ m l r d j k) (ks:=ks) (λk f i z=>by
  obtain⟨b,s,t⟩:=(bw g R q n).mp (p k f);refine u k (p k f) _ (bE (De g R O b.1 b.2 s (y k b.1 b.2 s) i) ?_);rw[t];exact bE (cj (by lia) (by lia)) e) h (ap _)).2
 refine bE this (zP ?_);rw[g6];exact qW λk _=>by rw[eT,g6];lia
theorem Ia(g:Good m l)(R:ζ m l r d j)(O:Order m r d o)(f:∀k,0<=k->k<m->k≠r->(c k:Int)=tup l d k){x:Nat}:∀(n:Nat){v:Int},0<=v->v<m->m.toNat-j v<=n->∀h:Nat,ο m l r d j v*((h:Int)+1)<=2^x->0<=wy m l r d j fr be c v h/\wy m l r d j fr be c v h<=2^(x*ϐ m l r d j v)
 | 0,v,h0,h1,e=>by have:=kH R h0 h1;lia
 | n+1,v,h0,h1,e=>λh q=>by
   refine⟨bE (by decide) (sZ g R _ h0 h1 (ap _) h),?_⟩;rw[jE g R h0 h1,<-gj g R h0 h1];refine IG g R O f h0 h1 (λk b i s=>?_) (λk b=>b) q;obtain⟨a,u,p⟩:=(bw g R h0 h1).mp b;have t:=R.pos a.1 a.2 u;rw[p]at t;exact Ia g R O f n a.1 a.2 (by lia) i s
end
section
variable{m r w:Int}{i:hU}{b:f5}{d:gb}{o p j:f5}
structure YZ(m:Int)(i:hU)(r:Int)(b:f5)(d:gb)(w:Int)(o p:f5):Prop where
 rt:o r=w-1
 up:∀v,0<=v->v<m->v≠r->o v=(p v+1)*tup i b v-1/\(p v≠0->ο m i r b d v*tup i b v=ο m i r b d (b v))
 su:∀v,0<=v->v<m->kd m i r b v≠[]->((kd m i r b v).map p).sum=o v
theorem YZ.Φ(g:Good m i)(R:ζ m i r b d)(N:YZ m i r b d w o p)(h:∀v,0<=v->v<m->j v=if kd m i r b v=[]then o v else 0):∀(n:Nat)(v:Int),m.toNat-d v=n->0<=v->v<m->Pb.Φ m i r b d j (Η i b) v=o v
 | 0,v,e,h0,h1=>by
   have:=kH R h0 h1
   lia
 | n+1,v,e,h0,h1=>by
   rw[nF g R h0 h1,h v h0 h1];have s:∀u∈bR m i (front r b v) v,Η i b u (Pb.Φ m i r b d j (Η i b) u)=p u:=λu k=>by
    obtain⟨a,f,l⟩:=(bw g R h0 h1).mp k;have q:=R.pos a.1 a.2 f;rw[l]at q;rw[YZ.Φ g R N h n u (by lia) a.1 a.2,(N.up u a.1 a.2 f).1];exact IV (fT g R a.1 a.2 f).1
   rw[qM s];by_cases c:kd m i r b v=[]
   .rw[aj c,show bR m i (front r b v) v=[]from c];exact lq _
   .rw[ag c,N.su v h0 h1 c];exact cQ _
theorem YZ.sums(g:Good m i)(R:ζ m i r b d)(N:YZ m i r b d w o p)(q:∀v,0<=v->v<m->j v=if kd m i r b v=[]then o v else 0):∀(n:Nat)(v:Int),m.toNat-d v=n->0<=v->v<m->((bO m i r b d v).map λu=>j u-ο m i r b d u*(tup i b u-1)).sum=ο m i r b d v*o v-ο m i r b d v*(tup i b v-1)
 | 0,v,e,h0,h1=>by
   have:=kH R h0 h1
   lia
 | n+1,v,e,h0,h1=>by
   rw[fM g R h0 h1,aq,aN,vD];have B:∀u∈bR m i (front r b v) v,((bO m i r b d u).map λu=>j u-ο m i r b d u*(tup i b u-1)).sum=ο m i r b d v*p u:=λu x=>by
    obtain⟨f,s,t⟩:=(bw g R h0 h1).mp x;have A:=R.pos f.1 f.2 s;rw[t]at A;obtain⟨y,h⟩:=N.up u f.1 f.2 s;rw[YZ.sums g R N q n u (by lia) f.1 f.2,y];rw[t]at h;generalize ο m i r b d v=V at h ⊢;generalize ο m i r b d u=W at h ⊢;generalize tup i b u=k at h ⊢;by_cases c:p u=0
    .rw[c,cQ,dP,lC]
     lia
    .rw[<-h c,gS,gS,eE,cM,iL,dP,gc,fE (p u)]
     lia
   have z:∀l:List Int,(l.map λu=>ο m i r b d v*p u).sum=ο m i r b d v*(l.map p).sum:=λl=>by
    induction l with
    | nil=>exact(lC _).symm
    | cons a l ih=>rw[aq,aq,aN,aN,ih,cM]
   rw[qM B,z,q v h0 h1];by_cases c:kd m i r b v=[]
   .have w1:ο m i r b d v=1:=by
     show fo mx m i r b d _ _ v=1;rw[sC g R h0 h1,show bR m i (front r b v) v=[]from c]
     rfl
    rw[aj c,w1,show bR m i (front r b v) v=[]from c];show o v-_+1*0=_
    lia
   .rw[ag c,N.su v h0 h1 c]
    lia
theorem YZ.total(g:Good m i)(R:ζ m i r b d)(N:YZ m i r b d w o p)(l:∀v,0<=v->v<m->j v=if kd m i r b v=[]then o v else 0)(c:0<=r)(k:r<m){a:f3}(s:bO m i r b d r=r::a)(O:Order m r b a):((b6 m.toNat).map j).sum=gE m i r b (dD m i r b d) w:=by
 have h:=YZ.sums g R N l _ r rfl c k;rw[s,vM,N.rt]at h;have n:((r::a).map j).sum=((b6 m.toNat).map j).sum:=by
  refine sN ((gK O.nd (hZ _) λx=>?_).map _);rw[ax,dN];refine⟨λh=>?_,λh=>O.all x h.1 (by have:=h.2;lia)⟩;rcases h with h|h
  .rw[h];exact⟨c,by lia⟩
  .have:=O.Χ x h;exact⟨this.1,by lia⟩
 rw[<-n];unfold gE;rw[<-O.sums,show(dD m i r b d).getD r.toNat 0=ο m i r b d r from gM c k];have q:(a.map (Zv i b (dD m i r b d))).sum=(a.map λu=>ο m i r b d u*(tup i b u-1)).sum:=by
  refine qM λu e=>?_;unfold Zv tup;rw[show(dD m i r b d).getD u.toNat 0=ο m i r b d u from gM (O.Χ u e).1 (O.Χ u e).2]
 rw[q];rw[aq (f:=λu=>ο m i r b d u*(tup i b u-1)),aN]at h
 lia
theorem IX(g:Good m i)(R:ζ m i r b d){B:Int}(l:∀v,0<=j v/\j v<=B):∀(n:Nat)(v:Int),m.toNat-d v=n->0<=v->v<m->Pb.Φ m i r b d j (Η i b) v<=B*((ϐ m i r b d v:Int)+1)
 | 0,v,e,h0,h1=>by
   have:=kH R h0 h1
   lia
 | n+1,v,e,h0,h1=>by
   have x:∀f:List Int,(∀k∈f,k∈kd m i r b v)->(f.map λc=>Η i b c (Pb.Φ m i r b d j (Η i b) c)).sum<=B*((f.map λk=>ϐ m i r b d k+1).sum:Nat):=λf s=>by
    induction f with
    | nil=>exact Int.le_of_eq (lC _).symm
    | cons u f ih=>
      have:=ih λk h=>s k (.tail _ h);obtain⟨a,t,z⟩:=(bw g R h0 h1).mp (s u (.head _));have A:=R.pos a.1 a.2 t;rw[z]at A;have q:=IX g R l n u (by lia) a.1 a.2;have y:=xF (m:=m) (r:=r) (par:=b) (dep:=d) g (λv=>(l v).1) u;have C:=(fT g R a.1 a.2 t).1;rw[aq,aq,aN,aN,dG,cM];have:Η i b u (Pb.Φ m i r b d j (Η i b) u)<=Pb.Φ m i r b d j (Η i b) u:=by
       show _/tup i b u<=_;exact Int.ediv_le_self _ y
      have e:((ϐ m i r b d u+1:Nat):Int)=(ϐ m i r b d u:Int)+1:=rfl;rw[e]
      lia
   have:=x _ λk h=>h;rw[nF g R h0 h1];rw[gj g R h0 h1]at this;have:=(l v).2;rw[cM,iL];exact bE (Int.add_le_add this (x _ λk h=>h)) (by rw[gj g R h0 h1];lia)
end
theorem Rm{m r w:Int}{d:hU}{a:f5}{b:gb}(g:Good m d)(R:ζ m d r a b)(i:0<=r)(h:r<m)(s:1<=w):ο m d r a b r*w<=3*gE m d r a (dD m d r a b) w+1:=by
 have o:∀x∈((b6 m.toNat).filter λv=>decide (v≠r)).map (Zv d a (dD m d r a b)),0<=x:=λx t=>by
  obtain⟨v,n,rfl⟩:=aP.mp t;obtain⟨n,u⟩:=bG.mp n;obtain⟨j,A⟩:=dN.mp n;have l:v<m:=by lia
  have q:2<=(cN d v (a v)).getD 1:=(fT g R j l (bN u)).1;unfold Zv;rw[show(dD m d r a b).getD v.toNat 0=ο m d r a b v from gM j l];exact cX (by have:=(ff g R j l).1;lia) (by lia)
 have B:=(ff g R i h).1;have D:=EU o;have y:=cX (show 0<=ο m d r a b r by lia) (show 0<=w-1 by lia);have e:ο m d r a b r*w=ο m d r a b r*(w-1)+ο m d r a b r:=by rw[gS,iL];lia
 unfold gE;rw[show(dD m d r a b).getD r.toNat 0=ο m d r a b r from gM i h,e];by_cases c:kd m d r a r=[]
 .have s:ο m d r a b r=1:=by
   show fo mx m d r a b _ _ r=1;rw[sC g R i h,show bR m d (front r a r) r=[]from c]
   rfl
  lia
 .obtain⟨k,hk,ek⟩:=t9 g R i h c;obtain⟨f,p,z⟩:=(bw g R i h).mp hk;have q:=(fT g R f.1 f.2 p).1;have E:=(ff g R f.1 f.2).1;have:=CT o (aP.mpr ⟨k,bG.mpr ⟨dN.mpr ⟨f.1,by lia⟩,bh p⟩,rfl⟩);unfold Zv at this;rw[show(dD m d r a b).getD k.toNat 0=ο m d r a b k from gM f.1 f.2,show(cN d k (a k)).getD 1=tup d a k from rfl,gS,iL,ek]at this;have C:ο m d r a b k*2<=ο m d r a b r:=by rw[<-ek];exact cj q (by lia)
  unfold Zv
  lia
theorem R7{h b N W:Int}{i f D a:Nat}(d:h.natAbs<=i*2^(50000+600*a-590))(l:b.natAbs<=2^50000)(c:N.natAbs<=2^(50000+600*f))(m:0<=W/\W<=2^(D*(45+20*D)))(n:f+1+D<=a)(k:a<=23):IntMulOk N W/\(h+b+N*W).natAbs<=(i+1)*2^(50000+600*a-590):=by
 have g:W.natAbs<=2^(600*D):=aL (rq m) (bB (by decide) (by rw[g6 600];exact jM _ (by lia)));refine⟨qA (hW c (by lia)) (hW g (by lia)),?_⟩;have p:(N*W).natAbs<=2^(50000+600*a-591):=by
  rw[jW];refine aL (bP c g) ?_;rw[<-eR];exact bB (by decide) (by lia)
 have j:b.natAbs<=2^(50000+600*a-591):=aL l (bB (by decide) (by lia));have e:2^(50000+600*a-590)=2^(50000+600*a-591)*2:=by rw[<-eV];congr 1;lia
 rw[eT,jC];generalize i*2^(50000+600*a-590)=I at d ⊢;rw[e];generalize 2^(50000+600*a-591)=X at p j ⊢;refine aL (iR _ _) (aL (gB (aL (iR _ _) (gB d j)) p) ?_);rw[Nat.mul_two,Nat.add_assoc];exact ap _
theorem Rz{m:Nat}{cs csk:f3}{c:Nat}{z:Int}{g:Nat}(u:m<=24)(q:-70<=z)(s:z+1<=2^64)(o:(g:Int)+1<=2^64)(h:c<=1000000)(d:cs.length<=24)(n:csk.length<=24)(p:∀c∈cs,c.natAbs<=2^15000)(t:∀c∈csk,c.natAbs<=2^15000):(Τ (ϩ (ϰ m (Ϲ cs csk c z))) g 0).natAbs<=2^50000:=by
 have a:(ϩ (ϰ m (Ϲ cs csk c z))).length=m:=by rw[B9];unfold ϰ;rw[aa,bD]
 have l:∀x∈ϩ (ϰ m (Ϲ cs csk c z)),x.natAbs<=2^(42815+m):=zh m (by unfold ϰ;rw[aa,bD]) λx r=>by
  obtain⟨j,e,rfl⟩:=aP.mp r;rw[bU]at e;have f:=zz (F:=Ϲ cs csk c z) (b:=42810) (k:=j) λi v=>Fc q s (by lia) h d n p t;refine aL f (aL (cY _ (show j<=2^5 by lia)) (kQ (eR ..).symm))
 have:=vI (z:=(g:Int)) (x:=64) (by lia) o (by decide) (cs:=ϩ (ϰ m (Ϲ cs csk c z))) (k:=0) (by lia) l;rw[pH,a]at this;refine aL this (aL (cY _ (show m<=2^5 by lia)) ?_);rw[<-eR];exact bB (by decide) (by lia)
section
variable{m r w:Int}{d:hU}{b:f5}{c:gb}
theorem Ur{p:Int->Bool}{l:f3}{j:Nat}{u:Int}(h:l[j]?=some u)(a:p u=true):(l.take (j+1)).filter p=(l.take j).filter p++[u]:=by
 rw[cA,h,b4];exact congrArg _ (eJ a)
theorem IC{p:Int->Bool}{l:f3}{j:Nat}{u:Int}(h:l[j]?=some u)(a:p u=false):(l.take (j+1)).filter p=(l.take j).filter p:=by
 rw[cA,h,b4];exact(congrArg _ (dF (by rw[a];decide))).trans (bH _)
variable{f o k g t:f3}{n e:f5}{v a:Int}{i j:Nat}
end
section
variable{X:Cx}{x:Str}{p a o:Pos}{e:Expr}{d:List Expr}{u:TE}{t:TA}{y:XK->TE}
theorem ε(i:Nat)(n:Zt X.env.scope x:=by exact .of (by kernel_rfl))(b:X.N[i]?=some x:=by rfl):PE X (.Name x a) (xI i):=pvl i n b
theorem bY(i:Nat)(n:YS X.env.scope x:=by exact .of (by kernel_rfl))(b:X.N[i]?=some x:=by rfl):PE X (.Name x a) (xI i):=pvc i n b
theorem ϒ(i:Nat)(f:X.N.Nodup:=by exact bN (by kernel_rfl))(c:X.N[i]?=some x:=by rfl)(b:X.env.scope.names.lookup x=some .local:=by kernel_rfl):PG X (.Name x a) (vc i):=fe f c (.inl b) (.inr b)
theorem Δ(i:Nat)(f:PE X e u)(c:X.N.Nodup:=by exact bN (by kernel_rfl))(g:X.N[i]?=some x:=by rfl)(b:X.env.scope.names.lookup x=some .local:=by kernel_rfl)(h:swapsWith e (some (.Name x o)) a.line X.env=pure false:=by rfl):PS X (.Assign [.Name x o] e a) (CA u (vc i)):=uH c g (.inl b) f h (.inr b)
variable{s:Xd}{k j:Nat}{f:Addr}{fd:FuncData}{g:hD}{h:Sp}{l:Stmt}
theorem pcq(D:Df X.K X.mg x l g f fd)(F:ϓ X.prog X.w X.K X.mg X.base s k f fd g h)(z:ϋ j X.A)(q:cg s)(B:PA X (e::d) t)(r:k<=j:=by decide)(v:X.env.scope.names.lookup x=some .globalImplicit:=by kernel_rfl)(c:(x==("__debug__":Str))=false:=by kernel_rfl)(n:starEach (e::d) X.env=(false,eval e X.env)::starEach d X.env:=by rfl)(i:(backTo a (starEach d X.env)).any (·.1)=false:=by rfl):PE X (.Call (.Name x p) (e::d) [] a) (vF h [] E0 t):=qk F (z.mono r) v D.m D.F.kp D.b .nil (t7 q) B c n i
theorem pcx{E:XK}(D:Df X.K X.mg x l g f fd)(F:ϓ X.prog X.w X.K X.mg X.base s k f fd g h)(z:ϋ j X.A)(r:rf s X E)(B:PA X (e::d) t)(q:k<=j:=by decide)(v:X.env.scope.names.lookup x=some .globalImplicit:=by kernel_rfl)(c:(x==("__debug__":Str))=false:=by kernel_rfl)(n:starEach (e::d) X.env=(false,eval e X.env)::starEach d X.env:=by rfl)(i:(backTo a (starEach d X.env)).any (·.1)=false:=by rfl):PE X (.Call (.Name x p) (e::d) [] a) (vF h [] E t):=qk F (z.mono q) v D.m D.F.kp D.b .nil r B c n i
structure Cb(P:Program)(w:World)(K:gg)(mg:g8)(base:Heap)(x:Str)(l:Stmt)(g:hD)(k:Nat)(h:Sp) where
 f:Addr
 fd:FuncData
 D:Df K mg x l g f fd
 G:ϓ P w K mg base (Ε P w) k f fd g h
def cb{P:Program}{w:World}{K:gg}{b:g8}{base:Heap}(D:Df K b x l g f fd)(G:ϓ P w K b base (Ε P w) k f fd g h):Cb P w K b base x l g k h:=⟨f,fd,D,G⟩
theorem Ν(c:Cb X.prog X.w X.K X.mg X.base x l g k h)(r:ϋ j X.A)(q:cg (Ε X.prog X.w))(v:PA X (e::d) t)(m:k<=j:=by decide)(n:X.env.scope.names.lookup x=some .globalImplicit:=by kernel_rfl)(hdb:(x==("__debug__":Str))=false:=by kernel_rfl)(i:starEach (e::d) X.env=(false,eval e X.env)::starEach d X.env:=by rfl)(b:(backTo a (starEach d X.env)).any (·.1)=false:=by rfl):PE X (.Call (.Name x p) (e::d) [] a) (vF h [] E0 t):=pcq c.D c.G r q v m n hdb i b
theorem ϡ{E:XK}(c:Cb X.prog X.w X.K X.mg X.base x l g k h)(r:ϋ j X.A)(n:rf (Ε X.prog X.w) X E)(v:PA X (e::d) t)(m:k<=j:=by decide)(q:X.env.scope.names.lookup x=some .globalImplicit:=by kernel_rfl)(hdb:(x==("__debug__":Str))=false:=by kernel_rfl)(i:starEach (e::d) X.env=(false,eval e X.env)::starEach d X.env:=by rfl)(b:(backTo a (starEach d X.env)).any (·.1)=false:=by rfl):PE X (.Call (.Name x p) (e::d) [] a) (vF h [] E t):=pcx c.D c.G r n v m q hdb i b
variable{v T:String}{r:List V->Hp->VK->Prop}
theorem W6(i:lD X (.builtin v) r)(w:X.mg x=none)(z:PA X (e::d) t)(c:bootBuiltins x=some (.builtin v):=by kernel_rfl)(q:X.env.scope.names.lookup x=some .globalImplicit:=by kernel_rfl)(hn:decide (x="__name__")=false:=by kernel_rfl)(b:(x==("__debug__":Str))=false:=by kernel_rfl)(n:starEach (e::d) X.env=(false,eval e X.env)::starEach d X.env:=by rfl)(m:(backTo a (starEach d X.env)).any (·.1)=false:=by rfl):PE X (.Call (.Name x p) (e::d) [] a) (tCB r t):=FA i q w c z (of_decide_eq_false hn) b n m
theorem Za(c:lD X (.type T) r)(q:X.mg x=none)(w:PA X (e::d) t)(b:bootBuiltins x=some (.type T):=by kernel_rfl)(n:X.env.scope.names.lookup x=some .globalImplicit:=by kernel_rfl)(hn:decide (x="__name__")=false:=by kernel_rfl)(hdb:(x==("__debug__":Str))=false:=by kernel_rfl)(m:starEach (e::d) X.env=(false,eval e X.env)::starEach d X.env:=by rfl)(i:(backTo a (starEach d X.env)).any (·.1)=false:=by rfl):PE X (.Call (.Name x p) (e::d) [] a) (tCB r t):=DH c n q b w (of_decide_eq_false hn) hdb m i
end
inductive E3{A0 A1 A2:Type}(p:A0->A1->A2->Prop):Prop
 | mk (a0:A0) (a1:A1) (a2:A2) (h:p a0 a1 a2):E3 p
inductive E4{A0 A1 A2 A3:Type}(p:A0->A1->A2->A3->Prop):Prop
 | mk (a0:A0) (a1:A1) (a2:A2) (a3:A3) (h:p a0 a1 a2 a3):E4 p
inductive E5{A0 A1 A2 A3 A4:Type}(p:A0->A1->A2->A3->A4->Prop):Prop
 | mk (a0:A0) (a1:A1) (a2:A2) (a3:A3) (a4:A4) (h:p a0 a1 a2 a3 a4):E5 p
inductive E6{A0 A1 A2 A3 A4 A5:Type}(p:A0->A1->A2->A3->A4->A5->Prop):Prop
 | mk (a0:A0) (a1:A1) (a2:A2) (a3:A3) (a4:A4) (a5:A5) (h:p a0 a1 a2 a3 a4 a5):E6 p
inductive E7{A0 A1 A2 A3 A4 A5 A6:Type}(p:A0->A1->A2->A3->A4->A5->A6->Prop):Prop
 | mk (a0:A0) (a1:A1) (a2:A2) (a3:A3) (a4:A4) (a5:A5) (a6:A6) (h:p a0 a1 a2 a3 a4 a5 a6):E7 p
inductive E8{A0 A1 A2 A3 A4 A5 A6 A7:Type}(p:A0->A1->A2->A3->A4->A5->A6->A7->Prop):Prop
 | mk (a0:A0) (a1:A1) (a2:A2) (a3:A3) (a4:A4) (a5:A5) (a6:A6) (a7:A7) (h:p a0 a1 a2 a3 a4 a5 a6 a7):E8 p
inductive E9{A0 A1 A2 A3 A4 A5 A6 A7 A8:Type}(p:A0->A1->A2->A3->A4->A5->A6->A7->A8->Prop):Prop
 | mk (a0:A0) (a1:A1) (a2:A2) (a3:A3) (a4:A4) (a5:A5) (a6:A6) (a7:A7) (a8:A8) (h:p a0 a1 a2 a3 a4 a5 a6 a7 a8):E9 p
inductive E10{A0 A1 A2 A3 A4 A5 A6 A7 A8 A9:Type}(p:A0->A1->A2->A3->A4->A5->A6->A7->A8->A9->Prop):Prop
 | mk (a0:A0) (a1:A1) (a2:A2) (a3:A3) (a4:A4) (a5:A5) (a6:A6) (a7:A7) (a8:A8) (a9:A9) (h:p a0 a1 a2 a3 a4 a5 a6 a7 a8 a9):E10 p
inductive E11{A0 A1 A2 A3 A4 A5 A6 A7 A8 A9 Wu:Type}(p:A0->A1->A2->A3->A4->A5->A6->A7->A8->A9->Wu->Prop):Prop
 | mk (a0:A0) (a1:A1) (a2:A2) (a3:A3) (a4:A4) (a5:A5) (a6:A6) (a7:A7) (a8:A8) (a9:A9) (Yk:Wu) (h:p a0 a1 a2 a3 a4 a5 a6 a7 a8 a9 Yk):E11 p
inductive E12{A0 A1 A2 A3 A4 A5 A6 A7 A8 A9 Wu W7:Type}(p:A0->A1->A2->A3->A4->A5->A6->A7->A8->A9->Wu->W7->Prop):Prop
 | mk (a0:A0) (a1:A1) (a2:A2) (a3:A3) (a4:A4) (a5:A5) (a6:A6) (a7:A7) (a8:A8) (a9:A9) (Yk:Wu) (Y0:W7) (h:p a0 a1 a2 a3 a4 a5 a6 a7 a8 a9 Yk Y0):E12 p
inductive E16{A0 A1 A2 A3 A4 A5 A6 A7 A8 A9 Wu W7 XH XI XJ XM:Type}(p:A0->A1->A2->A3->A4->A5->A6->A7->A8->A9->Wu->W7->XH->XI->XJ->XM->Prop):Prop
 | mk (a0:A0) (a1:A1) (a2:A2) (a3:A3) (a4:A4) (a5:A5) (a6:A6) (a7:A7) (a8:A8) (a9:A9) (Yk:Wu) (Y0:W7) (Zy:XH) (Zz:XI) (ZA:XJ) (ZC:XM) (h:p a0 a1 a2 a3 a4 a5 a6 a7 a8 a9 Yk Y0 Zy Zz ZA ZC):E16 p
inductive E18{A0 A1 A2 A3 A4 A5 A6 A7 A8 A9 Wu W7 XH XI XJ XM Yz YB:Type}(p:A0->A1->A2->A3->A4->A5->A6->A7->A8->A9->Wu->W7->XH->XI->XJ->XM->Yz->YB->Prop):Prop
 | mk (a0:A0) (a1:A1) (a2:A2) (a3:A3) (a4:A4) (a5:A5) (a6:A6) (a7:A7) (a8:A8) (a9:A9) (Yk:Wu) (Y0:W7) (Zy:XH) (Zz:XI) (ZA:XJ) (ZC:XM) (a16:Yz) (a17:YB) (h:p a0 a1 a2 a3 a4 a5 a6 a7 a8 a9 Yk Y0 Zy Zz ZA ZC a16 a17):E18 p
inductive E20{A0 A1 A2 A3 A4 A5 A6 A7 A8 A9 Wu W7 XH XI XJ XM Yz YB ZD ZE:Type}(p:A0->A1->A2->A3->A4->A5->A6->A7->A8->A9->Wu->W7->XH->XI->XJ->XM->Yz->YB->ZD->ZE->Prop):Prop
 | mk (a0:A0) (a1:A1) (a2:A2) (a3:A3) (a4:A4) (a5:A5) (a6:A6) (a7:A7) (a8:A8) (a9:A9) (Yk:Wu) (Y0:W7) (Zy:XH) (Zz:XI) (ZA:XJ) (ZC:XM) (a16:Yz) (a17:YB) (a18:ZD) (a19:ZE) (h:p a0 a1 a2 a3 a4 a5 a6 a7 a8 a9 Yk Y0 Zy Zz ZA ZC a16 a17 a18 a19):E20 p
inductive E21{A0 A1 A2 A3 A4 A5 A6 A7 A8 A9 Wu W7 XH XI XJ XM Yz YB ZD ZE A20:Type}(p:A0->A1->A2->A3->A4->A5->A6->A7->A8->A9->Wu->W7->XH->XI->XJ->XM->Yz->YB->ZD->ZE->A20->Prop):Prop
 | mk (a0:A0) (a1:A1) (a2:A2) (a3:A3) (a4:A4) (a5:A5) (a6:A6) (a7:A7) (a8:A8) (a9:A9) (Yk:Wu) (Y0:W7) (Zy:XH) (Zz:XI) (ZA:XJ) (ZC:XM) (a16:Yz) (a17:YB) (a18:ZD) (a19:ZE) (a20:A20) (h:p a0 a1 a2 a3 a4 a5 a6 a7 a8 a9 Yk Y0 Zy Zz ZA ZC a16 a17 a18 a19 a20):E21 p
inductive E22{A0 A1 A2 A3 A4 A5 A6 A7 A8 A9 Wu W7 XH XI XJ XM Yz YB ZD ZE A20 A21:Type}(p:A0->A1->A2->A3->A4->A5->A6->A7->A8->A9->Wu->W7->XH->XI->XJ->XM->Yz->YB->ZD->ZE->A20->A21->Prop):Prop
 | mk (a0:A0) (a1:A1) (a2:A2) (a3:A3) (a4:A4) (a5:A5) (a6:A6) (a7:A7) (a8:A8) (a9:A9) (Yk:Wu) (Y0:W7) (Zy:XH) (Zz:XI) (ZA:XJ) (ZC:XM) (a16:Yz) (a17:YB) (a18:ZD) (a19:ZE) (a20:A20) (a21:A21) (h:p a0 a1 a2 a3 a4 a5 a6 a7 a8 a9 Yk Y0 Zy Zz ZA ZC a16 a17 a18 a19 a20 a21):E22 p
inductive E23{A0 A1 A2 A3 A4 A5 A6 A7 A8 A9 Wu W7 XH XI XJ XM Yz YB ZD ZE A20 A21 A22:Type}(p:A0->A1->A2->A3->A4->A5->A6->A7->A8->A9->Wu->W7->XH->XI->XJ->XM->Yz->YB->ZD->ZE->A20->A21->A22->Prop):Prop
 | mk (a0:A0) (a1:A1) (a2:A2) (a3:A3) (a4:A4) (a5:A5) (a6:A6) (a7:A7) (a8:A8) (a9:A9) (Yk:Wu) (Y0:W7) (Zy:XH) (Zz:XI) (ZA:XJ) (ZC:XM) (a16:Yz) (a17:YB) (a18:ZD) (a19:ZE) (a20:A20) (a21:A21) (a22:A22) (h:p a0 a1 a2 a3 a4 a5 a6 a7 a8 a9 Yk Y0 Zy Zz ZA ZC a16 a17 a18 a19 a20 a21 a22):E23 p
def clK(e:hD)(b:Nat)(c:List Nat)(N:hD)(a d:Scope):Bool:=(a.names.all λy=>decide (y.2≠.cell))&&decide (a.kind=.function)&&(a.names.all λy=>decide (y.2=.local->a.names.lookup y.1=some .local))&&decide (e.length=b+c.length)&&(a.names.all λy=>decide (y.2=.free->d.names.lookup y.1=some .cell))&&decide (d.kind=.function)&&(List.range c.length).all λi=>match e[b+i]?,c[i]? with
 | some x,some j=>decide (N[j]?=some x)&&decide (a.names.lookup x=some .free)
 | _,_=>false
theorem YC{X:Cx}{scope:Scope}(Nc:hD)(a:Nat)(b:List Nat)(h:clK Nc a b X.N scope X.env.scope=true:=by kernel_rfl)(l:∀x,X.env.scope.names.lookup x=some .cell->∃c,X.env.cells.lookup x=some c:=by exact λ_ h=>zx h):ϥ X Nc a b scope (sI X.env.cells scope.names []):=by
 unfold clK at h;simp only[b9,bM,dX,bU]at h;obtain⟨⟨⟨⟨⟨⟨e,g⟩,d⟩,m⟩,n⟩,k⟩,f⟩:=h;refine Rn a b e g d m n k l λi o=>?_;have q:=f i o;split at q
 .rename_i x j e1 e2
  simp only[b9,bM]at q;exact⟨x,j,e1,e2,q.1,q.2⟩
 .cases q
abbrev Ok(P:Program)(w:World)(K:gg)(b:g8)(a:Heap)(x:Str)(st:Stmt)(c:hD)(k:Nat)(e:Sp):Prop:=∀(f:Addr)(d:FuncData),Df K b x st c f d->ϓ P w K b a (Ε P w) k f d c e
section
variable{X:Cx}{a b:Expr}{e d:TE}{c:Pos}
theorem Ι{r:R2}(h:IxR X r)(i:PE X a e)(f:PE X b d)(g:Ig b:=by exact λ_ _=>rfl):PE X (.Subscript a b c) (tOp r e d):=mQ h i f g
theorem Ϻ{f:CmpOp}{r:R2}(i:iS X (compareOp f) r)(k:PE X a e)(g:PE X b d)(h:f≠.In:=by decide)(j:f≠.NotIn:=by decide):PT X (.Compare a [f] [b] c) (Bw (tOp r e d)):=Dm i k g (m5 _ h j)
end
theorem Gr(d:Int)(r:f3)(n:Nat):Τ (d::r) (n+1) 0-Τ (d::r) n 0=Τ r n 0:=by
 have:=MY d r (n:Int);rw[show(n:Int)+1=((n+1:Nat):Int)from rfl,pH,pH,pH]at this;exact this
theorem FK:∀{cs:f3},(∀n,Τ cs n 0=0)->∀c∈cs,c=0
 | [],_=>λ_ h=>(nomatch h)
 | d::r,h=>by
   have a:=h 0;rw[IP]at a;have b:=FK (cs:=r) λn=>by rw[<-Gr d r n,h,h];rfl
   intro c hc;rcases ax.mp hc with e|hc
   .rw[e];exact a
   .exact b c hc
theorem zJ:∀{a:f3},(∀c∈a,c=0)->∀(z:Int)(k:Nat),gT a z k=0
 | [],_,z,k=>oE z k
 | d::r,h,z,k=>by
   rw[jP,h d (.head _),zJ (λc b=>h c (.tail _ b)) z (k+1),Int.zero_mul]
   rfl
theorem DS:∀(D:Nat){cs:f3}{f:Nat->Int},(∀n,Τ cs n 0=f n)->Pd D f->∀z:Int,Pd D (λg:Nat=>gT cs (z-(g:Int)) 0)
 | _,[],_,_,_,z=>Pd.zero (λn=>oE _ _) _
 | 0,d::r,f,h,hf,z=>by
   have i:∀c∈r,c=0:=FK λn=>by
    rw[<-Gr d r n,h,h];have k:f (n+1)=f n:=by
     have a:=hf (n+1);have b:=hf n
     lia
    lia
   intro n;show gT (d::r) _ 0=gT (d::r) _ 0;rw[jP,jP,sV,sV,zJ i,zJ i]
 | D+1,d::r,f,h,hf,z=>by
   have j:=(DS D (cs:=r) (f:=dl f) (λn=>by rw[<-Gr d r n,h,h];rfl) hf (z-1)).smul (-1);show Pd D (dl λg:Nat=>gT (d::r) (z-(g:Int)) 0);have e:(dl λg:Nat=>gT (d::r) (z-(g:Int)) 0)=λg:Nat=>-1*gT r (z-1-(g:Int)) 0:=by
    funext g
    show gT (d::r) (z-((g+1:Nat):Int)) 0-gT (d::r) (z-(g:Int)) 0=_;have:=MY d r (z-1-(g:Int));rw[show z-1-(g:Int)+1=z-(g:Int) by lia]at this;rw[show z-((g+1:Nat):Int)=z-1-(g:Int) by lia,<-this]
    lia
   rw[e];exact j
theorem LW(m:Nat)(G:Nat->Int):ϩ ((List.range m).map G)=Xl m G:=by
 unfold ϩ;rw[aa,bD];exact tT λi a=>zk a
theorem Ki{d a:f3}{c m b f:Nat}{z:Int}{i h:Nat->Int}(o:∀n,Τ d n 0=i n)(q:Pd b i)(k:∀n,Τ a n 0=h n)(r:Pd f h)(p:1<=c)(t:f+b+1<m)(g:Nat):Τ (ϩ (ϰ m (Ϲ d a c z))) g 0=Λ g (Ϲ d a c z):=by
 have j:Pd f (λg=>Τ a (τ c g) 0):=by
  have e:(λg=>Τ a (τ c g) 0)=λg=>h (c*g+(c-1)):=by
   funext g
   rw[k,Jp p]
  rw[e];exact r.lin c (c-1)
 have l:Pd b (λg:Nat=>gT d (z-(g:Int)) 0):=DS b o q z;have s:Pd (f+b) (Ϲ d a c z):=Pd.mul _ (ap _) j l;unfold ϰ;rw[LW];exact Az m s.Λ t g
theorem S8{d b:f3}{c a g:Nat}{e f:Nat->Int}(i:∀n,Τ d n 0=e n)(j:∀n,Τ b n 0=f n)(h:g<=a):Ϲ d b c (a:Int) g=f (τ c g)*e (a-g):=by
 unfold Ϲ;rw[show(a:Int)-(g:Int)=((a-g:Nat):Int) by lia,pH,i,j]
section
variable{fr be:Int->Bool}{o:Int->Nat->Int}
def lE(fr be:Int->Bool)(o:Int->Nat->Int)(k:Int)(b:f3)(a g:Nat):Int:=if fr k=true then Λ g (λi=>o k i*ς fr be o b (a-i))else 0
inductive Rk(fr be:Int->Bool)(o:Int->Nat->Int):List Int->Nat->List (Int×Nat×Int)->Int->Prop
 | nil (left:Nat):Rk fr be o [] left [] 0
 | cons {k:Int} {ks:f3} {left g:Nat} {n nu:Int} {cs:hL} (hg:g<=left) (hb:fr k=false->be k=true->g=left) (he:fr k=false->be k=false->g=0) (n0:0<=n) (n1:n<o k g) (h:Rk fr be o ks (left-g) cs nu):Rk fr be o (k::ks) left ((k,g,n)::cs) (lE fr be o k ks left g+n*ς fr be o ks (left-g)+nu)
theorem Bx{f:Nat->Int}{a b:Nat}(h:∀i,0<=f i)(l:a<=b):Λ a f<=Λ b f:=by
 induction l with
 | refl=>exact ce _
 | step _ ih=>exact bE ih (by show Λ _ f<=Λ _ f+f _;have:=h (by assumption);lia)
theorem Rk.lt{ks:f3}{d:Nat}{r:hL}{j:Int}(h:Rk fr be o ks d r j):(∀k∈ks,∀i,1<=o k i)->0<=j/\j<ς fr be o ks d:=by
 induction h with
 | nil d=>intro _;exact⟨ce _,show(0:Int)<1 by decide⟩
 | @cons k ks d g n j r hg hb he n0 n1 h q=>
   intro m;have q:=q λx w=>m x (.tail _ w);have p:=m k (.head _);have l:=pG (fr:=fr) (be:=be) (ws:=o) (ks:=ks) (λk v i=>m k (.tail _ v) i);have t:0<=n*ς fr be o ks (d-g):=cX n0 (by have:=l (d-g);lia);have top:n*ς fr be o ks (d-g)+j<o k g*ς fr be o ks (d-g):=by
    have:(n+1)*ς fr be o ks (d-g)<=o k g*ς fr be o ks (d-g):=bu (by lia) (by have:=l (d-g);lia);rw[eE,dP]at this
    lia
   have u:∀i,0<=o k i*ς fr be o ks (d-i):=λi=>cX (by have:=p i;lia) (by have:=l (d-i);lia);unfold lE;by_cases c:fr k=true
   .rw[aj c,qC c];have a:=Fp (f:=λi=>o k i*ς fr be o ks (d-i)) (k:=g) λi _=>u i;have b:Λ (g+1) (λi=>o k i*ς fr be o ks (d-i))<=W5 (o k) (ς fr be o ks) d:=Bx u (by lia);have e:Λ (g+1) (λi=>o k i*ς fr be o ks (d-i))=Λ g (λi=>o k i*ς fr be o ks (d-i))+o k g*ς fr be o ks (d-g):=rfl
    lia
   .rw[ag c];have s:fr k=false:=(by simpa using c);by_cases b:be k=true
    .rw[py c b];have:=hb s b;subst this;rw[d7]at top t ⊢;show _/\_<o k g*ς fr be o ks 0
     lia
    .rw[pi c b];have:=he s (by simpa using b);subst this;rw[gW]at top t ⊢;show _/\_<o k 0*ς fr be o ks d
     lia
theorem MM{k:Int}{ks:f3}(n:∀x∈k::ks,∀i,1<=o x i){d g:Nat}{f:Int}(u:0<=f)(h:f<ς fr be o (k::ks) d)(q:g<=d)(p:fr k=false->be k=true->g=d)(m:fr k=false->be k=false->g=0)(s:fr k=true->(g=0\/Λ g (λi=>o k i*ς fr be o ks (d-i))<=f)/\(g=d\/f<Λ (g+1) (λi=>o k i*ς fr be o ks (d-i)))):0<=(f-lE fr be o k ks d g)/ς fr be o ks (d-g)/\(f-lE fr be o k ks d g)/ς fr be o ks (d-g)<o k g/\0<=(f-lE fr be o k ks d g)%ς fr be o ks (d-g)/\(f-lE fr be o k ks d g)%ς fr be o ks (d-g)<ς fr be o ks (d-g):=by
 have t:=pG (fr:=fr) (be:=be) (ws:=o) (ks:=ks) (λx r i=>n x (.tail _ r) i) (d-g);have j:0<=f-lE fr be o k ks d g/\f-lE fr be o k ks d g<o k g*ς fr be o ks (d-g):=by
  unfold lE;by_cases c:fr k=true
  .rw[aj c];obtain⟨a,b⟩:=s c;rw[qC c]at h;have e:Λ (g+1) (λi=>o k i*ς fr be o ks (d-i))=Λ g (λi=>o k i*ς fr be o ks (d-i))+o k g*ς fr be o ks (d-g):=rfl;refine⟨?_,?_⟩
   .rcases a with a|a
    .rw[a];show 0<=f-0;lia
    .lia
   .rcases b with b|b
    .have:f<Λ (g+1) (λi=>o k i*ς fr be o ks (d-i)):=(by rw[b];rw[b]at q;exact h)
     lia
    .lia
  .rw[ag c];have l:fr k=false:=(by simpa using c);by_cases b:be k=true
   .rw[py c b]at h;have:=p l b;subst this;rw[d7];exact⟨by lia,by show f-0<_;rw[nJ];exact h⟩
   .rw[pi c b]at h;have:=m l (by simpa using b);subst this;rw[gW];exact⟨by lia,by show f-0<_;rw[nJ];exact h⟩
 exact⟨ip j.1 (by lia),Int.ediv_lt_of_lt_mul (by lia) j.2,dH _ (by lia),cR _ (by lia)⟩
theorem Rk.inj{ks:f3}{d:Nat}{z:hL}{f:Int}(h:Rk fr be o ks d z f):(∀k∈ks,∀i,1<=o k i)->∀{y:hL}{w:Int},Rk fr be o ks d y w->f=w->z=y:=by
 induction h with
 | nil d=>intro _ y w m _;cases m;rfl
 | @cons k ks d g n f z hg hb he n0 n1 h ih=>
   intro C y w m e;have v:∀x∈ks,∀i,1<=o x i:=λx B=>C x (.tail _ B);have A:=C k (.head _);cases m with
   | @cons _ _ _ g' m' adQ aoq hg' Zb he' m0 m1 m=>
     have q:=pG (fr:=fr) (be:=be) (ws:=o) (ks:=ks) (λx B i=>v x B i);have D:∀i,0<=o k i*ς fr be o ks (d-i):=λi=>cX (by have:=A i;lia) (by have:=q (d-i);lia);have j:∀{g:Nat}{n f:Int},0<=n->n<o k g->0<=f->f<ς fr be o ks (d-g)->0<=n*ς fr be o ks (d-g)+f/\n*ς fr be o ks (d-g)+f<o k g*ς fr be o ks (d-g):=λ{g n f} n0 n1 a b=>by
      have p:=cX n0 (show 0<=ς fr be o ks (d-g) by have:=q (d-g);lia);have:(n+1)*ς fr be o ks (d-g)<=o k g*ς fr be o ks (d-g):=bu (by lia) (by have:=q (d-g);lia);rw[eE,dP]at this
      lia
     have r:=h.lt v;have t:=m.lt v;have J:=j n0 n1 r.1 r.2;have K:=j m0 m1 t.1 t.2;have E:g=g':=by
      by_cases c:fr k=true
      .unfold lE at e;rw[aj c,aj c]at e;have s:∀g:Nat,Λ (g+1) (λi=>o k i*ς fr be o ks (d-i))=Λ g (λi=>o k i*ς fr be o ks (d-i))+o k g*ς fr be o ks (d-g):=λ_=>rfl;rcases iB g g' with l|l|l
       .have u:=Bx D (show g+1<=g' by lia);rw[s]at u
        lia
       .exact l
       .have u:=Bx D (show g'+1<=g by lia);rw[s]at u
        lia
      .have cf:fr k=false:=(by simpa using c);by_cases b:be k=true
       .rw[hb cf b,Zb cf b]
       .rw[he cf (by simpa using b),he' cf (by simpa using b)]
     subst E;have H:n*ς fr be o ks (d-g)+f=m'*ς fr be o ks (d-g)+adQ:=(by lia);have G:n=m':=by
      have I:(n*ς fr be o ks (d-g)+f)/ς fr be o ks (d-g)=n:=by
       rw[nS,ja _ _ (by have:=q (d-g);lia),jf r.1 r.2,cQ]
      have F:(m'*ς fr be o ks (d-g)+adQ)/ς fr be o ks (d-g)=m':=by
       rw[nS,ja _ _ (by have:=q (d-g);lia),jf t.1 t.2,cQ]
      rw[<-I,<-F,H]
     subst G;rw[ih v m (by lia)]
theorem Rk.go{a:f3}{z i b g:Nat}{l d k:Int}{m:hL}(q:a[i]?=some k)(B:∀x∈a,∀i,1<=o x i)(P:∀f,Rk fr be o (a.drop i) b f d->Rk fr be o a z (m++f) l)(C:0<=d)(r:d<ς fr be o (a.drop i) b)(w:g<=b)(t:fr k=false->be k=true->g=b)(p:fr k=false->be k=false->g=0)(F:fr k=true->(g=0\/Λ g (λj=>o k j*ς fr be o (a.drop (i+1)) (b-j))<=d)/\(g=b\/d<Λ (g+1) (λj=>o k j*ς fr be o (a.drop (i+1)) (b-j)))):0<=(d-lE fr be o k (a.drop (i+1)) b g)%ς fr be o (a.drop (i+1)) (b-g)/\(d-lE fr be o k (a.drop (i+1)) b g)%ς fr be o (a.drop (i+1)) (b-g)<ς fr be o (a.drop (i+1)) (b-g)/\(0<=(d-lE fr be o k (a.drop (i+1)) b g)/ς fr be o (a.drop (i+1)) (b-g)/\(d-lE fr be o k (a.drop (i+1)) b g)/ς fr be o (a.drop (i+1)) (b-g)<o k g)/\∀f,Rk fr be o (a.drop (i+1)) (b-g) f ((d-lE fr be o k (a.drop (i+1)) b g)%ς fr be o (a.drop (i+1)) (b-g))->Rk fr be o a z ((m++[(k,g,(d-lE fr be o k (a.drop (i+1)) b g)/ς fr be o (a.drop (i+1)) (b-g))])++f) l:=by
 have u:=(az.mp q).1;have G:a[i]=k:=bi ((ao u).symm.trans q);have A:a.drop i=k::a.drop (i+1):=by rw[ck u,G]
 rw[A]at r P;have n:∀x∈k::a.drop (i+1),∀i,1<=o x i:=λx y=>B x (by rw[<-A]at y;exact b5 y);obtain⟨s,v,D,E⟩:=MM n C r w t p F;refine⟨D,E,⟨s,v⟩,λf h=>?_⟩;have c:=Rk.cons w t p s v h;have e:lE fr be o k (a.drop (i+1)) b g+(d-lE fr be o k (a.drop (i+1)) b g)/ς fr be o (a.drop (i+1)) (b-g)*ς fr be o (a.drop (i+1)) (b-g)+(d-lE fr be o k (a.drop (i+1)) b g)%ς fr be o (a.drop (i+1)) (b-g)=d:=by
  have:=mJ (d-lE fr be o k (a.drop (i+1)) b g) (ς fr be o (a.drop (i+1)) (b-g));rw[fE]at this
  lia
 rw[e]at c;rw[bX];exact P _ c
theorem Ij{m r:Int}{b:hU}{a:f5}{e:gb}{c:gb}(G:Good m b)(R:ζ m b r a e)(s:∀v,0<=v->v<m->v≠r->1<=c v/\c v<=1000000){v k:Int}{i D I:Nat}{y n:f3}(q:0<=v)(p:v<m)(u:(kd m b r a v)[i]?=some k)(w:Ϗ D y (ς fr be (λk g=>wy m b r a e fr be c k (τ (c k) g)) ((kd m b r a v).drop (i+1))))(A:Ϗ I n (wy m b r a e fr be c k)){left g:Nat}(L:g<=left+1):(if fr k=true then Τ (ϩ (ϰ m.toNat (Ϲ y n (c k) (left:Int)))) g 0 else 0)=lE fr be (λk g=>wy m b r a e fr be c k (τ (c k) g)) k ((kd m b r a v).drop (i+1)) left g:=by
 unfold lE;by_cases f:fr k=true
 .rw[aj f,aj f];obtain⟨t,F,J⟩:=(bw G R q p).mp (aQ u);have h:∀x∈(kd m b r a v).drop (i+1),(0<=x/\x<m)/\x≠r/\a x=v:=λx l=>(bw G R q p).mp (b5 l);have B:=(xP (fr:=fr) (be:=be) (W:=wy m b r a e fr be c) (c:=c) (d:=ϐ m b r a e) (ks:=(kd m b r a v).drop (i+1)) (λx l=>AD G R s _ (h x l).1.1 (h x l).1.2 (ap _)) λx l=>s x (h x l).1.1 (h x l).1.2 (h x l).2.1).1;have C:=(AD (fr:=fr) (be:=be) G R s _ t.1 t.2 (ap _)).1;have z:=(az.mp u).1;have H:(kd m b r a v)[i]=k:=bi ((ao z).symm.trans u);have E:=sU (λk=>ϐ m b r a e k+1) (kd m b r a v) i;rw[gj G R q p,ck z,H,aq,aN]at E;have dl:=mr G R q p;rw[Ki w.val B A.val C (s k t.1 t.2 F).1 (by lia) g];exact rz λj K=>S8 w.val A.val (by lia)
 .rw[ag f,ag f]
end
section
variable{fr be:Int->Bool}{d:Int->Nat->Int}
theorem Rk.fst{b:f3}{a:Nat}{c:hL}{e:Int}(h:Rk fr be d b a c e):c.map (·.1)=b:=by
 induction h with
 | nil=>rfl
 | cons _ _ _ _ _ _ ih=>rw[aq,ih]
theorem Rk.Yl{k:Int}{b:f3}{a g:Nat}{n e:Int}{f:hL}(h:Rk fr be d (k::b) a ((k,g,n)::f) e):g<=a/\∃c,Rk fr be d b (a-g) f c/\e=lE fr be d k b a g+n*ς fr be d b (a-g)+c:=by
 cases h with
 | cons hg _ _ _ _ h=>exact⟨hg,_,h,rfl⟩
theorem Rk.dO{a:Nat}{c:hL}{b:Int}(h:Rk fr be d [] a c b):b=0:=by
 cases h
 rfl
theorem Rk.bd{e:f3}{a:Nat}{b:hL}{c:Int}(h:Rk fr be d e a b c):∀x∈b,(0<=x.2.2/\x.2.2<d x.1 x.2.1)/\x.2.1<=a/\(fr x.1=false->be x.1=false->x.2.1=0):=by
 induction h with
 | nil=>intro x hx;cases hx
 | cons hg hb he n0 n1 h ih=>
   intro x hx;rcases ax.mp hx with rfl|hx
   .exact⟨⟨n0,n1⟩,hg,he⟩
   .have:=ih x hx;exact⟨this.1,by lia,this.2.2⟩
theorem Rk.sum{e:f3}{a:Nat}{c:hL}{g:Int}(h:Rk fr be d e a c g):(c.map (·.2.1)).sum<=a/\((∃k∈e,fr k=false/\be k=true)->(c.map (·.2.1)).sum=a):=by
 induction h with
 | nil=>exact⟨bj _,λ⟨_,h,_⟩=>(by cases h)⟩
 | cons hg hb he n0 n1 h ih=>
   obtain⟨j,i⟩:=ih;rw[aq,aN];dsimp only;refine⟨by lia,λ⟨k,hk,f,b⟩=>?_⟩;rcases ax.mp hk with rfl|hk
   .have:=hb f b
    lia
   .have:=i ⟨k,hk,f,b⟩
    lia
theorem Mn(f:Nat->Int)(b:Int):∀a:Nat,∃g,g<=a/\(g=0\/Λ g f<=b)/\(g=a\/b<Λ (g+1) f)
 | 0=>⟨0,ap _,.inl rfl,.inl rfl⟩
 | n+1=>by
   obtain⟨g,h,e,h3⟩:=Mn f b n;by_cases c:Λ (n+1) f<=b
   .exact⟨n+1,ap _,.inr c,.inl rfl⟩
   .rcases h3 with h3|h3
    .subst h3;exact⟨g,by lia,e,.inr (by lia)⟩
    .exact⟨g,by lia,e,.inr h3⟩
theorem Rk.ex:∀{f:f3}{e:Nat}{j:Int},(∀k∈f,∀i,1<=d k i)->0<=j->j<ς fr be d f e->∃m,Rk fr be d f e m j
 | [],e,j,_,h0,h1=>by
   have:j=0:=by have:j<1:=h1;lia
   subst this;exact⟨_,.nil _⟩
 | k::f,e,j,hw,h0,h1=>by
   obtain⟨g,o,n,l,u⟩:∃g,g<=e/\(fr k=false->be k=true->g=e)/\(fr k=false->be k=false->g=0)/\(fr k=true->(g=0\/Λ g (λi=>d k i*ς fr be d f (e-i))<=j)/\(g=e\/j<Λ (g+1) (λi=>d k i*ς fr be d f (e-i)))):=by
    cases ef:fr k with
    | true=>
      obtain⟨g,a,b,c⟩:=Mn (λi=>d k i*ς fr be d f (e-i)) j e;exact⟨g,a,λz=>(by cases z),λz=>(by cases z),λ_=>⟨b,c⟩⟩
    | false=>
      cases eb:be k with
      | true=>exact⟨e,ap _,λ_ _=>rfl,λ_ z=>(by cases z),λz=>(by cases z)⟩
      | false=>exact⟨0,bj _,λ_ z=>(by cases z),λ_ _=>rfl,λz=>(by cases z)⟩
   obtain⟨p,q,r,t⟩:=MM hw h0 h1 o n l u;obtain⟨m,h⟩:=Rk.ex (λx s=>hw x (.tail _ s)) r t;have c:=Rk.cons o n l p q h;have:=mJ (j-lE fr be d k f e g) (ς fr be d f (e-g));rw[fE]at this;rw[show lE fr be d k f e g+(j-lE fr be d k f e g)/ς fr be d f (e-g)*ς fr be d f (e-g)+(j-lE fr be d k f e g)%ς fr be d f (e-g)=j by lia]at c;exact⟨_,c⟩
def Y1(a:hL)(x:Int):Nat×Int:=((a.find? λy=>decide (y.1=x)).map (·.2)).getD (0,0)
theorem IY:∀{cs:hL},(cs.map (·.1)).Nodup->cs=(cs.map (·.1)).map λx=>(x,(Y1 cs x).1,(Y1 cs x).2)
 | [],_=>rfl
 | y::cs,h=>by
   rw[aq]at h;obtain⟨b,c⟩:=bg.mp h;have e:Y1 (y::cs) y.1=y.2:=by unfold Y1;rw[List.find?_cons_of_pos (by simp)];rfl
   rw[aq,aq,e];refine congrArg (y::·) ((IY c).trans (bZ λx a=>?_));have:Y1 (y::cs) x=Y1 cs x:=by
    unfold Y1;rw[List.find?_cons_of_neg (by simp;intro z;exact b (z▸a))]
   rw[this]
end
section
variable{m r:Int}{rs:hU}{d:f5}{dep:gb}{fr be:Int->Bool}{c:gb}
structure ϳ(m:Int)(rs:hU)(r:Int)(d:f5)(dep:gb)(fr be:Int->Bool)(c:gb)(cn gv:gb)(nb:f5):Prop where
 up:∀v,0<=v->v<m->v≠r->cn v=τ (c v) (gv v)
 at_:∀v,0<=v->v<m->Rk fr be (λk g=>wy m rs r d dep fr be c k (τ (c k) g)) (kd m rs r d v) (cn v) ((kd m rs r d v).map λk=>(k,gv k,nb k)) (nb v)
theorem uE(g:Good m rs)(R:ζ m rs r d dep){v:Int}(b:0<=v)(f:v<m):∀k∈kd m rs r d v,∀i,1<=(λk g=>wy m rs r d dep fr be c k (τ (c k) g)) k i:=λk e i=>by
 have a:=((bw g R b f).mp e).1;exact sZ g R _ a.1 a.2 (ap _) _
theorem ϳ.bd{f h:gb}{e:f5}(N:ϳ m rs r d dep fr be c f h e)(g:Good m rs)(R:ζ m rs r d dep){v:Int}(a:0<=v)(b:v<m):0<=e v/\e v<wy m rs r d dep fr be c v (f v):=by
 rw[jE g R a b];exact(N.at_ v a b).lt (uE g R a b)
theorem ϳ.kid{h a:gb}{k:f5}(N:ϳ m rs r d dep fr be c h a k)(g:Good m rs)(R:ζ m rs r d dep){v:Int}(i:0<=v)(j:v<m)(e:v≠r):v∈kd m rs r d (d v)/\a v<=h (d v)/\(fr v=false->be v=false->a v=0):=by
 have p:=(R.up v i j e).1;have f:v∈kd m rs r d (d v):=(bw g R p.1 p.2).mpr ⟨⟨i,j⟩,e,rfl⟩;have b:=(N.at_ _ p.1 p.2).bd (v,a v,k v) (aP.mpr ⟨v,f,rfl⟩);exact⟨f,b.2.1,b.2.2⟩
theorem ϳ.inj{i u k h:gb}{j l:f5}(N:ϳ m rs r d dep fr be c i u j)(f:ϳ m rs r d dep fr be c k h l)(g:Good m rs)(R:ζ m rs r d dep)(o:i r=k r)(s:j r=l r):∀(n:Nat)(v:Int),dep v=n->0<=v->v<m->i v=k v/\j v=l v
 | 0,v,e,h0,h1=>by
   by_cases b:v=r
   .rw[b];exact⟨o,s⟩
   .have:=R.pos h0 h1 b
    lia
 | n+1,v,e,h0,h1=>by
   have b:v≠r:=λz=>by have:=R.root;rw[z]at e;lia
   have p:=(R.up v h0 h1 b).1;obtain⟨x,w⟩:=ϳ.inj N f g R o s n (d v) (by have:=R.pos h0 h1 b;lia) p.1 p.2;have a:=N.at_ _ p.1 p.2;rw[x]at a;have q:=a.inj (uE g R p.1 p.2) (f.at_ _ p.1 p.2) w;have t:=List.map_inj_left.mp q v (N.kid g R h0 h1 b).1;injection t with _ t
   injection t with t1 t2
   rw[N.up v h0 h1 b,f.up v h0 h1 b,t1];exact⟨rfl,t2⟩
def Xa(F:Int->Nat->Int->List (Int×Nat×Int))(d:f5)(c:gb)(z:Nat)(a:Int):Nat->Int->Nat×Nat×Int
 | 0,_=>(z,0,a)
 | n+1,v=>let q:=Y1 (F (d v) (Xa F d c z a n (d v)).1 (Xa F d c z a n (d v)).2.2) v
   (τ (c v) q.1,q.1,q.2)
theorem ϳ.ex(g:Good m rs)(R:ζ m rs r d dep){z:Nat}{f:Int}(J:0<=r)(I:r<m)(H:0<=f)(E:f<wy m rs r d dep fr be c r z):∃(w D:gb)(y:f5),ϳ m rs r d dep fr be c w D y/\w r=z/\y r=f:=by
 let F:Int->Nat->Int->List (Int×Nat×Int):=λv h n=>Classical.epsilon λcs=>Rk fr be (λk g=>wy m rs r d dep fr be c k (τ (c k) g)) (kd m rs r d v) h cs n
 have t:∀v h n,0<=v->v<m->0<=n->n<wy m rs r d dep fr be c v h->Rk fr be (λk g=>wy m rs r d dep fr be c k (τ (c k) g)) (kd m rs r d v) h (F v h n) n:=λv h n q o a b=>by
  rw[jE g R q o]at b;exact Classical.epsilon_spec (Rk.ex (uE g R q o) a b)
 have s:∀v h n,0<=v->v<m->0<=n->n<wy m rs r d dep fr be c v h->F v h n=(kd m rs r d v).map λx=>(x,(Y1 (F v h n) x).1,(Y1 (F v h n) x).2):=λv h n q o a b=>by
  have e:=(t v h n q o a b).fst;have:=IY (cs:=F v h n) (by rw[e];exact nZ);rw[e]at this;exact this
 have st:∀v,0<=v->v<m->v≠r->Xa F d c z f (dep v) v=(τ (c v) (Y1 (F (d v) (Xa F d c z f (dep (d v)) (d v)).1 (Xa F d c z f (dep (d v)) (d v)).2.2) v).1,(Y1 (F (d v) (Xa F d c z f (dep (d v)) (d v)).1 (Xa F d c z f (dep (d v)) (d v)).2.2) v).1,(Y1 (F (d v) (Xa F d c z f (dep (d v)) (d v)).1 (Xa F d c z f (dep (d v)) (d v)).2.2) v).2):=λv q o l=>by
  rw[R.pos q o l]
  rfl
 have u:Xa F d c z f (dep r) r=(z,0,f):=by rw[R.root];rfl
 have bd:∀(n:Nat)(v:Int),dep v=n->0<=v->v<m->0<=(Xa F d c z f (dep v) v).2.2/\(Xa F d c z f (dep v) v).2.2<wy m rs r d dep fr be c v (Xa F d c z f (dep v) v).1:=λn=>by
  induction n with
  | zero=>
    intro v e j i;by_cases l:v=r
    .rw[l,u];exact⟨H,E⟩
    .have:=R.pos j i l
     lia
  | succ n ih=>
    intro v e j i;have l:v≠r:=λz=>by have:=R.root;rw[z]at e;lia
    have p:=(R.up v j i l).1;obtain⟨a,b⟩:=ih (d v) (by have:=R.pos j i l;lia) p.1 p.2;have k:=s (d v) _ _ p.1 p.2 a b;have:=(t (d v) _ _ p.1 p.2 a b).bd (v,_,_) (by rw[k];exact aP.mpr ⟨v,(bw g R p.1 p.2).mpr ⟨⟨j,i⟩,l,rfl⟩,rfl⟩);rw[st v j i l];exact this.1
 refine⟨λv=>(Xa F d c z f (dep v) v).1,λv=>(Xa F d c z f (dep v) v).2.1,λv=>(Xa F d c z f (dep v) v).2.2,⟨λv j i l=>?_,λv j i=>?_⟩,?_,?_⟩
 .show(Xa F d c z f (dep v) v).1=τ (c v) (Xa F d c z f (dep v) v).2.1;rw[st v j i l]
 .obtain⟨a,b⟩:=bd _ v rfl j i;have h:=t v _ _ j i a b;have e:=s v _ _ j i a b;rw[e]at h;refine(?_:List.map _ _=List.map _ _)▸h;refine bZ λk C=>?_;obtain⟨A,G,B⟩:=(bw g R j i).mp C;rw[st k A.1 A.2 G,B]
 .show(Xa F d c z f (dep r) r).1=z;rw[u]
 .show(Xa F d c z f (dep r) r).2.2=f;rw[u]
theorem Dr(f:gb):∀l:List Int,(l.map λk=>(f k:Int)).sum=((l.map f).sum:Nat)
 | []=>rfl
 | a::l=>by rw[aq,aq,aN,aN,Dr f l];rfl
theorem CB{c i:Nat}(h:1<=c):((τ c i:Nat):Int)=((i:Int)+1)*c-1:=by
 unfold τ;have:1<=(i+1)*c:=bP (show 1<=i+1 by lia) h;rw[jI this,fj]
 rfl
theorem ϳ.spr{a b:gb}{h:f5}(N:ϳ m rs r d dep fr be c a b h)(g:Good m rs)(R:ζ m rs r d dep)(hc:∀k,0<=k->k<m->k≠r->(c k:Int)=tup rs d k)(e:∀k,0<=k->k<m->k≠r->fr k=true\/be k=true->ο m rs r d dep k*tup rs d k=ο m rs r d dep (d k))(f:∀v,0<=v->v<m->kd m rs r d v≠[]->∃k∈kd m rs r d v,fr k=false/\be k=true):YZ m rs r d dep (a r+1) (λv=>(a v:Int)) λv=>(b v:Int) where
 rt:=by lia
 up v h0 h1 vr:=by
  refine⟨?_,λz=>e v h0 h1 vr ?_⟩
  .rw[N.up v h0 h1 vr,CB (by have:=hc v h0 h1 vr;have:=(fT g R h0 h1 vr).1;lia),hc v h0 h1 vr]
  .have q:=(N.kid g R h0 h1 vr).2.2;cases ef:fr v with
   | true=>exact .inl rfl
   | false=>
     cases eb:be v with
     | true=>exact .inr rfl
     | false=>exact absurd (q ef eb) (by lia)
 su v h0 h1 kn:=by
  have s:=(N.at_ v h0 h1).sum.2 (f v h0 h1 kn);rw[cZ]at s;rw[Dr,<-s]
  rfl
theorem ϳ.adR{j q:gb}{y:f5}(N:ϳ m rs r d dep fr be c j q y)(g:Good m rs)(R:ζ m rs r d dep){a:f3}(O:Order m r d a)(w:∀k,fr k=(decide (ο m rs r d dep k*tup rs d k=ο m rs r d dep (d k))&&decide (bV m rs r d dep a (d k)≠some k)))(t:∀k,be k=decide (bV m rs r d dep a (d k)=some k))(z:∀k,c k=(tup rs d k).toNat):YZ m rs r d dep (j r+1) (λv=>(j v:Int)) λv=>(q v:Int):=by
 have B:=EY g R O;refine N.spr g R (λk l o n=>?_) (λk l o n h=>?_) λv i f x=>?_
 .rw[z k];exact br (by have:=(fT g R l o n).1;lia)
 .have p:=(R.up k l o n).1;rcases h with h|h
  .rw[w k,b9]at h;exact bN h.1
  .rw[t k]at h;exact(B.hv _ _ p.1 p.2 (bN h)).2
 .cases e:bV m rs r d dep a v with
  | none=>exact absurd (B.no v i f e) x
  | some b=>
    have u:=(B.hv v b i f e).1;have s:=((bw g R i f).mp u).2.2;refine⟨b,u,?_,?_⟩
    .rw[w b,s,e];simp
    .rw[t b,s,e];simp
theorem Jn{w:Int}(e:0<=r)(b:r<m){t:f3}(O:Order m r d t):gE m rs r d (dD m rs r d dep) w=(t.map (hol m rs r d dep)).sum+ο m rs r d dep r*(w-1):=by
 unfold gE;rw[<-O.sums,show(dD m rs r d dep).getD r.toNat 0=ο m rs r d dep r from gM e b,nS];refine congrArg (·+_) (qM λu a=>?_);unfold Zv hol upT;rw[show(dD m rs r d dep).getD u.toNat 0=ο m rs r d dep u from gM (O.Χ u a).1 (O.Χ u a).2]
end
end Pb
namespace PySem.SeqAt
open AutoSeq1 (wpAny_loadPart')
open MeetsSeq MeetsSeq2 MeetsSeq3 SeqRoads2
def Θ:List Int->List Int->Bool
 | a::as,b::bs=>if a=b then Θ as bs else decide (a<b)
 | _,_=>false
theorem Nd(l b:Addr)(a p:Array Value)(n J:Nat)(P x:Option Addr)(L C:Array (Option Value))(y:a.size=p.size)(c e:f3)(V:c.length=a.size)(U:e.length=a.size)(K:∀j (H:j<a.size),∃t,a[j]=.int (c.getD j 0) t)(Q:∀j (H:j<p.size),∃t,p[j]=.int (e.getD j 0) t)(k:Nat):∀i:Nat,a.size-i=k->Meets (Builtin.«list.__eq__.loop» ⟨[.ref l,.ref b,rawInt i,rawInt 0],[]⟩)
 (λA R s=>s.heap.get? l=some { cls:=.type "list",dict:=P,data:=.seq a n,slots:=L }/\s.heap.get? b=some { cls:=.type "list",dict:=x,data:=.seq p J,slots:=C }/\R (.ok (.ret (.bool (Θ (c.drop i) (e.drop i))))) s):=by
 induction k with
 | zero=>
   intro i G f w A R s h;obtain⟨O,g,d,S,os⟩:=s;obtain⟨q,r,h⟩:=h
   wp_walk using wpAny_loadPart' q,g9 r
   have o:a[((i:Nat):Int).toNat]?=none:=by simp;lia
   have m:p[((i:Nat):Int).toNat]?=none:=by simp;lia
   have T:c.drop i=[]:=by simp;lia
   rw[T]at h;rw[o,m]
   wp_walk using wpAny_loadPart' q,g9 r
   show R (.ok (.ret (.bool (decide (a.size<p.size))))) _;rw[y,bA (cW _)];exact h
 | succ k ih=>
   intro i G f w A R s h;obtain⟨O,g,d,S,os⟩:=s;obtain⟨q,r,h⟩:=h
   wp_walk using wpAny_loadPart' q,g9 r
   have E:i<a.size:=by lia
   have u:i<p.size:=by lia
   obtain⟨D,M⟩:=K i E;obtain⟨F,I⟩:=Q i u;have o:a[((i:Nat):Int).toNat]?=some (.int (c.getD i 0) D):=by simp[E,M]
   have m:p[((i:Nat):Int).toNat]?=some (.int (e.getD i 0) F):=by simp[u,I]
   have z:c.drop i=c.getD i 0::c.drop (i+1):=by rw[ck (by lia),aX,ao (by lia)];rfl
   have B:e.drop i=e.getD i 0::e.drop (i+1):=by rw[ck (by lia),aX,ao (by lia)];rfl
   have N:((i:Int)+1)=((i+1:Nat):Int):=by push_cast;rfl
   rw[z,B,Θ]at h;rw[o,m];refine ak (EqAt.int_int (c.getD i 0) D (e.getD i 0) F f w _ _ ?_);by_cases v:c.getD i 0=e.getD i 0
   .rw[aj v]at h;rw[show(c.getD i 0==e.getD i 0)=true from gR.mpr v]
    wp_walk
    rw[N];exact⟨plainId_quiet plain_eq_loop _,codeAny_builtin entry_eq_loop (by
     rw[Around.under_plainId plain_eq_loop _];exact ih (i+1) (by lia) f w A R _ ⟨q,r,h⟩)⟩
   .rw[ag v]at h;rw[show(c.getD i 0==e.getD i 0)=false from beq_eq_false_iff_ne.mpr v]
    wp_walk using wpAny_loadPart' q,g9 r
    rw[o,m];refine ak (show wpAny _ _ (compareOp .Lt _ _) _ _ _ from wpAny_lt_int ?_)
    wp_walk
    exact h
theorem LQ(l b:Addr)(a c:Array Value)(n r:Nat)(v e:Option Addr)(u f:Array (Option Value))(o:a.size=c.size)(k m:f3)(C:k.length=a.size)(B:m.length=a.size)(y:∀j (x:j<a.size),∃t,a[j]=.int (k.getD j 0) t)(z:∀j (x:j<c.size),∃t,c[j]=.int (m.getD j 0) t):Meets (Builtin.«list.__lt__» ⟨[.ref l,.ref b],[]⟩)
 (λA R s=>s.heap.get? l=some { cls:=.type "list",dict:=v,data:=.seq a n,slots:=u }/\s.heap.get? b=some { cls:=.type "list",dict:=e,data:=.seq c r,slots:=f }/\R (.ok (.ret (.bool (Θ k m)))) s):=by
 intro i w A R s h;obtain⟨D,g,d,E,os⟩:=s;obtain⟨p,q,h⟩:=h;have F:=AutoSeq1.sub_list_list
 wp_walk using wpAny_loadPart' p,g9 q
 exact⟨plainId_quiet plain_eq_loop _,codeAny_builtin entry_eq_loop (by
  rw[Around.under_plainId plain_eq_loop _];exact Nd l b a c n r v e u f o k m C B y z _ 0 rfl i w A R _ ⟨p,q,by simpa using h⟩)⟩
end PySem.SeqAt
namespace L2
open PySem PySem.W NumText
section
variable{X:Cx}
theorem zD:∀{b:f3}{a:gy},Vals (b.map V.int) a->∀j (h:j<a.length),∃t,a[j]=.int (b.getD j 0) t
 | [],_,.nil,j,h=>absurd h (jk _)
 | x::b,_,.cons r rs,0,_=>by obtain⟨t,e⟩:=(show ∃t,_=Value.int x t from r);exact⟨t,e⟩
 | x::b,_,.cons r rs,j+1,h=>zD rs j (Nat.lt_of_succ_lt_succ h)
theorem RJ{K:gg}{H:Hp}{a b:Addr}{c ys:f3}{Q:VK}(d:H a=some (.lst (c.map V.int)))(e:H b=some (.lst (ys.map V.int)))(q:Q (.bl (!decide (c=ys))) H):Nz K (.ref a) (.ref b) H Q:=⟨_,_,tY d,tY e,Av c,by rw[R4];exact q⟩
end
end L2
namespace Pb
open L2 PySem PySem.W NumText PySem.SeqAt
section
variable{j m:Int->Bool}{d:Int->Nat->Int}
theorem Rk.mk{gv:gb}{nb:f5}:∀{ks:f3}{left:Nat},(∀k∈ks,0<=nb k/\nb k<d k (gv k))->(∀k∈ks,j k=false->m k=false->gv k=0)->(∀g k c,ks=g++k::c->j k=false->m k=true->∀b∈c,gv b=0)->(ks.map gv).sum<=left->((∃k∈ks,j k=false/\m k=true)->(ks.map gv).sum=left)->∃n,Rk j m d ks left (ks.map λk=>(k,gv k,nb k)) n
 | [],left,_,_,_,_,_=>⟨0,.nil _⟩
 | k::ks,left,h1,h2,h3,h4,h5=>by
   rw[aq,aN]at h4 h5;obtain⟨n,h⟩:=Rk.mk (ks:=ks) (left:=left-gv k) (λx i=>h1 x (.tail _ i)) (λx i=>h2 x (.tail _ i)) (λg x c e=>h3 (k::g) x c (by rw[e];rfl)) (by lia) λ⟨x,i,e⟩=>by
    have:=h5 ⟨x,.tail _ i,e⟩
    lia
   refine⟨_,.cons (by lia) (λf b=>?_) (h2 k (.head _)) (h1 k (.head _)).1 (h1 k (.head _)).2 h⟩;have e:=h5 ⟨k,.head _,f,b⟩;have z:(ks.map gv).sum=0:=by
    have o:=h3 [] k ks rfl f b;clear h h1 h2 h3 h4 h5 e n
    induction ks with
    | nil=>rfl
    | cons a l ih=>rw[aq,aN,o a (.head _),ih λb p=>o b (.tail _ p)]
   lia
theorem Rk.cmp{k:Int}{ks:f3}{a g b:Nat}{n o q w:Int}{A C:hL}(z:∀x∈k::ks,∀i,1<=d x i)(h:Rk j m d (k::ks) a ((k,g,n)::A) q)(l:Rk j m d (k::ks) a ((k,b,o)::C) w):(g<b->q<w)/\(g=b->n<o->q<w):=by
 have r:∀x∈ks,∀i,1<=d x i:=λx y=>z x (.tail _ y);have v:=z k (.head _);have f:=pG (fr:=j) (be:=m) (ws:=d) (ks:=ks) (λx y i=>r x y i);cases h with
 | @cons _ _ _ _ _ nu1 _ hg hb he n0 n1 h=>
   cases l with
   | @cons _ _ _ _ _ nu2 _ hg' Zb he' m0 m1 l=>
     have B:∀i,0<=d k i*ς j m d ks (a-i):=λi=>cX (by have:=v i;lia) (by have:=f (a-i);lia);have D:=h.lt r;have E:=l.lt r;refine⟨λlt=>?_,λe lt=>?_⟩
     .have c:j k=true:=by
       cases ef:j k with
       | true=>rfl
       | false=>
         cases eb:m k with
         | true=>have:=hb ef eb;have:=Zb ef eb;lia
         | false=>have:=he ef eb;have:=he' ef eb;lia
      unfold lE;rw[aj c,aj c];have u:=Bx B (show g+1<=b by lia);have s:Λ (g+1) (λi=>d k i*ς j m d ks (a-i))=Λ g (λi=>d k i*ς j m d ks (a-i))+d k g*ς j m d ks (a-g):=rfl;rw[s]at u;have t:(n+1)*ς j m d ks (a-g)<=d k g*ς j m d ks (a-g):=bu (by lia) (by have:=f (a-g);lia);rw[eE,dP]at t;have p:=cX m0 (show 0<=ς j m d ks (a-b) by have:=f (a-b);lia)
      lia
     .subst e;have t:(n+1)*ς j m d ks (a-g)<=o*ς j m d ks (a-g):=bu (by lia) (by have:=f (a-g);lia);rw[eE,dP]at t
      lia
end
theorem Qb{A A' B B':f3}(e:A.length=A'.length):(Θ A A'=true->Θ (A++B) (A'++B')=true)/\(A=A'->Θ (A++B) (A'++B')=Θ B B'):=by
 induction A generalizing A' with
 | nil=>
   cases A' with
   | nil=>exact⟨λh=>(by cases h),λ_=>rfl⟩
   | cons a A'=>cases e
 | cons a A ih=>
   cases A' with
   | nil=>cases e
   | cons a' A'=>
     obtain⟨d,b⟩:=ih (A':=A') (by simpa using e);refine⟨λh=>?_,λh=>?_⟩
     .rw[Θ]at h;rw[fH,fH,Θ];split
      .rename_i c
       rw[aj c]at h;exact d h
      .rename_i c
       rw[ag c]at h;exact h
     .injection h with h1 h2
      rw[fH,fH,Θ,aj h1];exact b h2
theorem DI:∀{A B:f3},Θ A B=true->Θ B A=false
 | [],_,h=>by cases h
 | _::_,[],h=>by cases h
 | a::A,b::B,h=>by
   rw[Θ]at h ⊢;by_cases c:a=b
   .rw[aj c]at h;rw[aj c.symm];exact DI h
   .rw[ag c]at h;rw[ag λz=>c z.symm];have:=bN h;exact bA (by lia)
theorem Ϣ:∀A:List Int,Θ A A=false
 | []=>rfl
 | a::A=>by rw[Θ,aj rfl];exact Ϣ A
section
variable{m r:Int}{o:hU}{d:f5}{j:gb}{p q:Int->Bool}{c:gb}
theorem ϳ.abQ(g:Good m o)(R:ζ m o r d j)(X:0<=r)(W:r<m){L:f3}(et:bO m o r d j r=r::L)(O:Order m r d L)(hf:∀k,p k=(decide (ο m o r d j k*tup o d k=ο m o r d j (d k))&&decide (bV m o r d j L (d k)≠some k)))(Q:∀k,q k=decide (bV m o r d j L (d k)=some k))(N:∀k,c k=(tup o d k).toNat){w:Int}{E gv:f5}(S:YZ m o r d j w E gv)(nn:∀v,0<=v->v<m->0<=E v):∃nb,ϳ m o r d j p q c (λv=>(E v).toNat) (λv=>(gv v).toNat) nb:=by
 have K:∀v,0<=v->v<m->v≠r->0<=gv v:=λv B A G=>by
  have a:=nn v B A;have t:=(fT g R B A G).1;rw[(S.up v B A G).1]at a;by_cases z:0<=gv v
  .exact z
  .have:(gv v+1)*tup o d v<=0*tup o d v:=bu (by lia) (by lia);rw[Int.zero_mul]at this
   lia
 have up:∀v,0<=v->v<m->v≠r->(E v).toNat=τ (c v) (gv v).toNat:=λv B A G=>by
  have t:=(fT g R B A G).1;have e:=CB (c:=c v) (i:=(gv v).toNat) (by rw[N];lia);rw[N,br (K v B A G),show(((tup o d v).toNat:Nat):Int)=tup o d v from br (by lia),<-(S.up v B A G).1]at e;rw[N,<-e,bJ]
 let F:Nat->Int->Int:=Nat.rec (motive:=λ_=>Int->Int) (λ_=>0) λ_ f v=>Classical.epsilon λnu=>Rk p q (λk g=>wy m o r d j p q c k (τ (c k) g)) (kd m o r d v) (E v).toNat ((kd m o r d v).map λk=>(k,(gv k).toNat,f k)) nu
 have M:∀(n:Nat)(v:Int),0<=v->v<m->m.toNat-j v=n->Rk p q (λk g=>wy m o r d j p q c k (τ (c k) g)) (kd m o r d v) (E v).toNat ((kd m o r d v).map λk=>(k,(gv k).toNat,F (m.toNat-j k) k)) (F n v):=λn=>by
  induction n with
  | zero=>
    intro v B A e;have:=kH R B A
    lia
  | succ n ih=>
    intro v B A e;have D:∀k∈kd m o r d v,((0<=k/\k<m)/\k≠r/\d k=v)/\m.toNat-j k=n:=λk u=>by
     obtain⟨C,H,I⟩:=(bw g R B A).mp u;have pd:=R.pos C.1 C.2 H;rw[I]at pd;exact⟨⟨C,H,I⟩,by lia⟩
    rw[show((kd m o r d v).map λk=>(k,(gv k).toNat,F (m.toNat-j k) k))=(kd m o r d v).map λk=>(k,(gv k).toNat,F n k)from bZ λk u=>by rw[(D k u).2]];have J:∀k∈kd m o r d v,(gv k).toNat≠0->ο m o r d j k*tup o d k=ο m o r d j v:=λk u z=>by
     obtain⟨⟨C,H,I⟩,_⟩:=D k u;have:=(S.up k C.1 C.2 H).2 (by lia);rw[I]at this;exact this
    have P:kd m o r d v≠[]->((kd m o r d v).map λk=>(gv k).toNat).sum=(E v).toNat:=λz=>by
     have s:=S.su v B A z;rw[qM (h:=λk=>(((gv k).toNat:Nat):Int)) λk u=>(br (K k (D k u).1.1.1 (D k u).1.1.2 (D k u).1.2.1)).symm,Dr]at s
     lia
    exact Classical.epsilon_spec (Rk.mk (gv:=λk=>(gv k).toNat) (nb:=F n) (λk u=>by
     obtain⟨⟨C,H,I⟩,Y⟩:=D k u;have l:=(ih k C.1 C.2 Y).lt (uE g R C.1 C.2);rw[<-jE g R C.1 C.2,up k C.1 C.2 H]at l;exact l) (λk u f b=>Classical.byContradiction λz=>by
     have h:=J k u z;rw[hf,(D k u).1.2.2,bh h,i9]at f;rw[Q,(D k u).1.2.2]at b;exact(of_decide_eq_false f) λy=>of_decide_eq_false b y) (λZ k T e _ b x V=>Classical.byContradiction λz=>by
     have km:k∈kd m o r d v:=(by rw[e];exact aW _ (.head _));have xm:x∈kd m o r d v:=(by rw[e];exact aW _ (.tail _ V));rw[Q,(D k km).1.2.2]at b;have U:=(Oz g R X W et O B A e).mp (bN b);rw[b9,fX]at U;have:=List.any_eq_false.mp U.2 x V;exact this (bh (J x xm z))) (by
     by_cases z:kd m o r d v=[]
     .rw[z];exact bj _
     .exact kQ (P z)) λ⟨k,u,_⟩=>P λz=>by rw[z]at u;cases u)
 exact⟨λv=>F (m.toNat-j v) v,up,λv B A=>M _ v B A rfl⟩
abbrev WO(m:Int)(o:hU)(r:Int)(d:f5)(j:gb)(a:gb)(v:Int):List Int:=(bO m o r d j v).map λu=>(a u:Int)
theorem vO(g:Good m o)(R:ζ m o r d j){v:Int}(b:0<=v)(e:v<m)(a:gb):WO m o r d j a v=(a v:Int)::(kd m o r d v).flatMap (WO m o r d j a):=by
 unfold WO;rw[fM g R b e,aq,List.map_flatMap]
theorem ϳ.lex{t E w A:gb}{G F:f5}(N:ϳ m o r d j p q c t E G)(J:ϳ m o r d j p q c w A F)(g:Good m o)(R:ζ m o r d j)(W:∀k,0<=k->k<m->k≠r->1<=c k):∀(n:Nat)(v:Int),m.toNat-j v=n->0<=v->v<m->t v=w v->(G v<F v->Θ (WO m o r d j t v) (WO m o r d j w v)=true)/\(G v=F v->WO m o r d j t v=WO m o r d j w v)
 | 0,v,e,h0,h1=>by
   have:=kH R h0 h1
   lia
 | n+1,v,e,h0,h1=>λX=>by
   have Z:∀k∈kd m o r d v,((0<=k/\k<m)/\k≠r)/\m.toNat-j k=n:=λk D=>by
    obtain⟨f,C,L⟩:=(bw g R h0 h1).mp D;have pd:=R.pos f.1 f.2 C;rw[L]at pd;exact⟨⟨f,C⟩,by lia⟩
   have Y:∀(h:f3)(s:Nat)(H I:Int),(∀k∈h,k∈kd m o r d v)->Rk p q (λk g=>wy m o r d j p q c k (τ (c k) g)) h s (h.map λk=>(k,E k,G k)) H->Rk p q (λk g=>wy m o r d j p q c k (τ (c k) g)) h s (h.map λk=>(k,A k,F k)) I->(H<I->Θ (h.flatMap (WO m o r d j t)) (h.flatMap (WO m o r d j w))=true)/\(H=I->h.flatMap (WO m o r d j t)=h.flatMap (WO m o r d j w)):=λh=>by
    induction h with
    | nil=>
      intro s H I _ a b;rw[a.dO,b.dO];exact⟨λz=>absurd z (by lia),λ_=>rfl⟩
    | cons k h ih=>
      intro s H I D a b;rw[aq]at a b;obtain⟨⟨f,C⟩,L⟩:=Z k (D k (.head _));have Q:∀x∈k::h,∀i,1<=(λk g=>wy m o r d j p q c k (τ (c k) g)) x i:=λx M=>uE g R h0 h1 x (D x M);have S:=Rk.cmp Q a b;have T:=Rk.cmp Q b a;obtain⟨_,u,U,V⟩:=a.Yl;obtain⟨_,u',b',ac⟩:=b.Yl;have ln:(WO m o r d j t k).length=(WO m o r d j w k).length:=(by unfold WO;rw[aa,aa]);obtain⟨P,p2⟩:=Qb (B:=h.flatMap (WO m o r d j t)) (B':=h.flatMap (WO m o r d j w)) ln;rw[bC,bC];rcases iB (E k) (A k)with l|l|l
      .refine⟨λ_=>P ?_,λz=>absurd (S.1 l) (by lia)⟩;have hl:t k<w k:=by
        rw[N.up k f.1 f.2 C,J.up k f.1 f.2 C];unfold τ;have:=cY (c k) (show E k+1+1<=A k+1 by lia);rw[eT (E k+1),jC]at this;have:=W k f.1 f.2 C;have:1<=(E k+1)*c k:=bP (show 1<=E k+1 by lia) this
        lia
       rw[vO g R f.1 f.2,vO g R f.1 f.2,Θ,ag (by lia)];exact bh (by lia)
      .have ek:t k=w k:=(by rw[N.up k f.1 f.2 C,J.up k f.1 f.2 C,l]);obtain⟨O,K⟩:=ϳ.lex N J g R W n k L f.1 f.2 ek;rw[l]at U V;rcases Int.lt_trichotomy (G k) (F k)with y|y|y
       .exact⟨λ_=>P (O y),λz=>absurd (S.2 l y) (by lia)⟩
       .rw[y]at V;obtain⟨i1,i2⟩:=ih _ u u' (λx M=>D x (.tail _ M)) U b';rw[p2 (K y)];refine⟨λz=>i1 (by lia),λz=>?_⟩;rw[K y,i2 (by lia)]
       .have:=T.2 l.symm y;exact⟨λz=>absurd z (by lia),λz=>absurd z (by lia)⟩
      .have:=T.1 l;exact⟨λz=>absurd z (by lia),λz=>absurd z (by lia)⟩
   have a:=N.at_ v h0 h1;rw[X]at a;obtain⟨O,K⟩:=Y _ _ _ _ (λk D=>D) a (J.at_ v h0 h1);rw[vO g R h0 h1,vO g R h0 h1,X];refine⟨λz=>?_,λz=>by rw[K z]⟩;rw[Θ,aj rfl];exact O z
theorem ϳ.order{a w f i:gb}{b h:f5}(N:ϳ m o r d j p q c a w b)(n:ϳ m o r d j p q c f i h)(g:Good m o)(R:ζ m o r d j)(t:∀k,0<=k->k<m->k≠r->1<=c k)(s:0<=r)(l:r<m)(e:a r=f r):Θ (WO m o r d j a r) (WO m o r d j f r)=decide (b r<h r)/\(WO m o r d j a r=WO m o r d j f r↔b r=h r):=by
 obtain⟨v,x⟩:=ϳ.lex N n g R t _ r rfl s l e;obtain⟨u,A⟩:=ϳ.lex n N g R t _ r rfl s l e.symm;rcases Int.lt_trichotomy (b r) (h r)with y|y|y
 .rw[v y];refine⟨(bh y).symm,λz=>?_,λz=>absurd z (by lia)⟩;have:=v y;rw[z,Ϣ]at this;cases this
 .rw[x y,Ϣ];exact⟨(bA (by lia)).symm,λ_=>y,λ_=>rfl⟩
 .rw[DI (u y)];refine⟨(bA (by lia)).symm,λz=>?_,λz=>absurd z (by lia)⟩;have:=u y;rw[z,Ϣ]at this;cases this
end
end Pb
namespace Pb
open L2 PySem PySem.W NumText
section
variable{m r:Int}{d:hU}{n l a:f5}{b:gb}{f g h i:Int->Bool}{c o:gb}{e j:f3}
structure Ϛ(m:Int)(d:hU)(r:Int)(a:f5)(b:gb)(e:f3)(f g:Int->Bool)(c:gb):Prop where
 et:bO m d r a b r=r::e
 or:Order m r a e
 hf:∀k,f k=(decide (ο m d r a b k*tup d a k=ο m d r a b (a k))&&decide (bV m d r a b e (a k)≠some k))
 hb:∀k,g k=decide (bV m d r a b e (a k)=some k)
 hc:∀k,c k=(tup d a k).toNat
theorem QK{F:f5}{v:Int}(k:0<=v)(p:v<m):((b6 m.toNat).map F).getD v.toNat 0=F v:=by
 rw[aX,aA,fL (by lia),br k]
 rfl
end
theorem xD{f h:f5}:∀{l:f3},(∀c∈l,f c<=h c)->(l.map f).sum=(l.map h).sum->∀c∈l,f c=h c
 | [],_,_,c,hc=>by cases hc
 | a::l,le,e,c,hc=>by
   rw[aq,aq,aN,aN]at e;have d:=le a (.head _);have g:=EH λx b=>le x (.tail _ b);rcases ax.mp hc with rfl|hc
   .lia
   .exact xD (λx b=>le x (.tail _ b)) (by lia) c hc
section
variable{m r w:Int}{i:hU}{a:f5}{b:gb}{held:f5}
def Y2(m:Int)(i:hU)(r:Int)(a:f5)(b:gb)(held:f5)(v:Int):Int:=((bO m i r a b v).map λu=>ο m i r a b u*held u-ο m i r a b u*(tup i a u-1)).sum
def ZF(m:Int)(i:hU)(r:Int)(a:f5)(b:gb)(held:f5)(v:Int):Int:=ο m i r a b v*Φ m i r a b held (Η i a) v-ο m i r a b v*(tup i a v-1)
theorem Fl(g:Good m i)(R:ζ m i r a b){o:f3}(O:Order m r a o)(f:∀v,0<=held v){v:Int}(l:0<=v)(n:v<m):Y2 m i r a b held v<=ZF m i r a b held v:=wle (held:=held) g R (ws:=ο m i r a b) (λv d j=>by have:=(ff g R d j).1;lia) (λc k h e=>Ct g R O k h e) f _ v rfl l n
theorem KG{G k W V:Int}(u:2<=k)(o:1<=W)(st:W*k<=V)(h:0<=G):W*G-W*(k-1)<=V*(G/k)/\(W*G-W*(k-1)=V*(G/k)->G=(G/k+1)*k-1/\(G/k≠0->W*k=V)):=by
 have d:0<=G/k:=ip h (by lia);have c:=mF G k;have q:=cR G (show 0<k by lia);have p:=dH G (show k≠0 by lia);have l:W*G=W*(G%k)+W*k*(G/k):=by rw[<-c,cM,<-gc,c]
 have s:W*(G%k)<=W*(k-1):=cj (by lia) (by lia);have t:W*k*(G/k)<=V*(G/k):=bu st d;refine⟨by lia,λe=>?_⟩;have g:W*(G%k)=W*(k-1):=by(omega)
 have j:W*k*(G/k)=V*(G/k):=by lia
 have n:G%k=k-1:=Int.eq_of_mul_eq_mul_left (show W≠0 by lia) g;refine⟨?_,λf=>Int.eq_of_mul_eq_mul_right f j⟩;rw[eE,dP,fE (G/k)]
 lia
theorem AH(g:Good m i)(R:ζ m i r a b){s:f3}(O:Order m r a s)(o:∀v,0<=held v){v:Int}(j:0<=v)(h:v<m)(e:Y2 m i r a b held v=ZF m i r a b held v):∀u∈kd m i r a v,Y2 m i r a b held u=ZF m i r a b held u/\Φ m i r a b held (Η i a) u=(Η i a u (Φ m i r a b held (Η i a) u)+1)*tup i a u-1/\(Η i a u (Φ m i r a b held (Η i a) u)≠0->ο m i r a b u*tup i a u=ο m i r a b v):=by
 have d:∀u∈kd m i r a v,_:=λu f=>by
  obtain⟨c,k,p⟩:=(bw g R j h).mp f;have st:=Ct g R O c.1 c.2 k;rw[p]at st;exact KG (G:=Φ m i r a b held (Η i a) u) (fT g R c.1 c.2 k).1 (ff g R c.1 c.2).1 st (xF g o u)
 have le:∀u∈kd m i r a v,Y2 m i r a b held u<=ο m i r a b v*Η i a u (Φ m i r a b held (Η i a) u):=λu f=>by
  obtain⟨c,k,p⟩:=(bw g R j h).mp f;exact bE (Fl g R O o c.1 c.2) (d u f).1
 have eq:((kd m i r a v).map (Y2 m i r a b held)).sum=((kd m i r a v).map λu=>ο m i r a b v*Η i a u (Φ m i r a b held (Η i a) u)).sum:=by
  unfold Y2 ZF at e;rw[fM g R j h,aq,aN,vD,nF g R j h,cM]at e;rw[zc (ο m i r a b v) (λu=>Η i a u (Φ m i r a b held (Η i a) u))];have z:ο m i r a b v*held v-ο m i r a b v*(tup i a v-1)+((kd m i r a v).map (Y2 m i r a b held)).sum=ο m i r a b v*held v+ο m i r a b v*((kd m i r a v).map λu=>Η i a u (Φ m i r a b held (Η i a) u)).sum-ο m i r a b v*(tup i a v-1):=e
  lia
 intro u f;obtain⟨c,k,p⟩:=(bw g R j h).mp f;have t:=xD le eq u f;have y:=Fl (held:=held) g R O o c.1 c.2;have x:=(d u f).1;have q:ZF m i r a b held u<=ο m i r a b v*Η i a u (Φ m i r a b held (Η i a) u):=x;have l:Y2 m i r a b held u=ZF m i r a b held u:=by lia
 have n:ZF m i r a b held u=ο m i r a b v*Η i a u (Φ m i r a b held (Η i a) u):=by lia
 exact⟨l,(d u f).2 n⟩
theorem MN(g:Good m i)(R:ζ m i r a b){k:f3}(O:Order m r a k)(j:∀v,0<=held v)(e:Y2 m i r a b held r=ZF m i r a b held r)(n:Nat):∀v,b v=n->0<=v->v<m->Y2 m i r a b held v=ZF m i r a b held v:=by
 induction n with
 | zero=>
   intro v d f h;by_cases c:v=r
   .rw[c];exact e
   .have:=R.pos f h c
    lia
 | succ n ih=>
   intro v d f h;have c:v≠r:=λz=>by have:=R.root;rw[z]at d;lia
   have p:=(R.up v f h c).1;exact(AH g R O j p.1 p.2 (ih (a v) (by have:=R.pos f h c;lia) p.1 p.2) v ((bw g R p.1 p.2).mpr ⟨⟨f,h⟩,c,rfl⟩)).1
theorem ML(g:Good m i)(R:ζ m i r a b)(s:0<=r)(y:r<m){q:f3}(C:bO m i r a b r=r::q)(O:Order m r a q)(j:∀v,0<=held v)(U:((b6 m.toNat).map held).sum=gE m i r a (dD m i r a b) w)(G:Φ m i r a b held (Η i a) r<w):YZ m i r a b w (Φ m i r a b held (Η i a)) (λv=>Η i a v (Φ m i r a b held (Η i a) v))/\∀v,0<=v->v<m->held v=if kd m i r a v=[]then Φ m i r a b held (Η i a) v else 0:=by
 have S:=Jr g R O;have Q:=(ff g R s y).1;have B:∀v,0<=v->v<m->(dD m i r a b).getD v.toNat 0=ο m i r a b v:=λv c d=>gM c d;have V:=RB (held:=held) g R s y C O S j G;have X:=Se (held:=held) g (ws:=dD m i r a b) S.pos j;have N:=xD (f:=held) (h:=λv=>(dD m i r a b).getD v.toNat 0*held v) (l:=b6 m.toNat) (λv t=>by
  obtain⟨c,d⟩:=dN.mp t;have:=S.pos v c (by lia);have:=bu this (j v)
  lia) (by lia)
 have n:∀v,0<=v->v<m->kd m i r a v≠[]->held v=0:=λv c d A=>by
  have e:=N v (dN.mpr ⟨c,by lia⟩);rw[B v c d]at e;obtain⟨k,F,M⟩:=t9 g R c d A;obtain⟨z,K,P⟩:=(bw g R c d).mp F;have L:=(fT g R z.1 z.2 K).1;have J:=(ff g R z.1 z.2).1;have H:2<=ο m i r a b v:=by rw[<-M];exact bE (by decide) (de J L (by decide) (by lia))
  have:=bu H (j v);have:=j v
  lia
 have o:Φ m i r a b held (Η i a) r=w-1/\Y2 m i r a b held r=ZF m i r a b held r:=by
  have h:=Fl (held:=held) g R O j s y;have e:Y2 m i r a b held r=ο m i r a b r*(w-1)-ο m i r a b r*(tup i a r-1):=by
   unfold Y2;rw[C,vM];have E:((r::q).map λv=>ο m i r a b v*held v).sum=((b6 m.toNat).map λv=>(dD m i r a b).getD v.toNat 0*held v).sum:=by
    have I:(r::q).Perm (b6 m.toNat):=gK O.nd (hZ _) λx=>by
     rw[ax,dN];refine⟨λh=>?_,λh=>O.all x h.1 (by have:=h.2;lia)⟩;rcases h with h|h
     .rw[h];exact⟨s,by lia⟩
     .have:=O.Χ x h;exact⟨this.1,by lia⟩
    rw[sN (I.map _)];exact qM λv t=>by have t:=dN.mp t;rw[B v t.1 (by lia)]
   have T:=Jn (rs:=i) (dep:=b) (w:=w) s y O;have W:(q.map (hol m i r a b)).sum=(q.map λu=>ο m i r a b u*(tup i a u-1)).sum:=rfl;rw[aq (f:=λu=>ο m i r a b u*(tup i a u-1)),aN,E]
   lia
  have le:ο m i r a b r*Φ m i r a b held (Η i a) r<=ο m i r a b r*(w-1):=cj (by lia) (by lia);unfold ZF at h ⊢;have eq:ο m i r a b r*Φ m i r a b held (Η i a) r=ο m i r a b r*(w-1):=by(omega)
  exact⟨Int.eq_of_mul_eq_mul_left (by lia) eq,by lia⟩
 have all:=λv=>MN g R O j o.2 _ v rfl;refine⟨⟨o.1,λv c d D=>?_,λv c d A=>?_⟩,λv c d=>?_⟩
 .have p:=(R.up v c d D).1;exact(AH g R O j p.1 p.2 (all _ p.1 p.2) v ((bw g R p.1 p.2).mpr ⟨⟨c,d⟩,D,rfl⟩)).2
 .rw[nF g R c d,n v c d A,cQ]
 .split
  .rename_i kz
   rw[nF g R c d,show bR m i (front r a v) v=[]from kz];exact(lq _).symm
  .rename_i kz
   exact n v c d kz
end
end Pb
namespace L2
open PySem PySem.Spec PyProof.Rows PySem.W
def KasT.val{b:Type}(lt:Nat->Nat->Bool):KasT b->b
 | .ret a=>a
 | .ask i j k=>KasT.val lt (k (lt i j))
theorem KasT.ϣ{a b:Type}{lt:Nat->Nat->Bool}{f:a->KasT b}:∀t:KasT a,KasT.val lt (t.bind f)=KasT.val lt (f (KasT.val lt t))
 | .ret _=>rfl
 | .ask i j k=>KasT.ϣ (k (lt i j))
theorem ώ.val{c:Type}{I:Nat->Prop}{P:c->Prop}{lt:Nat->Nat->Bool}{b:Nat->Nat->(Bool->Shared->Prop)->Shared->Prop}{Q:c->Shared->Prop}{s:Shared}(d:∀i j C,I i->I j->C (lt i j) s->b i j C s):∀{t:KasT c},ώ I P t->Q (KasT.val lt t) s->t.kasWp b Q s
 | .ret a,_,h=>h
 | .ask i j k,a,h=>d i j _ a.1 a.2.1 (ώ.val d (a.2.2 (lt i j)) h)
section
variable{n:Nat}{g:Nat->Nat->Bool}
structure Lin(n:Nat)(g:Nat->Nat->Bool):Prop where
 WG:∀a b,a<n->b<n->a≠b->g a b=false->g b a=true
 tr:∀a b c,a<n->b<n->c<n->g a b=true->g b c=true->g a c=true
def ZG(g:Nat->Nat->Bool)(p:Array Nat)(m:Nat):Prop:=∀i j,i<j->j<m->g (p.getD i 0) (p.getD j 0)=true
def Dsc(g:Nat->Nat->Bool)(p:Array Nat)(m:Nat):Prop:=∀i j,i<j->j<m->g (p.getD j 0) (p.getD i 0)=true
theorem Ρ.size{p:Array Nat}(h:Ρ n p):p.size=n:=by
 have:=h.length_eq;rw[bD]at this
 simpa using this
theorem Ρ.ne{p:Array Nat}(h:Ρ n p){i j:Nat}(a:i<n)(b:j<n)(e:i≠j):p.getD i 0≠p.getD j 0:=λz=>by
 have f:p.toList.Nodup:=h.nodup_iff.mpr List.nodup_range;have s:=Ρ.size h;have c:p.getD i 0=p.toList[i]'(by simpa[s]using a):=by simp[Array.getD,s,a]
 have d:p.getD j 0=p.toList[j]'(by simpa[s]using b):=by simp[Array.getD,s,b]
 rw[c,d]at z;exact e ((fS (by simpa[s]using a) f).mp (by rw[ao (by simpa[s]using a),ao (by simpa[s]using b),z]))
variable(L:Lin n g)(o:0<n)
include L o
theorem ZG.step{p:Array Nat}(h:Ρ n p){m:Nat}(l:1<=m)(b:m<n)(S:ZG g p m)(c:g (p.getD m 0) (p.getD (m-1) 0)=false):ZG g p (m+1):=λi j a k=>by
 have d:=L.WG _ _ (Ρ.at o h m) (Ρ.at o h (m-1)) (Ρ.ne h b (by lia) (by lia)) c;by_cases e:j=m
 .subst e;by_cases f:i=j-1
  .rw[f];exact d
  .exact L.tr _ _ _ (Ρ.at o h _) (Ρ.at o h _) (Ρ.at o h _) (S i (j-1) (by lia) (by lia)) d
 .exact S i j a (by lia)
theorem Cs{p:Array Nat}(h:Ρ n p):∀(f m:Nat),1<=m->m+f<=n->ZG g p m->∃i,KasT.val g (kas_asc p f m)=i/\m<=i/\i<=m+f/\ZG g p i/\(i<m+f->g (p.getD i 0) (p.getD (i-1) 0)=true)
 | 0,m,_,_,S=>⟨m,rfl,ap _,ap _,S,λz=>absurd z (by lia)⟩
 | f+1,m,m1,mf,S=>by
   show ∃i,KasT.val g (if g (p.getD m 0) (p.getD (m-1) 0)=true then .ret m else kas_asc p f (m+1))=i/\_;cases c:g (p.getD m 0) (p.getD (m-1) 0)with
   | true=>exact⟨m,rfl,ap _,by lia,S,λ_=>c⟩
   | false=>
     obtain⟨i,e,a,b,j,d⟩:=Cs h f (m+1) (by lia) (by lia) (ZG.step L o h m1 (by lia) S c);exact⟨i,e,by lia,by lia,j,λz=>d (by lia)⟩
theorem Gj{p:Array Nat}(h:Ρ n p):∀(f m:Nat),2<=m->m+f<=n->Dsc g p m->∃k,KasT.val g (kas_desc f p m 0)=(p,k,0)/\m<=k/\k<=m+f/\Dsc g p k
 | 0,m,_,_,S=>⟨m,rfl,ap _,ap _,S⟩
 | f+1,m,m1,mf,S=>by
   show ∃k,KasT.val g (if g (p.getD m 0) (p.getD (m-1) 0)=true then(if 0>0 then kas_desc f (kas_rev p (m-(0+1)) m) (m+1) 0 else kas_desc f p (m+1) 0)else .ask (p.getD (m-1) 0) (p.getD m 0) λd=>if d=true then .ret (p,m,0)else kas_desc f p (m+1) (0+1))=_/\_;cases c:g (p.getD m 0) (p.getD (m-1) 0)with
   | true=>
     rw[aj rfl,ag (by lia)];obtain⟨k,e,a,b,q⟩:=Gj h f (m+1) (by lia) (by lia) λi j l s=>by
      by_cases e:j=m
      .subst e;by_cases r:i=j-1
       .rw[r];exact c
       .exact L.tr _ _ _ (Ρ.at o h _) (Ρ.at o h _) (Ρ.at o h _) c (S i (j-1) (by lia) (by lia))
      .exact S i j l (by lia)
     exact⟨k,e,by lia,by lia,q⟩
   | false=>
     have d:=L.WG _ _ (Ρ.at o h m) (Ρ.at o h (m-1)) (Ρ.ne h (by lia) (by lia) (by lia)) c;rw[ag (by decide)];refine⟨m,?_,ap _,by lia,S⟩;show KasT.val g (if g (p.getD (m-1) 0) (p.getD m 0)=true then _ else _)=_;rw[aj d]
     rfl
theorem F8{p:Array Nat}(h:Ρ n p){m k:Nat}(b:m<=n)(a:k<m):(kas_rev p 0 m).getD k 0=p.getD (m-1-k) 0:=by
 have e:=getElem?_mirror_all (xs:=p) (i:=0) (j:=m) (by rw[Ρ.size h];exact b) k;rw[aj ⟨bj _,a⟩]at e;have c:(kas_rev p 0 m)[k]?=p[0+m-1-k]?:=e;rw[fZ,fZ,c,iY]
theorem My{p:Array Nat}(h:Ρ n p):∃m k,KasT.val g (kas_count n p)=(m,k)/\1<=m/\m<=n/\Ρ n k/\ZG g k m:=by
 obtain⟨m,e,a,b,S,d⟩:=Cs L o h (n-1) 1 (ap _) (by lia) λi j s l=>absurd l (by lia);unfold kas_count;rw[KasT.ϣ,e];by_cases c:(m==n)=true
 .rw[aj c];exact⟨m,p,rfl,a,by lia,h,S⟩
 .rw[ag c];have A:m<n:=by have:m≠n:=λz=>c (gR.mpr z);lia
  have d:=d (by lia);by_cases r:m>1
  .rw[aj r];show ∃f k,KasT.val g (if g (p.getD 0 0) (p.getD (m-1) 0)=true then _ else _)=_/\_;rw[aj (S 0 (m-1) (by lia) (by lia))];exact⟨m,p,rfl,a,by lia,h,S⟩
  .rw[ag r];have x:m=1:=(by lia);subst x;unfold kas_descPart;rw[KasT.ϣ];obtain⟨f,v,C,B,y⟩:=Gj L o h (n-(1+1)) (1+1) (by lia) (by lia) λi j s l=>by
    have:i=0:=(by lia);have:j=1:=(by lia);subst i;subst j;exact d
   rw[v,ag (show ¬(0:Nat)>0 by decide)];unfold kas_tail3;rw[KasT.ϣ];have q:Ρ n (kas_rev p 0 f):=h.rev 0 f;obtain⟨u,w,D,E,t,_⟩:=Cs L o q (n-f) f (by lia) (by lia) λi j s l=>by
    rw[F8 L o h (by lia) (by lia),F8 L o h (by lia) l];exact y _ _ (by lia) (by lia)
   show ∃m k,KasT.val g (KasT.ret (KasT.val g (kas_asc (kas_rev p 0 f) (n-f) f),kas_rev p 0 f))=_/\_;rw[w];exact⟨u,_,rfl,by lia,by lia,q,t⟩
theorem wP{p:Array Nat}(h:Ρ n p){k:Nat}(m:k<n)(S:ZG g p k):∀(f l r:Nat),r-l<=f->l<=r->r<=k->(∀i,i<l->g (p.getD i 0) (p.getD k 0)=true)->(∀i,r<=i->i<k->g (p.getD k 0) (p.getD i 0)=true)->∃j,KasT.val g (kas_place p k f l r)=j/\j<=k/\(∀i,i<j->g (p.getD i 0) (p.getD k 0)=true)/\∀i,j<=i->i<k->g (p.getD k 0) (p.getD i 0)=true
 | 0,l,r,f0,lr,rk,A,B=>⟨l,rfl,by lia,A,λi a b=>B i (by lia) b⟩
 | f+1,l,r,f0,lr,rk,A,B=>by
   unfold kas_place;by_cases c:l ≥ r
   .rw[aj c];exact⟨l,rfl,by lia,A,λi a b=>B i (by lia) b⟩
   .rw[ag c];show ∃j,KasT.val g (if g (p.getD k 0) (p.getD ((l+r)/2) 0)=true then _ else _)=j/\_;cases d:g (p.getD k 0) (p.getD ((l+r)/2) 0)with
    | true=>
      rw[aj rfl];refine wP h m S f l ((l+r)/2) (by lia) (by lia) (by lia) A λi a b=>?_;by_cases e:i=(l+r)/2
      .rw[e];exact d
      .exact L.tr _ _ _ (Ρ.at o h _) (Ρ.at o h _) (Ρ.at o h _) d (S _ _ (by lia) b)
    | false=>
      rw[ag (by decide)];have q:=L.WG _ _ (Ρ.at o h k) (Ρ.at o h ((l+r)/2)) (Ρ.ne h m (by lia) (by lia)) d;refine wP h m S f ((l+r)/2+1) r (by lia) (by lia) rk (λi a=>?_) B;by_cases e:i=(l+r)/2
      .rw[e];exact q
      .exact L.tr _ _ _ (Ρ.at o h _) (Ρ.at o h _) (Ρ.at o h _) (S i ((l+r)/2) (by lia) (by lia)) q
theorem Gs{p:Array Nat}(h:Ρ n p){k l j:Nat}(a:k<n)(b:l<=k):(bubble p k (k-l)).getD j 0=if j=l then p.getD k 0 else if l<j/\j<=k then p.getD (j-1) 0 else p.getD j 0:=by
 have e:=getElem?_bubble (xs:=p) (src:=k) (by rw[Ρ.size h];exact a) (k-l) (by lia) j;rw[show k-(k-l)=l by lia]at e;rw[fZ,e]
 repeat' split
 all_goals exact(fZ ..).symm
theorem IA:∀(f k:Nat){p:Array Nat},Ρ n p->k+f<=n->ZG g p k->∃c,KasT.val g (kas_bin f p k)=c/\Ρ n c/\ZG g c (k+f)
 | 0,k,p,h,_,S=>⟨p,rfl,h,S⟩
 | f+1,k,p,h,kf,S=>by
   unfold kas_bin;rw[KasT.ϣ];obtain⟨l,e,m,A,B⟩:=wP L o h (show k<n by lia) S k 0 k (by lia) (by lia) (ap _) (λi z=>absurd z (by lia)) λi a b=>absurd b (by lia);rw[e];obtain⟨c,v,u,t⟩:=IA f (k+1) (p:=bubble p k (k-l)) (h.bub k (k-l)) (by lia) λi j w x=>by
    rw[Gs L o h (by lia) m,Gs L o h (by lia) m];by_cases r:i=l
    .rw[aj r,ag (by lia),aj (by lia)];exact B _ (by lia) (by lia)
    .rw[ag r];by_cases q:l<i/\i<=k
     .rw[aj q,ag (by lia),aj (by lia)];exact S _ _ (by lia) (by lia)
     .rw[ag q];by_cases d:j=l
      .rw[aj d];exact A i (by lia)
      .rw[ag d];by_cases s:l<j/\j<=k
       .rw[aj s];exact S _ _ (by lia) (by lia)
       .rw[ag s];exact S _ _ w (by lia)
   exact⟨c,v,u,by rw[show k+(f+1)=k+1+f by lia];exact t⟩
theorem PN:∃p,KasT.val g (kas_sort n)=p/\Ρ n p/\ZG g p n:=by
 obtain⟨m,p,e,j,i,h,S⟩:=My L o (p:=List.toArray (List.range n)) (iJ _);unfold kas_sort;rw[KasT.ϣ,e];dsimp only;by_cases c:m<n
 .rw[aj c,show max m 1=m by lia];obtain⟨b,f,d,a⟩:=IA L o (n-m) m h (by lia) S;exact⟨b,f,d,by rw[show m+(n-m)=n by lia]at a;exact a⟩
 .rw[ag c];have:m=n:=by lia
  subst this;exact⟨p,rfl,h,S⟩
end
end L2
namespace Pb
open L2 PySem PySem.W NumText
theorem sv{f:gb}:∀l:List Int,l.length<=(l.map λk=>f k+1).sum
 | []=>ap _
 | a::l=>by rw[aq,aN,aF];have:=sv (f:=f) l;lia
theorem mM{f:gb}:∀{l:f3}{k:Int},k∈l->f k+1<=(l.map λk=>f k+1).sum
 | a::l,k,h=>by
   rw[aq,aN];rcases ax.mp h with rfl|h
   .lia
   .have:=mM (f:=f) h
    lia
section
variable{fr be:Int->Bool}{ws:Int->Nat->Int}
theorem vR{X:Nat}:∀{ks:f3},(∀k∈ks,∀i,ws k i=1)->∀a,a<=X->0<=ς fr be ws ks a/\ς fr be ws ks a<=((X+1)^(ks.filter fr).length:Nat)
 | [],_,a,_=>⟨by show(0:Int)<=1;decide,by show(1:Int)<=((X+1)^0:Nat);simp⟩
 | k::ks,h,a,hl=>by
   have d:=vR (X:=X) (ks:=ks) λx g=>h x (.tail _ g);have e:=h k (.head _);by_cases c:fr k=true
   .rw[qC c,eJ c,aF,eV];have:=B6 (f:=λi=>ws k i*ς fr be ws ks (a-i)) (B:=(((X+1)^(ks.filter fr).length:Nat):Int)) (k:=a+1) λi _=>by
     rw[e,dP];exact d (a-i) (by lia)
    refine⟨this.1,bE this.2 ?_⟩;rw[g6,fj];exact bu (by lia) (by lia)
   .rw[dF c];by_cases b:be k=true
    .rw[py c b];show 0<=ws k a*_/\ws k a*_<=_;rw[e,dP];exact d 0 (by lia)
    .rw[pi c b];show 0<=ws k 0*_/\ws k 0*_<=_;rw[e,dP];exact d a hl
end
section
variable{m r:Int}{q:hU}{j:f5}{o:gb}{s u:Int->Bool}{c:gb}{x:f3}
theorem Ϛ.free(B:Ϛ m q r j o x s u c)(g:Good m q)(R:ζ m q r j o)(w:0<=r)(t:r<m){v:Int}(d:0<=v)(f:v<m)(k:kd m q r j v≠[]):((kd m q r j v).filter s).length+1<=(kd m q r j v).length:=by
 cases e:bV m q r j o x v with
 | none=>exact absurd ((EY g R B.or).no v d f e) k
 | some b=>
   have i:b∈kd m q r j v:=((EY g R B.or).hv v b d f e).1;have l:=((bw g R d f).mp i).2.2;have n:s b=false:=by rw[B.hf,l,e];simp
   obtain⟨h,a,p⟩:=List.append_of_mem i;rw[p,b4,dF (by rw[n];decide),aE,aE,aF];have:=cB s h;have:=cB s a
   lia
theorem Ϛ.few(B:Ϛ m q r j o x s u c)(g:Good m q)(R:ζ m q r j o)(G:0<=r)(F:r<m){v:Int}(f:0<=v)(a:v<m):(ϐ m q r j o v<=1->∀h,wy m q r j o s u c v h=1)/\(ϐ m q r j o v=2->∀h,wy m q r j o s u c v h<=(h:Int)+1):=by
 have pos:=λ(k:Int)(I:0<=k)(l:k<m)(h:Nat)=>sZ (fr:=s) (be:=u) (c:=c) g R _ I l (ap _) h;have w:∀(n:Nat)(v:Int),0<=v->v<m->m.toNat-o v=n->ϐ m q r j o v<=1->∀h,wy m q r j o s u c v h=1:=λn=>by
  induction n with
  | zero=>
    intro v f a e;have:=kH R f a
    lia
  | succ n ih=>
    intro v f a e d h;rw[jE g R f a];have C:=gj g R f a;by_cases y:kd m q r j v=[]
    .rw[y];rfl
    .have J:=B.free g R G F f a y;have A:∀k∈kd m q r j v,∀i,(λk g=>wy m q r j o s u c k (τ (c k) g)) k i=1:=λk t i=>by
      obtain⟨l,H,E⟩:=(bw g R f a).mp t;have K:=R.pos l.1 l.2 H;rw[E]at K;have le:ϐ m q r j o k+1<=((kd m q r j v).map λk=>ϐ m q r j o k+1).sum:=mM t;exact ih k l.1 l.2 (by lia) (by lia) _
     have D:(kd m q r j v).length<=1:=by
      have:(kd m q r j v).length<=((kd m q r j v).map λk=>ϐ m q r j o k+1).sum:=sv _
      lia
     have b:=vR (fr:=s) (be:=u) (X:=h) A h (ap _);rw[show((kd m q r j v).filter s).length=0 by lia,Nat.pow_zero]at b;have p:=pG (fr:=s) (be:=u) (ws:=λk g=>wy m q r j o s u c k (τ (c k) g)) (ks:=kd m q r j v) (λk t i=>Int.le_of_eq (A k t i).symm) h;have:=b.2
     lia
 refine⟨w _ v f a rfl,λd h=>?_⟩;rw[jE g R f a];have C:=gj g R f a;have y:kd m q r j v≠[]:=λz=>by rw[z]at C;simp at C;lia
 have J:=B.free g R G F f a y;have D:(kd m q r j v).length<=((kd m q r j v).map λk=>ϐ m q r j o k+1).sum:=sv _;have A:∀k∈kd m q r j v,∀i,(λk g=>wy m q r j o s u c k (τ (c k) g)) k i=1:=λk t i=>by
  obtain⟨l,H,E⟩:=(bw g R f a).mp t;have le:ϐ m q r j o k+1<=((kd m q r j v).map λk=>ϐ m q r j o k+1).sum:=mM t;exact w _ k l.1 l.2 rfl (by lia) _
 have b:=vR (fr:=s) (be:=u) (X:=h) A h (ap _);have:(h+1)^((kd m q r j v).filter s).length<=(h+1)^1:=bB (by lia) (by lia);rw[Nat.pow_one]at this;have:=b.2
 lia
theorem Ϛ.ZV(B:Ϛ m q r j o x s u c)(g:Good m q)(R:ζ m q r j o)(t:0<=r)(h:r<m){n:Nat}(L:m<=3/\n<=2\/m=4/\n<=1/\∀k,c k<=2):wy m q r j o s u c r n<64:=by
 have m1:=g.m1;have dl:=mr g R t h;obtain⟨J,G⟩:=B.few g R t h t h;by_cases N:ϐ m q r j o r<=1
 .rw[J N];decide
 by_cases K:ϐ m q r j o r=2
 .have:=G K n
  lia
 have P:m=4:=by lia
 obtain⟨_,H,I⟩:=L.resolve_left (by lia);have v:=gj g R t h;have A:kd m q r j r≠[]:=λz=>by rw[z]at v;simp at v;lia
 have y:=B.free g R t h t h A;have M:(kd m q r j r).length<=((kd m q r j r).map λk=>ϐ m q r j o k+1).sum:=sv _;rw[jE g R t h];by_cases E:∀k∈kd m q r j r,ϐ m q r j o k<=1
 .have b:=vR (fr:=s) (be:=u) (ws:=λk g=>wy m q r j o s u c k (τ (c k) g)) (X:=n) (ks:=kd m q r j r) (λk hk i=>by
   obtain⟨w,_,_⟩:=(bw g R t h).mp hk;exact(B.few g R t h w.1 w.2).1 (E k hk) _) n (ap _)
  have p:(n+1)^((kd m q r j r).filter s).length<=2^2:=aL (bB (by lia) (show _<=2 by lia)) (fy (by lia) 2);have:=b.2
  lia
 .obtain⟨k,hk⟩:=Classical.not_forall.mp E;obtain⟨hk,d⟩:=Classical.not_imp.mp hk;have le:=mM (f:=ϐ m q r j o) hk;obtain⟨w,_,_⟩:=(bw g R t h).mp hk;have O:kd m q r j r=[k]:=by
   match e:kd m q r j r,A with
   | [a],_=>rw[e]at hk;rw[aI.mp hk]
   | a::b::l,_=>
     rw[e,aq,aq,aN,aN]at v;rw[e]at hk;rcases ax.mp hk with z|hk
     .rw[z]at d;lia
     .have:=mM (f:=ϐ m q r j o) hk;rw[aq,aN]at this
      lia
  rw[O]at y v ⊢;simp at v;have F:¬s k=true:=λz=>by rw[eJ z]at y;simp at y
  have D:=(B.few g R t h w.1 w.2).2 (by lia);have C:∀i,i<=1->((τ (c k) i:Nat):Int)+1<=4:=λi Q=>by
   unfold τ;have:(i+1)*c k<=2*2:=bP (by lia) (I k)
   lia
  by_cases b:u k=true
  .rw[py F b];show wy m q r j o s u c k (τ (c k) n)*1<64;have:=D (τ (c k) n);have:=C n H
   lia
  .rw[pi F b];show wy m q r j o s u c k (τ (c k) 0)*1<64;have:=D (τ (c k) 0);have:=C 0 (by lia)
   lia
theorem Ip(g:Good m q)(R:ζ m q r j o){T:Nat}(p:1<=T)(w:∀v,0<=v->v<m->v≠r->tup q j v<=T)(n:Nat):∀v,0<=v->v<m->m.toNat-o v=n->ο m q r j o v<=(T^ϐ m q r j o v:Nat):=by
 induction n with
 | zero=>
   intro v d b e;have:=kH R d b
   lia
 | succ n ih=>
   intro v d b e;by_cases i:kd m q r j v=[]
   .have l:ο m q r j o v=1:=by
     show fo mx m q r j o _ _ v=1;rw[sC g R d b,show bR m q (front r j v) v=[]from i]
     rfl
    rw[l];have:1<=T^ϐ m q r j o v:=Nat.pow_pos p
    lia
   .obtain⟨k,hk,ek⟩:=t9 g R d b i;obtain⟨a,h,t⟩:=(bw g R d b).mp hk;have z:=R.pos a.1 a.2 h;rw[t]at z;have A:=gj g R d b;have le:=mM (f:=ϐ m q r j o) (show k∈kd m q r j v from hk);have y:=ih k a.1 a.2 (by lia);have l:=(ff g R a.1 a.2).1;rw[<-ek];refine bE (de y (w k a.1 a.2 h) (by have:=(fT g R a.1 a.2 h).1;lia) (by lia)) ?_;have:T^ϐ m q r j o k*T<=T^ϐ m q r j o v:=by
     rw[<-eV];exact bB p (by lia)
    rw[<-fj]
    lia
theorem L8(g:Good m q)(R:ζ m q r j o)(y:0<=r)(n:r<m)(K:bO m q r j o r=r::x)(O:Order m r j x){w:Int}(C:1<=w)(D:m<=3/\w<=3/\(∀v,0<=v->v<m->v≠r->tup q j v<=3)\/m=4/\w<=2/\∀v,0<=v->v<m->v≠r->tup q j v<=2):0<=gE m q r j (dD m q r j o) w/\gE m q r j (dD m q r j o) w<=40:=by
 have m1:=g.m1;have l:(x.length:Int)=m-1:=by have:=O.XG y n;lia
 have G:=(ff g R y n).1;have P:=mr g R y n;rw[Jn y n O];have z:∀T:Nat,2<=T->(∀v,0<=v->v<m->v≠r->tup q j v<=T)->0<=(x.map (hol m q r j o)).sum/\(x.map (hol m q r j o)).sum<=((T^(m-2).toNat*(T-1):Nat):Int)*x.length/\ο m q r j o r<=(T^(m-1).toNat:Nat):=λT I i=>by
  have B:∀v∈x,0<=hol m q r j o v/\hol m q r j o v<=((T^(m-2).toNat*(T-1):Nat):Int):=λv k=>by
   have h:=O.Χ v k;have A:=O.ne k;have p:=(R.up v h.1 h.2 A).1;have F:=mr g R p.1 p.2;have J:=gj g R p.1 p.2;have le:=mM (f:=ϐ m q r j o) (show v∈kd m q r j (j v)from(bw g R p.1 p.2).mpr ⟨h,A,rfl⟩);have L:=Ip g R (by lia) i _ v h.1 h.2 rfl;have E:T^ϐ m q r j o v<=T^(m-2).toNat:=bB (by lia) (by lia);have t:=fT g R h.1 h.2 A;have N:=i v h.1 h.2 A;have C:=(ff g R h.1 h.2).1;show 0<=ο m q r j o v*(tup q j v-1)/\ο m q r j o v*(tup q j v-1)<=_;refine⟨cX (by lia) (by lia),?_⟩;rw[fj];exact de (by lia) (by lia) (by lia) (by lia)
  have H:=Ip g R (by lia) i _ r y n rfl;have:T^ϐ m q r j o r<=T^(m-1).toNat:=bB (by lia) (by lia);exact⟨CC λv k=>(B v k).1,IB λv k=>(B v k).2,by lia⟩
 have M:=cX (show 0<=ο m q r j o r by lia) (show 0<=w-1 by lia);rcases D with⟨m3,w3,i⟩|⟨m4,w2,i⟩
 .obtain⟨a,b,d⟩:=z 3 (by decide) i;have e:ο m q r j o r*(w-1)<=(3^(m-1).toNat:Nat)*2:=de d (by lia) (by lia) (by lia);rw[l]at b;rcases(show m=1\/m=2\/m=3 by lia)with rfl|rfl|rfl
  .simp at b e;lia
  .simp at b e;lia
  .simp at b e;lia
 .obtain⟨a,b,d⟩:=z 2 (by decide) i;have e:ο m q r j o r*(w-1)<=(2^(m-1).toNat:Nat)*1:=de d (by lia) (by lia) (by lia);rw[l]at b;subst m4;simp at b e
  lia
end
end Pb
namespace PySem.SeqAt
theorem BG:∀{a b:f3},a.length=b.length->a≠b->Θ a b=false->Θ b a=true
 | [],[],_,n,_=>absurd rfl n
 | [],_::_,e,_,_=>by cases e
 | _::_,[],e,_,_=>by cases e
 | x::a,y::b,e,n,h=>by
   rw[Θ]at h ⊢;by_cases c:x=y
   .rw[aj c]at h;rw[aj c.symm];exact BG (by simpa using e) (λz=>n (by rw[c,z])) h
   .rw[ag c]at h;rw[ag λz=>c z.symm];have:=of_decide_eq_false h;exact bh (by lia)
theorem Bf:∀{a b c:f3},Θ a b=true->Θ b c=true->Θ a c=true
 | [],_,_,h,_=>by cases h
 | _::_,[],_,h,_=>by cases h
 | _::_,_::_,[],_,h=>by cases h
 | x::a,y::b,z::c,h1,h2=>by
   rw[Θ]at h1 h2 ⊢;by_cases e:x=y
   .rw[aj e]at h1;by_cases d:y=z
    .rw[aj d]at h2;rw[aj (e.trans d)];exact Bf h1 h2
    .rw[ag d]at h2;rw[e,ag d];exact h2
   .rw[ag e]at h1;have g:=bN h1;by_cases d:y=z
    .rw[<-d,ag e];exact h1
    .rw[ag d]at h2;have f:=bN h2;rw[ag (by lia)];exact bh (by lia)
end PySem.SeqAt
namespace L2
open PySem PySem.Spec PyProof.Rows PySem.W PySem.SeqAt
section
variable{prog:Program}{w:World}{A:Around}{E:gf}{s:Shared}
theorem Fk{a:Addr}{c:gy}{n:Nat}{lt:Nat->Nat->Bool}(L:Lin c.length lt){P:PySem.Fin->Shared->Prop}(F:s.heap.get? a=some (seqObj "list" c.toArray n))(N:c.length<64)(D:2<=c.length->∀u:Heap,(∀b o,b≠a->s.heap.get? b=some o->u.get? b=some o)->∃H,(∀Q:SortKind->Shared->Prop,Q H { s with heap:=u }->wpAny (model prog w) A (keyKind' c.toArray) Q (λ_ _=>False) { s with heap:=u })/\∀i j (C:Bool->Shared->Prop),i<c.length->j<c.length->C (lt i j) { s with heap:=u }->kas_ask prog w A H c i j C { s with heap:=u })(h:∀p:List Nat,p.Perm (List.range c.length)->p.Pairwise (λi j=>lt i j=true)->P (.done (.ret .none)) { s with heap:=sortedHeap s.heap a c (p.map λi=>c.getD i Value.none).toArray }):wpAny (model prog w) A (Builtin.«list.sort» ⟨[.ref a],[]⟩) P E s:=by
 rw[list_sort_plain];have ha:a<s.heap.objs.size:=aH F;have z:c.length<=sizeLine:=by rw[sizeLine_eq];lia
 refine ak (listItems_at F rfl ?_);refine ak (listUpdate_at F rfl ?_ (by rw[aM];exact z) (bj _));obtain⟨S,v⟩:∃S,(s.heap.update a (Obj.mapSeq λ_=>(#[]:Array Value))).get? a=some (seqObj "list" #[] S):=⟨_,get?_update_seq F (λ_=>#[])⟩;refine ak (seqEpoch_at v rfl ?_);refine ak (wpAny_newTuple ?_ (by exact z));refine ak (wpAny_newList ?_ (bj _));refine gL ?_;have f:∀b o,(s.heap.update a (Obj.mapSeq λ_=>(#[]:Array Value))).get? b=some o->(((s.heap.update a (Obj.mapSeq λ_=>#[])).push (seqObj "tuple" c.toArray 0)).push (seqObj "list" #[] 0)).get? b=some o:=λb o e=>ar _ (ar _ e)
 have d:=f _ _ v;have J:∀b o,b≠a->s.heap.get? b=some o->(((s.heap.update a (Obj.mapSeq λ_=>#[])).push (seqObj "tuple" c.toArray 0)).push (seqObj "list" #[] 0)).get? b=some o:=λb o U e=>f b o (by rw[Heap.get?_update_ne _ _ _ _ U];exact e)
 show wpAny (model prog w) A _ P E { s with heap:=((s.heap.update a (Obj.mapSeq λ_=>#[])).push (seqObj "tuple" c.toArray 0)).push (seqObj "list" #[] 0) };dsimp only;by_cases l:c.toArray.size<2
 .rw[aj l,aj l];refine ak (ba ?_);rw[StateT.run_pure];refine ak (ba ?_);dsimp only;have T:(arrOf (SortSt.mk' general' (c.toArray.zip c.toArray) #[] 7 none)).map (·.2)=c.toArray:=by
   show(c.toArray.zip c.toArray).map (·.2)=c.toArray;apply Array.toList_inj.mp;rw[Array.toList_map,Array.toList_zip];show(c.zip c).map Prod.snd=c;exact List.map_snd_zip (ap _)
  refine ak (seqEpoch_at d rfl ?_);refine ak (listUpdate_at d rfl ?_ (bj _) (by rw[T,aM];exact Nat.le_succ_of_le z));simp only[bne_self_eq_false,dI,if_false];have q:=h (List.range c.length) (iJ _) (by
   rw[aM]at l
   match c.length,l with
   | 0,_=>exact .nil
   | 1,_=>exact List.pairwise_singleton _ _)
  rw[DM]at q;refine ba ?_;rw[T];exact q
 .rw[ag l,ag l];have t:2<=c.length:=by rw[aM]at l;lia
  obtain⟨H,k1,k2⟩:=D t _ J;refine ak (di (k1 (λr m=>r=H/\m={ s with heap:=((s.heap.update a (Obj.mapSeq λ_=>#[])).push (seqObj "tuple" c.toArray 0)).push (seqObj "list" #[] 0) }) ⟨rfl,rfl⟩) (λr s0 V=>?_) λ_ _ x=>x.elim);obtain⟨rfl,rfl⟩:=V;obtain⟨g,X,y,Z⟩:=PN L (show 0<c.length by lia);refine ak (di (kat_run (Q:=λB m=>m={ s with heap:=((s.heap.update a (Obj.mapSeq λ_=>#[])).push (seqObj "tuple" c.toArray 0)).push (seqObj "list" #[] 0) }/\arrOf B=g.map (kas_item (c.toArray.zip c.toArray))/\failedOf B=none)
   (G:=λp m=>m={ s with heap:=((s.heap.update a (Obj.mapSeq λ_=>#[])).push (seqObj "tuple" c.toArray 0)).push (seqObj "list" #[] 0) }/\p=g)
   rfl t N (λp' B m a1 a2 a3 R=>⟨R.1,R.2▸a2,a3⟩) ?_) ?_ λ_ _ e=>e)
  .exact ώ.val (lt:=lt) (λi j C O I W=>k2 i j C O I W) (Nx (by lia)) ⟨rfl,X⟩
  rintro⟨⟨⟩,B⟩ m ⟨rfl,M,hf⟩;dsimp only;have K:=kat_snds rfl M;have Y:g.toList.length=c.length:=by have:=y.length_eq;rwa [bD]at this
  rw[K];refine ak (seqEpoch_at d rfl ?_);refine ak (listUpdate_at d rfl ?_ (bj _) (by rw[aM,aa,Y];exact Nat.le_succ_of_le z));rw[hf];simp only[bne_self_eq_false,dI,if_false];refine ba (h _ y ?_);rw[fY];intro i j O I ij;have e:∀k (D:k<g.toList.length),g.toList[k]=g.getD k 0:=λk D=>by simp[Array.getD,show k<g.size by simpa using D]
  rw[e i O,e j I];exact Z i j ij (by lia)
def xJ(h:Heap)(l:Addr)(b:f3):Prop:=∃(a:gy)(n:Nat)(d:Option Addr)(c:Array (Option Value)),h.get? l=some { cls:=.type "list",dict:=d,data:=.seq a.toArray n,slots:=c }/\a.length=b.length/\∀j (e:j<a.length),∃t,a[j]=.int (b.getD j 0) t
def Ov(h:Heap)(q l:Addr)(b:f3):Prop:=(∃o a n,h.get? q=some o/\o.cls=.type "tuple"/\o.data=.seq (List.toArray (Value.ref l::a)) n)/\xJ h l b
theorem JL{l b:Addr}{a c:f3}{Q:Bool->Shared->Prop}(o:A.units<cLine)(y:xJ s.heap l a)(v:xJ s.heap b c)(e:a.length=c.length)(h:Q (Θ a c) s):wpAny (model prog w) A (oneLt' true (.ref l) (.ref b)) Q E s:=by
 obtain⟨f,r,x,k,g,z,m⟩:=y;obtain⟨i,p,u,q,t,B,n⟩:=v;rw[oneLt'_eq];simp only[if_true];refine ak (wpAny_cRoomFor o ?_);refine ak (wpAny_callSpecialIfBound?_slot ⟨_,g,rfl⟩ F.slot_list_lt (call_meets F.slot_list_lt ⟨_,g,rfl⟩ F.entry_list_lt (F.args_list_lt_2 _ _) (LQ l b f.toArray i.toArray r p x u k q (by simp;lia) a c (by simp;lia) (by simp;lia) (λj d=>?_) λj d=>?_) ⟨g,t,?_⟩))
 .simpa using m j (by simpa using d)
 .simpa using n j (by simpa using d)
 .exact cP h
theorem Bu{l b:Addr}{d f:f3}{Q:Bool->Shared->Prop}(v:A.units<cLine)(F:xJ s.heap l d)(C:xJ s.heap b f)(e:d.length=f.length)(n:d≠f)(h:Q false s):wpAny (model prog w) A (eqBool (.ref l) (.ref b)) Q E s:=by
 obtain⟨k,B,L,G,r,H,o⟩:=F;obtain⟨D,y,K,I,m,J,p⟩:=C;have ne:l≠b:=λz=>n (by
  subst z;rw[r]at m;cases m;refine lJ e λj g i=>?_;obtain⟨t,a⟩:=o j (by lia);obtain⟨u,c⟩:=p j (by lia);rw[a]at c;injection c with c _
  rw[aX,aX,ao g,ao i]at c;exact c)
 have x:((List.range k.toArray.size).all λj=>decide (d.getD j 0=f.getD j 0))=false:=Bool.eq_false_iff.mpr λz=>n (by
  rw[dX]at z;refine lJ e λj g i=>?_;have:=bN (z j (bU.mpr (by simp;lia)));rw[aX,aX,ao g,ao i]at this;exact this)
 have q:RcAt A s (.ref l) (.ref b) ((List.range k.toArray.size).all λj=>decide (d.getD j 0=f.getD j 0)):=RcAt.lists ⟨_,r,rfl,B,rfl⟩ ⟨_,m,rfl,y,rfl⟩ (by simp;lia) v λj g i=>by
  obtain⟨t,a⟩:=o j (by simpa using g);obtain⟨u,c⟩:=p j (by simpa using i);have:=EqAt.int_int (A:=A.in1) (s:=s) (d.getD j 0) t (f.getD j 0) u;rw[show(d.getD j 0==f.getD j 0)=decide (d.getD j 0=f.getD j 0)from dU.mpr (by rw[gR,fJ])]at this
  simpa[a,c]using this
 rw[x]at q;exact EqAt.of_refs ne q prog w E Q h
theorem FY{b a:Bool}{Q:Bool->Shared->Prop}(h:Q a s):∀(l:gy)(i:Nat),KatLex prog w A b a Q (l.zip l) i s
 | [],i=>h
 | v::l,i=>kat_cons (EqAt.same v prog w _ _ (kat_yes (FY h l (i+1))))
theorem Js{h:Heap}:∀{a:List (Addr×Addr×List Int)},(∀z∈a,Ov h z.1 z.2.1 z.2.2)->KatTups h (a.map λz=>Value.ref z.1) (a.map λz=>Value.ref z.2.1)
 | [],_=>.nil
 | z::a,hz=>by
   obtain⟨⟨o,b,n,e,c,d⟩,_⟩:=hz z (.head _);exact KatTups.cons e c d (by simp) (Js λy f=>hz y (.tail _ f))
theorem Sa{zs:List (Addr×Addr×List Int)}{n:Nat}(q:A.units<cLine)(l:∀z∈zs,Ov s.heap z.1 z.2.1 z.2.2/\z.2.2.length=n)(B:(zs.map (·.2.2)).Nodup)(N:2<=zs.length):∃x,(∀Q:SortKind->Shared->Prop,Q x s->wpAny (model prog w) A (keyKind' (zs.map λz=>Value.ref z.1).toArray) Q (λ_ _=>False) s)/\∀i j (C:Bool->Shared->Prop),i<(zs.map λz=>Value.ref z.1).length->j<(zs.map λz=>Value.ref z.1).length->C (Θ ((zs.map (·.2.2)).getD i []) ((zs.map (·.2.2)).getD j [])) s->kas_ask prog w A x (zs.map λz=>Value.ref z.1) i j C s:=by
 refine⟨tuples' (Value.type "list" != Value.type "tuple"),λQ D=>kat_kind (Js λz h=>(l z h).1) (by rw[aa];lia) (λv G=>?_) (by decide) D,λi j C a b g=>?_⟩
 .obtain⟨z,h,rfl⟩:=aP.mp G;obtain⟨_,K,k,R,O,o,_⟩:=(l z h).1;exact(Looks.ld o).andThen (Looks.of_pure rfl)
 .rw[aa]at a b;have e:∀i (a:i<zs.length),(zs.map λz=>Value.ref z.1).getD i Value.none=.ref (zs[i]).1/\(zs.map (·.2.2)).getD i []=(zs[i]).2.2:=λi a=>by simp[a]
  unfold kas_ask;rw[(e i a).1,(e j b).1];rw[(e i a).2,(e j b).2]at g;obtain⟨⟨⟨L,J,P,d,M,f⟩,y⟩,t⟩:=l _ (dj a);obtain⟨⟨⟨I,S,T,m,H,r⟩,u⟩,p⟩:=l _ (dj b);rw[show(Value.type "list" != Value.type "tuple")=true by decide];by_cases c:i=j
  .subst c;rw[Pb.Ϣ]at g;rw[d]at m;cases m;rw[f]at r;refine kat_lt d f d f ?_;rw[bA (cW _)];exact FY g _ _
  .refine kat_lt d f m r (kat_cons (Bu q y u (t.trans p.symm) (λz=>c ?_) (kat_no (JL q y u (t.trans p.symm) g))));have F:=(fS (show i<(zs.map (·.2.2)).length by rw[aa];exact a) B).mp (show(zs.map (·.2.2))[i]?=(zs.map (·.2.2))[j]? by rw[aA,aA,ao a,ao b];exact congrArg some z);exact F
end
section
variable{X:Cx}
theorem tm:∀{b:gw}{a:gy},Vals (b.map V.ref) a->a=b.map Value.ref
 | [],_,.nil=>rfl
 | q::b,_,.cons r rs=>by
   cases(show _=Value.ref q from r);rw[tm rs]
   rfl
abbrev Pz:=Addr×Addr×V×List Int
theorem F5(hv:X.A.units+64<cLine):lD X (.builtin "sorted") (λxs H Q=>∃(a:Addr)(zs:List Pz)(n:Nat),xs=[.ref a]/\H a=some (.lst (zs.map λz=>V.ref z.1))/\(∀z∈zs,H z.1=some (.tup [.ref z.2.1,z.2.2.1])/\H z.2.1=some (.lst (z.2.2.2.map V.int))/\z.2.2.2.length=n)/\zs.length<64/\(zs.map (·.2.2.2)).Nodup/\∀(l:Addr)(d:List Pz),H l=none->d.Perm zs->(d.map (·.2.2.2)).Pairwise (λa b=>Θ a b=true)->Q (.ref l) (upd H l (.lst (d.map λz=>V.ref z.1)))):=by
 intro F s σ H xs us Q I r h;obtain⟨a,zs,n,rfl,ha,hz,O,nd,q⟩:=h;obtain⟨u,rfl,ru⟩:=qY r;cases ru;obtain⟨D,rv,⟨o0,k0,g0,c0,_,d0⟩,G⟩:=I.list (ξ.of ha);rw[show zs.map (λz=>V.ref z.1)=(zs.map (·.1)).map V.ref by rw[cZ];rfl]at rv;have ei:=tm rv;rw[cZ]at ei;subst ei;have B:(zs.map (Value.ref ∘ (·.1))).length=zs.length:=aa _;refine Calls.call_function_entry kind_sorted plain_sorted entry_sorted (args_sorted1 _) ?_;unfold Builtin.«sorted»;refine ak (m:=checkCount "sorted" 1 1 _) (ba ?_);refine ak (collect_list ⟨o0,g0,c0,k0,d0⟩ ?_ (by rw[B];exact cm (by lia)));have t:∀b o,s.heap.get? b=some o->((s.heap.push (seqObj "list" #[] 0)).update s.heap.objs.size (Obj.mapSeq (·++(zs.map (Value.ref ∘ (·.1))).toArray))).get? b=some o:=λb o e=>by
  have ό:b<s.heap.objs.size:=aH e;rw[Heap.get?_update_ne _ _ _ _ (aV ό),Heap.get?_push_ne _ _ _ (aV ό)];exact e
 generalize (s.heap.push (seqObj "list" #[] 0)).update s.heap.objs.size (Obj.mapSeq (·++(zs.map (Value.ref ∘ (·.1))).toArray))=f at t ⊢;refine ak (wpAny_newList ?_ (by rw[B];exact cm (by lia)));have y:(f.push (seqObj "list" (zs.map (Value.ref ∘ (·.1))).toArray 0)).get? f.objs.size=some (seqObj "list" (zs.map (Value.ref ∘ (·.1))).toArray 0):=bf _ rfl;have J:Inv X F σ H { s with heap:=f,toks:=s.toks }:=I.kept t;have N:∀v:Heap,(∀b o,b≠f.objs.size->(f.push (seqObj "list" (zs.map (Value.ref ∘ (·.1))).toArray 0)).get? b=some o->v.get? b=some o)->∀z∈zs.map (λz:Pz=>(z.1,z.2.1,z.2.2.2)),Ov v z.1 z.2.1 z.2.2/\z.2.2.length=n:=by
  intro v Y z0 G;obtain⟨z,hm,rfl⟩:=aP.mp G;obtain⟨M,T,e3⟩:=hz z hm;have kk:∀b o,f.get? b=some o->v.get? b=some o:=λb o e=>Y b o (aV (aH e)) (ar _ e);obtain⟨_,D,r,o,g1,K,k,g3⟩:=(show Γ X.prog X.w H f z.1 (.tup [.ref z.2.1,z.2.2.1])from J.ψ z.1 _ M);obtain⟨_,P,U,r2,g4⟩:=(show Γ X.prog X.w H f z.2.1 (.lst (z.2.2.2.map V.int))from J.ψ z.2.1 _ T);refine⟨⟨?_,P,U,none,#[],kk _ _ (by simpa[seqObj]using g4),by rw[<-r2.length,aa],λj g=>zD r2 j g⟩,e3⟩
  match D,r with
  | [u1,u2],.cons a1 _=>
    cases(show u1=Value.ref z.2.1 from a1);exact⟨o,[u2],k,kk _ _ g1,K,g3⟩
 have R:((zs.map (λz:Pz=>(z.1,z.2.1,z.2.2.2))).map (·.2.2)).Nodup:=by rw[cZ];exact nd
 have E:∀i,i<zs.length->((zs.map (·.2.2.2)).getD i []).length=n:=λi c=>by
  rw[aX,aA,ao c];exact(hz _ (dj c)).2.2
 have W:Lin (zs.map (Value.ref ∘ (·.1))).length (λi j=>Θ ((zs.map (·.2.2.2)).getD i []) ((zs.map (·.2.2.2)).getD j [])):=by
  rw[B];refine⟨λi j c g ne e=>BG ((E i c).trans (E j g).symm) (λz=>ne ?_) e,λi j k _ _ _ M T=>Bf M T⟩;refine(fS (show i<(zs.map (·.2.2.2)).length by rw[aa];exact c) nd).mp ?_;rw[aX,aX,aA,aA,ao c,ao g]at z;rw[aA,aA,ao c,ao g];exact congrArg some z
 have em:zs.map (Value.ref ∘ (·.1))=(zs.map (λz:Pz=>(z.1,z.2.1,z.2.2.2))).map λz=>Value.ref z.1:=by rw[cZ];rfl
 refine ak (gL (gP slot_list_sort ⟨_,y,rfl⟩ entry_list_sort (Fk W y (by rw[B];exact O) (λK v Y=>?_) λp S ps=>⟨_,rfl,?_⟩) (args_list_sort _)))
 .obtain⟨κ,q1,q2⟩:=Sa (prog:=X.prog) (w:=X.w) (A:=X.A.in1.in1) (s:={ s with heap:=v }) (zs:=zs.map (λz:Pz=>(z.1,z.2.1,z.2.2.2))) (n:=n) (by show X.A.units+1+1<cLine;lia) (N v Y) R (by rw[aa];rw[B]at K;exact K);rw[<-em]at q1 q2;refine⟨κ,q1,λi j C c g hC=>q2 i j C c g ?_⟩;rw[cZ];exact hC
 .refine ba ⟨_,rfl,?_⟩;rw[B]at S;have x:∀i∈p,i<zs.length:=λi c=>bU.mp (S.mem_iff.mp c);obtain⟨d,L⟩:∃d:List Pz,d=p.map λi=>zs.getD i (0,0,.ω,[]):=⟨_,rfl⟩;have Z:d.Perm zs:=by
   rw[L];refine(S.map _).trans ?_;rw[DM]
  have yl:d.length=zs.length:=Z.length_eq;have eo:(p.map λi=>(zs.map (Value.ref ∘ (·.1))).getD i Value.none)=(d.map (·.1)).map Value.ref:=by
   rw[L,cZ,cZ];refine bZ λi c=>?_;have c:=x i c;simp[c]
  have yo:(d.map (·.2.2.2)).Pairwise λa b=>Θ a b=true:=by
   rw[L,cZ,fP];refine ps.imp_of_mem λ{i j} c g h=>?_;have c:=x i c;have g:=x j g;rw[aX,aX,aA,aA,ao c,ao g]at h;show Θ (zs.getD i _).2.2.2 (zs.getD j _).2.2.2=true;rw[aX,aX,ao c,ao g];exact h
  rw[eo];obtain⟨k,hk⟩:∃k,(sortedHeap (f.push (seqObj "list" (zs.map (Value.ref ∘ (·.1))).toArray 0)) f.objs.size (zs.map (Value.ref ∘ (·.1))) ((d.map (·.1)).map Value.ref).toArray).get? f.objs.size=some (seqObj "list" ((d.map (·.1)).map Value.ref).toArray k):=sortedHeap_at y;refine⟨.ref f.objs.size,_,J.laid (a:=f.objs.size) (o:=.lst (d.map λz=>V.ref z.1)) (t':=s.toks) (λb u e=>?_) (ap _) ⟨?_,(d.map (·.1)).map Value.ref,k,?_,?_⟩,rfl,q _ d (J.ψ.fresh (ap _)) Z yo⟩
  .show(sortedHeap (f.push (seqObj "list" (zs.map (Value.ref ∘ (·.1))).toArray 0)) f.objs.size (zs.map (Value.ref ∘ (·.1))) ((d.map (·.1)).map Value.ref).toArray).get? b=_;rw[sortedHeap_old (aV (aH e)) (aZ (aH e) (by rw[df];exact fD _))];exact ar _ e
  .rw[aa,yl];exact cm (by lia)
  .rw[show d.map (λz=>V.ref z.1)=(d.map (·.1)).map V.ref by rw[cZ];rfl];exact DG _
  .simpa[seqObj]using hk
theorem MH{A:Around}{s:Shared}{l b:Addr}{f g:f3}(i:A.units<cLine)(o:xJ s.heap l f)(m:xJ s.heap b g)(e:f.length=g.length):EqAt A s (.ref l) (.ref b) (decide (f=g)):=by
 by_cases c:f=g
 .by_cases n:l=b
  .rw[n,bh c];exact EqAt.same _
  .obtain⟨it1,n1,d1,s1,o1,l1,v1⟩:=o;obtain⟨z,v,D,B,y,C,q⟩:=m;have k:RcAt A s (.ref l) (.ref b) ((List.range it1.toArray.size).all λ_=>true):=RcAt.lists ⟨_,o1,rfl,n1,rfl⟩ ⟨_,y,rfl,v,rfl⟩ (by simp;lia) i λj r x=>by
    obtain⟨t,a⟩:=v1 j (by simpa using r);obtain⟨u,d⟩:=q j (by simpa using x);have:=EqAt.int_int (A:=A.in1) (s:=s) (f.getD j 0) t (g.getD j 0) u;rw[c,beq_self_eq_true]at this;rw[c]at a
    simpa[a,d]using this
   rw[dX.mpr λ_ _=>rfl]at k;rw[bh c];exact EqAt.of_refs n k
 .rw[bA c];exact λp w E Q h=>Bu i o m e c h
theorem Ib{a:gn}{e:St}{H:Hp}{s:Shared}(I:Inv X a e H s){q:Addr}{z:f3}(h:H q=some (.lst (z.map V.int))):xJ s.heap q z:=by
 obtain⟨_,c,b,d,g⟩:=(show Γ X.prog X.w H s.heap q (.lst (z.map V.int))from I.ψ q _ h);exact⟨c,b,none,#[],by simpa[seqObj]using g,by rw[<-d.length,aa],λj f=>zD d j f⟩
def aiU:R2:=λx y H Q=>∃(p b:Addr)(c:gw)(a:List (List Int))(w:f3),x=.ref b/\y=.ref p/\H p=some (.lst (c.map V.ref))/\Paired (λq z=>H q=some (.lst (z.map V.int))/\z.length=w.length) c a/\H b=some (.lst (w.map V.int))/\Q (.bl (decide (w∈a))) H
theorem Ik{e f:Type}{R:e->f->Prop}:∀{l:List e}{d:List f},Paired R l d->(∀p∈l.zip d,R p.1 p.2)/\(l.zip d).map (·.1)=l/\(l.zip d).map (·.2)=d
 | _,_,.nil=>⟨λ_ h=>(by cases h),rfl,rfl⟩
 | _,_,.cons h t=>by
   obtain⟨a,b,c⟩:=Ik t;refine⟨λp hp=>?_,by simp[b],by simp[c]⟩;rcases ax.mp (by simpa using hp)with rfl|hp
   .exact h
   .exact a p hp
theorem Ub(U:X.A.units+64<cLine):iS X (compareOp .In) aiU:=by
 intro z s R H x y v u Q I P L h;obtain⟨p,b,n,k,w,rfl,rfl,M,E,J,q⟩:=h;cases P;cases L;obtain⟨O,r,G,T⟩:=I.list (ξ.of M);have D:=tm r;subst D;obtain⟨m,f,l⟩:=Ik E;have o:=λ(d:Addr×List Int)(h:d∈n.zip k)=>Ib I (m d h).1
 let e:Value->Bool:=λu=>@decide (∃a,u=Value.ref a/\H a=some (.lst (w.map V.int))) (Classical.propDecidable _)
 have t:∀u,e u=true↔∃a,u=Value.ref a/\H a=some (.lst (w.map V.int)):=λu=>@decide_eq_true_iff _ (Classical.propDecidable _);refine SeqAt.in_listAt e G.isList (λy N=>?_) ⟨.bl _,H,I,rfl,?_⟩
 .have hy':y∈n.map Value.ref:=by simpa using N
  obtain⟨a,i,rfl⟩:=aP.mp hy';rw[<-f]at i;obtain⟨d,c,rfl⟩:=aP.mp i;have g:=m d c;have C:=MH (A:=X.A.in1) (s:=s) (by show X.A.units+1<cLine;lia) (o d c) (Ib I J) g.2;have K:e (.ref d.1)=decide (d.2=w):=by
   rw[dU,t,bM];refine⟨λ⟨a,F,B⟩=>?_,λh=>⟨d.1,rfl,by rw[g.1,h]⟩⟩;cases F;rw[g.1]at B;exact Cj (HO.lst.inj (bi B))
  rw[K]
  first|exact C|exact EqAt.of_in1 C
 .have e2:(n.map Value.ref).toArray.any e=decide (w∈k):=by
   rw[dU,bM];simp only[List.any_toArray,lP,t]
   constructor
   .rintro⟨u,hu',a,rfl,i⟩;obtain⟨S,j,e⟩:=aP.mp hu';cases e;rw[<-f]at j;obtain⟨d,c,rfl⟩:=aP.mp j;rw[(m d c).1]at i;rw[<-Cj (HO.lst.inj (bi i)),<-l];exact aP.mpr ⟨d,c,rfl⟩
   .intro h;rw[<-l]at h;obtain⟨d,c,rfl⟩:=aP.mp h;exact⟨_,aP.mpr ⟨d.1,by rw[<-f];exact aP.mpr ⟨d,c,rfl⟩,rfl⟩,d.1,rfl,(m d c).1⟩
  rw[e2];exact q
end
end L2
namespace L2
open PySem
theorem MZ{X:Cx}(K:gg)(c:X.K=K)(b:X.calm=true):lD X (.builtin "sum") (λd H Q=>∃p a,d=[.ref p]/\(ξ K H p (List.map V.int a)\/Ξ K H p (List.map V.int a))/\Q (.int a.sum) H):=by
 subst c;exact vN b
end L2
namespace Pb
open L2 PySem PySem.W NumText PySem.SeqAt
abbrev Κ(H:Hp):List Addr->List (List Int)->Prop:=Paired λp z=>H p=some (.lst (z.map V.int))
theorem Κ.same{H a:Hp}{b:gw}{c:List (List Int)}(e:δ H a)(h:Κ H b c):Κ a b c:=Paired.imp' (λp z x=>e p _ x) h
theorem Κ.snoc{H:Hp}{q:Addr}{z:f3}(e:H q=some (.lst (z.map V.int))):∀{b:gw}{a:List (List Int)},Κ H b a->Κ H (b++[q]) (a++[z])
 | _,_,.nil=>.cons e .nil
 | _,_,.cons x xs=>.cons x (Κ.snoc e xs)
theorem Κ.app{H:Hp}:∀{d b:gw}{c a:List (List Int)},Κ H d c->Κ H b a->Κ H (d++b) (c++a)
 | _,_,_,_,.nil,h=>h
 | _,_,_,_,.cons x xs,h=>.cons x (Κ.app xs h)
theorem Κ.get{H:Hp}:∀{a:gw}{b:List (List Int)}{i:Nat}{x:V},Κ H a b->(a.map V.ref)[i]?=some x->∃p z,x=.ref p/\a[i]?=some p/\b[i]?=some z/\H p=some (.lst (z.map V.int))
 | _,_,0,_,.cons h _,e=>⟨_,_,(bi e).symm,rfl,rfl,h⟩
 | _,_,i+1,_,.cons _ t,e=>Κ.get (i:=i) t e
def Ww(h:Int):Nat->List (List Int)
 | 0=>[[]]
 | k+1=>(Ww h k).flatMap λa=>(b6 (h-a.sum+1).toNat).map λp=>a++[p]
def lyA(h:Int)(k:Nat):List (List Int):=(Ww h k).map λa=>a++[h-a.sum]
theorem qv{h:Int}(g:0<=h):∀{k:Nat}{d:f3},d∈Ww h k↔d.length=k/\(∀x∈d,0<=x)/\d.sum<=h
 | 0,d=>by
   show d∈[[]]↔_;rw[aI];refine⟨λe=>by rw[e];exact⟨rfl,λx hx=>(by cases hx),g⟩,λe=>lA.mp e.1⟩
 | k+1,d=>by
   show d∈(Ww h k).flatMap _↔_;rw[dJ]
   constructor
   .rintro⟨f,hr,hm⟩;obtain⟨p,i,rfl⟩:=aP.mp hm;obtain⟨a,b,c⟩:=(qv g).mp hr;have i:=dN.mp i;refine⟨by rw[aE,a];rfl,λx hx=>?_,by rw[c7];simp;lia⟩;rcases aY.mp hx with hx|hx
    .exact b x hx
    .rw[aI.mp hx];exact i.1
   .rintro⟨a,b,c⟩;rcases eY d with rfl|⟨f,p,rfl⟩
    .cases a
    .rw[eX]at a b c ⊢;rw[aE]at a;rw[c7]at c;have c:f.sum+p<=h:=(by simpa using c);have j:=b p (aW _ (.head _));have l:0<=f.sum:=xE λx hx=>b x (bo _ hx);exact⟨f,(qv g).mpr ⟨by simpa using a,λx hx=>b x (bo _ hx),by lia⟩,aP.mpr ⟨p,dN.mpr ⟨j,by lia⟩,rfl⟩⟩
theorem Dv(h:Int):∀k,(Ww h k).Nodup
 | 0=>List.pairwise_singleton _ _
 | k+1=>by
   show List.Pairwise _ ((Ww h k).flatMap _);rw[List.pairwise_flatMap];refine⟨λa _=>?_,(Dv h k).imp λne x b y c e=>?_⟩
   .rw[fP];exact(hZ _).imp λne e=>ne (by simpa using e)
   .obtain⟨p,_,rfl⟩:=aP.mp b;obtain⟨q,_,rfl⟩:=aP.mp c;exact ne (List.append_inj_left' e rfl)
theorem Jk{h:Int}(e:0<=h):∀k,(Ww h k).length<=(h.toNat+1)^k
 | 0=>ap _
 | k+1=>by
   have d:=Jk e k;have c:∀l:List (List Int),(∀b∈l,0<=b.sum)->(l.flatMap λb=>(b6 (h-b.sum+1).toNat).map λp=>b++[p]).length<=l.length*(h.toNat+1):=λl=>by
    induction l with
    | nil=>intro _;exact bj _
    | cons a l d=>
      intro f;have j:=f a (.head _);have m:=d λx g=>f x (.tail _ g);rw[bC,aE,aa,b7,aF,eT,jC]
      lia
   show((Ww h k).flatMap _).length<=_;refine aL (c _ λb i=>xE ((qv e).mp i).2.1) ?_;rw[eV];exact cY _ d
theorem Cr{h:Int}(f:0<=h){k:Nat}{d:f3}:d∈lyA h k↔d.length=k+1/\(∀x∈d,0<=x)/\d.sum=h:=by
 unfold lyA;rw[aP]
 constructor
 .rintro⟨row,hr,rfl⟩;obtain⟨a,b,c⟩:=(qv f).mp hr;refine⟨by rw[aE,a];rfl,λx hx=>?_,by rw[c7];simp;lia⟩;rcases aY.mp hx with hx|hx
  .exact b x hx
  .rw[aI.mp hx];lia
 .rintro⟨a,b,c⟩;rcases eY d with rfl|⟨e,p,rfl⟩
  .cases a
  .rw[eX]at a b c ⊢;rw[aE]at a;rw[c7]at c;have c:e.sum+p=h:=(by simpa using c);have g:=b p (aW _ (.head _));exact⟨e,(qv f).mpr ⟨by simpa using a,λx hx=>b x (bo _ hx),by lia⟩,by rw[show h-e.sum=p by lia]⟩
theorem Me(h:Int)(k:Nat):(lyA h k).Nodup:=by
 unfold lyA;show List.Pairwise _ (List.map _ _);rw[fP];exact(Dv h k).imp λ{a b} ne (e:a++[h-a.sum]=b++[h-b.sum])=>ne (List.append_inj_left' e (by simp))
section
variable{m r w:Int}{n:hU}{d:f5}{l:gb}{p q:Int->Bool}{c:gb}{s:f3}
def XO(m:Int)(n:hU)(r:Int)(d:f5)(l:gb)(a:f3):List Int:=(bO m n r d l r).map (Φ m n r d l (λv=>a.getD v.toNat 0) (Η n d))
def Num(m:Int)(n:hU)(r:Int)(d:f5)(l:gb)(p q:Int->Bool)(c:gb)(w:Int)(b:f3)(i:Int):Prop:=(b.length:Int)=m/\∃(a f:gb)(e:f5),ϳ m n r d l p q c a f e/\(a r:Int)=w-1/\e r=i/\∀v,0<=v->v<m->b.getD v.toNat 0=if kd m n r d v=[]then(a v:Int)else 0
def YD(m:Int)(n:hU)(r:Int)(d:f5)(l:gb)(w:Int)(a:f3):Prop:=(a.length:Int)=m/\(∀x∈a,0<=x)/\a.sum=gE m n r d (dD m n r d l) w/\Φ m n r d l (λv=>a.getD v.toNat 0) (Η n d) r<w
theorem Num.about(B:Ϛ m n r d l s p q c)(g:Good m n)(R:ζ m n r d l)(j:0<=r)(f:r<m){b:f3}{i:Int}(h:Num m n r d l p q c w b i):YD m n r d l w b/\0<=i/\∃a t o,ϳ m n r d l p q c a t o/\(a r:Int)=w-1/\o r=i/\XO m n r d l b=WO m n r d l a r:=by
 obtain⟨F,a,t,o,N,v,D,y⟩:=h;have SP:=N.adR g R B.or B.hf B.hb B.hc;rw[v]at SP;have C:=SP.Φ g R y;have z:=SP.total g R y j f B.et B.or;have E:∀x∈b,0<=x:=λx H=>by
  obtain⟨i,G,rfl⟩:=List.mem_iff_getElem.mp H;have:=y (i:Int) (by lia) (by lia);rw[bJ,aX,ao G]at this;have e:b[i]=if kd m n r d (i:Int)=[]then(a (i:Int):Int)else 0:=this;rw[e];split<;>lia
 rw[Dz (by lia),show w-1+1=w by lia]at z;have A:∀u∈bO m n r d l r,0<=u/\u<m:=λu k=>((ou g R _ r j f).2 u k).1;refine⟨⟨F,E,z,by rw[C _ r rfl j f,v];lia⟩,by rw[<-D];exact(N.bd g R j f).1,a,t,o,N,v,D,?_⟩;exact bZ λu k=>C _ u rfl (A u k).1 (A u k).2
theorem YD.num(B:Ϛ m n r d l s p q c)(g:Good m n)(R:ζ m n r d l)(e:0<=r)(b:r<m){a:f3}(h:YD m n r d l w a):∃i,Num m n r d l p q c w a i:=by
 obtain⟨y,k,f,z⟩:=h;obtain⟨SP,x⟩:=ML (held:=λv=>a.getD v.toNat 0) g R e b B.et B.or (λv=>Iy k _) (by rw[Dz (by lia)];exact f) z;have j:∀v,0<=v->v<m->0<=Φ m n r d l (λv=>a.getD v.toNat 0) (Η n d) v:=λv _ _=>xF g (λv=>Iy k _) v;obtain⟨u,N⟩:=ϳ.abQ g R e b B.et B.or B.hf B.hb B.hc SP j;exact⟨u r,y,_,_,u,N,by rw[br (j r e b)];exact SP.rt,rfl,λv t o=>by rw[x v t o,br (j v t o)]⟩
theorem Num.order(B:Ϛ m n r d l s p q c)(g:Good m n)(R:ζ m n r d l)(v:0<=r)(u:r<m){f t:f3}{i j:Int}(h:Num m n r d l p q c w f i)(y:Num m n r d l p q c w t j):Θ (XO m n r d l f) (XO m n r d l t)=decide (i<j)/\(f=t↔i=j)/\(XO m n r d l f=XO m n r d l t↔i=j):=by
 obtain⟨_,_,U,T,Z,N,e1,K,A⟩:=h.about B g R v u;obtain⟨_,_,W8,E,Xx,z,P,x,I⟩:=y.about B g R v u;have o:=N.order z g R (λk L S Q=>by have:=(fT g R L S Q).1;rw[B.hc];lia) v u (by lia);rw[K,x,<-A,<-I]at o;refine⟨o.1,⟨λe=>o.2.mp (by rw[e]),λe=>?_⟩,o.2⟩;obtain⟨xl,V,g1,n1,M,f1,X,H⟩:=h;obtain⟨yl,W,g2,Y,O,J,C,F⟩:=y;refine lJ (by lia) λk D G=>?_;have a:=H (k:Int) (by lia) (by lia);have b:=F (k:Int) (by lia) (by lia);rw[(M.inj O g R (by lia) (by lia) _ (k:Int) rfl (by lia) (by lia)).1,<-b,bJ,aX,aX,ao D,ao G]at a;exact a
theorem Rr(B:Ϛ m n r d l s p q c)(g:Good m n)(R:ζ m n r d l)(t:0<=r)(o:r<m)(O:1<=w){k:List (List Int)}(u:∀j,j∈k↔YD m n r d l w j)(y:(k.map (XO m n r d l)).Pairwise λa b=>Θ a b=true):(k.length:Int)=wy m n r d l p q c r (w-1).toNat/\∀(i:Nat) j,k[i]?=some j->Num m n r d l p q c w j i:=by
 have ex:∀j,∃i,j∈k->Num m n r d l p q c w j i:=λj=>by
  by_cases h:j∈k
  .obtain⟨i,hi⟩:=YD.num B g R t o ((u j).mp h);exact⟨i,λ_=>hi⟩
  .exact⟨0,λz=>absurd z h⟩
 obtain⟨f,A⟩:∃f:List Int->Int,∀j∈k,Num m n r d l p q c w j (f j):=⟨λj=>(ex j).choose,λj h=>(ex j).choose_spec h⟩;have up:(k.map f).Pairwise (·<·):=by
  rw[fP]at y ⊢;refine y.imp_of_mem λ{a b} ha hb h=>?_;rw[(Num.order B g R t o (A a ha) (A b hb)).1]at h;exact bN h
 have P:=sZ (fr:=p) (be:=q) (c:=c) g R _ t o (ap _) (w-1).toNat;have eq:k.map f=b6 (wy m n r d l p q c r (w-1).toNat).toNat:=by
  refine ua (gK (up.imp λh e=>by lia) (hZ _) λi=>?_) (up.imp λh=>by lia) (wD _);rw[aP,dN]
  constructor
  .rintro⟨j,hx,rfl⟩;obtain⟨_,x,E,H,N,L,D,_⟩:=A j hx;have:=N.bd g R t o;rw[show x r=(w-1).toNat by lia,D]at this;exact⟨this.1,by lia⟩
  .rintro⟨i0,i1⟩;obtain⟨x,E,H,N,L,D⟩:=ϳ.ex (fr:=p) (be:=q) (c:=c) g R (z:=(w-1).toNat) t o i0 (by lia);have G:Num m n r d l p q c w ((b6 m.toNat).map λv=>if kd m n r d v=[]then(x v:Int)else 0) i:=⟨by have:=g.m1;rw[aa,b7];lia,x,E,H,N,by lia,D,λv K J=>QK (F:=λv=>if kd m n r d v=[]then(x v:Int)else 0) K J⟩;have I:=(u _).mpr (G.about B g R t o).1;exact⟨_,I,((Num.order B g R t o (A _ I) G).2.1.mp rfl)⟩
 have C:=congrArg List.length eq;rw[aa,b7]at C;refine⟨by lia,λi j h=>?_⟩;have M:=(az.mp h).1;have e:(k.map f)[i]?=some (i:Int):=by rw[eq,fL (by lia)]
 rw[aA,h]at e;have e:f j=i:=bi e;have:=A j (aQ h);rw[e]at this;exact this
end
end Pb
namespace Pb
open L2 PySem
instance (w:Str):Decidable (Wd w):=by unfold Wd;exact inferInstance
end Pb
set_option maxHeartbeats 4000000
namespace Pk
open PySem L2 Pb
seal L2.X9 L2.PS L2.PE L2.PT L2.PW L2.PA L2.PG L2.PGs L2.PI L2.PTs L2.PC L2.PPs L2.PO
abbrev top(i:Nat):Stmt:=Hd.top i
local macro_rules|`(tactic| walk_at "") => `(tactic| ((try dsimp only [abC, Lb, DP, Ir, Dw, QX, JI, P8, Lc, JK, K5, OB, Qx, MA, DQ, QQ, KD, Zg, CA, vc, KU, JQ, abo, O9, JE, Ot, ipI, Qj, KZ, Bw, tB, AU, tC, xI, tOp, tUn, ZQ, rI, rU, rEq, rNe, vF, J0, Kj, abr, OS, OV, tCB, tBM, Qg, Q2, Qk, Nh, Dd, Kr, JW, EL, wX, Ye, Yg, NK, tOr, Os, JT, KS, List.nil_append, List.append_nil, List.set_cons_zero, List.set_cons_succ, List.getElem?_cons_zero, List.getElem?_cons_succ]);(try simp only [abC, Lb, DP, Ir, Dw, QX, JI, P8, Lc, JK, K5, OB, Qx, MA, DQ, QQ, KD, Zg, CA, vc, KU, JQ, abo, O9, JE, Ot, ipI, Qj, KZ, Bw, tB, AU, tC, xI, tOp, tUn, ZQ, rI, rU, rEq, rNe, RF, RL, Rg, RM, Sd, Sh, vF, J0, Kj, abr, OS, OV, tCB, tBM, Qg, Q2, Qk, Nh, Dd, Kr, JW, EL, wX, Ye, Yg, NK, tOr, Os, JT, KS, List.nil_append, List.append_nil, List.set_cons_zero, List.set_cons_succ, List.getElem?_cons_zero, List.getElem?_cons_succ, Option.some.injEq, V.int.injEq, V.bl.injEq, V.ref.injEq, List.cons.injEq, exists_eq_left, exists_eq_left', exists_and_left, exists_const, and_true, true_and, decide_eq_true_eq, Bool.not_eq_true', decide_eq_false_iff_not, Bool.true_eq_false, Bool.false_eq_true, if_true, if_false])))
local macro_rules|`(tactic| walk_at "v") => `(tactic| (intro _ _ _ _ h;first|(cases h;(have q := ‹_ = _ /\ _›);rw [q.1];rfl)|((repeat (obtain ⟨_, h⟩ := h));subst_vars;rfl)))
local macro_rules|`(tactic| walk_at "s") => `(tactic| simp only [L2.start, List.map_cons, List.map_nil, List.length_cons, List.length_nil, Nat.reduceAdd, Nat.reduceSub, List.replicate_succ, List.replicate_zero, List.cons_append, List.nil_append])
set_option genSizeOf false in
set_option genInjectivity false in
structure Txt(K:gg)(mg:g8) where
 NoPlace:Addr
 Mc:mg "NoPlace"=some (.ref NoPlace)
 NoRoad:Addr
 Oc:mg "NoRoad"=some (.ref NoRoad)
 BadLaying:Addr
 GW:mg "BadLaying"=some (.ref BadLaying)
 BadWish:Addr
 Mz:mg "BadWish"=some (.ref BadWish)
 TooMany:Addr
 LP:mg "TooMany"=some (.ref TooMany)
 NoNumber:Addr
 AL:mg "NoNumber"=some (.ref NoNumber)
 Web:Addr
 Vt:mg "Web"=some (.ref Web)
 Tally:Addr
 Ci:mg "Tally"=some (.ref Tally)
 xh:pT K NoPlace
 zt:pT K NoRoad
 ue:pT K BadLaying
 xk:pT K BadWish
 xB:pT K TooMany
 sk:pT K NoNumber
 range:mg "range"=none
 zip:mg "zip"=none
 len:mg "len"=none
 isinstance:mg "isinstance"=none
 all:mg "all"=none
 int:mg "int"=none
 bool:mg "bool"=none
 tuple:mg "tuple"=none
 list:mg "list"=none
 reversed:mg "reversed"=none
 sorted:mg "sorted"=none
 min:mg "min"=none
 max:mg "max"=none
 enumerate:mg "enumerate"=none
 sum:mg "sum"=none
 str:mg "str"=none
 set:mg "set"=none
 WQ:∃t,mg "MOST_PLACES"=some (.int 24 t)
 Xn:∃t,mg "LEAST_TOLL"=some (.int 2 t)
 XQ:∃t,mg "MOST_TOLL"=some (.int 1000000 t)
 Wx:∃t,mg "MOST_PEBBLES"=some (.int 1000000000000 t)
 lu:Z5 K Web
 ϕ:Ψ K Web "many"
 Xo:Ψ K Web "roads"
 cV:Z5 K Tally
 RW:Ψ K Tally "web"
 uU:Ψ K Tally "down"
 Xb:Ψ K Tally "weights"
 tV:Ψ K Tally "bearers"
 rA:Ψ K Tally "kids"
 ϴ:Ψ K Tally "rests"
section
variable{P:Program}{w:World}{K:gg}{X:g8}{base:Heap}{CX:Xd}
def tN(T:Txt K X):Sp:=λb H Q _=>E3 λ(m:Int)(t:Addr)(a:List V)=>b=[.int m,.ref t]/\Ξ K H t a/\1<=m/\m<=24/\(a.length:Int)=m-1/\Q .ω H
abbrev md:Stmt:=top 18
theorem AO:η ["many","roads"] ["many","roads"] (aK md):=.of
theorem mE:Ϝ (aK md) "MOST_PLACES":=.of (by kernel_rfl)
theorem Ax(T:Txt K X)(l:cg (Ε P w)):Ok P w K X base "check_counts" md ["many","roads"] 1 (tN T):=λ_ _ D=>by
 refine D.F.Ϙ AO (by walk_at "v") λn A a s H o Q E i h=>?_;obtain⟨m,t,c,rfl,e,b,j,f,k⟩:=h;refine⟨_,(aD (eK (kN (zK vg vg aU (ε 0) (vS mE.g T.WQ (hd:=mE.d)))) (aO qL) dy) (aO (eK (Ϻ r9 (W6 kF T.len (ah (ε 1) aB)) (bn iI (ε 0) aU)) (aO qL) dy))),?_⟩;walk_at "s";walk_at "";rw[aj b,ag (by lia)];exact⟨c,.inr e,by rw[ag (by lia)];exact k⟩
def uf(T:Txt K X):Sp:=λa H Q _=>∃m n:Int,a=[.int m,.int n]/\Q (.bl (decide (0<=n)&&decide (n<m))) H
abbrev pQ:Stmt:=top 17
theorem HP:η ["many","number"] ["many","number"] (aK pQ):=.of
theorem Hi(T:Txt K X)(f:cg (Ε P w)):Ok P w K X base "is_place" pQ ["many","number"] 1 (uf T):=λ_ _ D=>by
 refine D.F.Ϙ HP (by walk_at "v") λb A a s H d Q E e h=>?_;obtain⟨m,n,rfl,k⟩:=h;refine⟨_,(aO (bQ (Pj vg qd aU (ε 1) (ε 0)))),?_⟩;walk_at "s";walk_at "";by_cases c:0<=n
 .simpa[c]using k
 .simpa[c]using k
def wj(T:Txt K X):Sp:=λc H Q _=>E3 λ(m:Int)(p:Addr)(r:Road)=>c=[.int m,.ref p]/\H p=some (.tup (lG r))/\0<=r.a/\r.a<m/\0<=r.b/\r.b<m/\r.a≠r.b/\Q .ω H
abbrev pK:Stmt:=top 19
theorem Em:η ["many","road"] ["many","road"] (aK pK):=.of
theorem ED(T:Txt K X)(f:cg (Ε P w))(g:Cb P w K X base "is_place" pQ ["many","number"] 1 (uf T)):Ok P w K X base "check_ends" pK ["many","road"] 2 (wj T):=λ_ _ D=>by
 refine D.F.Ϙ Em (by walk_at "v") λo A d s H q Q E e h=>?_;obtain⟨m,p,r,rfl,c,j,n,i,l,ne,k⟩:=h;refine⟨_,(aD (eK (PW.pt (BE (kN (my (Ν g e f (ah (ε 0) (ah (Ι jw (ε 1) aU) aB))))) (wU (kN (my (Ν g e f (ah (ε 0) (ah (Ι jw (ε 1) aU) aB)))))))) (aO qL) dy) (aO (eK (Ϻ jU (Ι jw (ε 1) aU) (Ι jw (ε 1) aU)) (aO qL) dy))),?_⟩;walk_at "s";walk_at "";refine W2 c rfl ⟨m,r.a,rfl,_,rfl,?_⟩;rw[ag (by simp[j,n])];refine W2 c rfl ⟨m,r.b,rfl,_,rfl,?_⟩;rw[ag (by simp[i,l])];refine W2 c rfl (W2 c rfl ⟨rfl,?_⟩);rw[ag (by simpa using ne)];exact k
def rC(T:Txt K X):Sp:=λd H Q _=>E4 λ(t:Addr)(c:gw)(a:hU)(n:Int)=>d=[.ref t,.int n]/\Ξ K H t (c.map V.ref)/\ν H c a/\a.length<=1000/\∀l b,H l=none->δ H b->b l=some (.lst ((gi a n).map V.int))->Q (.ref l) b
abbrev nQ:Stmt:=top 22
theorem En:η ["roads","place","ends","road"] ["roads","place"] (aK nQ):=.of
theorem Eo(T:Txt K X)(Y:cg (Ε P w)):Ok P w K X base "other_ends" nQ ["roads","place"] 1 (rC T):=λ_ _ D=>by
 refine D.F.Ϙ En (by walk_at "v") λΑ A C s H vs Q E U h=>?_;obtain⟨t,J,c,n,rfl,N,M,R,k⟩:=h;refine⟨_,(aD (Δ 2 (eD aB)) (aD (fm PassesOwn.never rfl (uL (ε 0)) (ϒ 3) (aD (eK (Ϻ jU (Ι jw (ε 3) aU) (ε 1)) (aO (dq (iU PySem.F.plainAttrs_list PySem.F.slot_list_append PySem.F.type_list_append fN (ε 2) (ah (Ι jw (ε 3) aU) aB)))) dy) (aO (eK (Ϻ jU (Ι jw (ε 3) aU) (ε 1)) (aO (dq (iU PySem.F.plainAttrs_list PySem.F.slot_list_append PySem.F.type_list_append fN (ε 2) (ah (Ι jw (ε 3) aU) aB)))) dy)))) (aO (bQ (ε 2))))),?_⟩;walk_at "s";walk_at "";refine⟨by decide,λl m=>?_⟩;have j:J.length=c.length:=Paired.length M;refine⟨⟨_,δ.tup (δ.new _ m) N⟩,CO (xs:=J.map V.ref) (λi q u=>u=upd H l (.lst ((gi (c.take i) n).map V.int))/\∃v,q=[some (.ref t),some (.int n),some (.ref l),v]) ⟨rfl,_,rfl⟩ (λi q u _ z=>by rw[z.1];exact δ.tup (δ.new _ m) N) ?_ ?_⟩
 .rintro i x q u hi ⟨rfl,v,rfl⟩;obtain⟨p,r,rfl,S,L,I⟩:=M.get hi;have O:p≠l:=cq I m;have Z:i<c.length:=(az.mp L).1;have B:c.take (i+1)=c.take i++[r]:=by rw[bK,L];rfl
  have W:(gi (c.take i) n).length<=2000:=aL (GN _ _) (by rw[bq];lia);have f:∀o,upd H l o p=some (.tup (lG r)):=λo=>by rw[aR O];exact I
  walk_at "";refine W2 (f _) rfl ?_;walk_at "";have d:∀(G:f3),(gi (c.take i) n++G)=gi (c.take (i+1)) n->upd H l (.lst ((gi (c.take i) n).map V.int++G.map V.int))=upd H l (.lst ((gi (c.take (i+1)) n).map V.int)):=λG e=>by
   rw[<-aw,e]
  have y:tM n r=(if r.a=n then[r.b]else[])++(if r.b=n then[r.a]else[]):=rfl;by_cases g:r.a=n
  .rw[aj g];refine⟨Io ay,W2 (f _) rfl (o9 ay (d5 (by rw[aa];lia)) ?_)⟩;rw[sx];refine W2 (f _) rfl ?_;walk_at "";by_cases cb:r.b=n
   .rw[aj cb];refine⟨Io ay,W2 (f _) rfl (o9 ay (d5 (by rw[aE,aa];simp;lia)) ?_)⟩;rw[sx,bX];exact⟨d [r.b,r.a] (by rw[B,tP,y,aj g,aj cb];rfl),_,rfl⟩
   .rw[ag cb];exact⟨d [r.b] (by rw[B,tP,y,aj g,ag cb];rfl),_,rfl⟩
  .rw[ag g];refine W2 (f _) rfl ?_;walk_at "";by_cases cb:r.b=n
   .rw[aj cb];refine⟨Io ay,W2 (f _) rfl (o9 ay (d5 (by rw[aa];lia)) ?_)⟩;rw[sx];exact⟨d [r.a] (by rw[B,tP,y,ag g,aj cb];rfl),_,rfl⟩
   .rw[ag cb];have:=d [] (by rw[B,tP,y,ag g,ag cb];rfl);rw[d6,bH]at this;exact⟨this,_,rfl⟩
 .rintro q u ⟨rfl,v,rfl⟩;rw[aa,j,bx];exact⟨_,rfl,k l _ m (δ.new _ m) ay⟩
def nU(a:f3):List (Key×V):=a.map λk=>((Sum.inl k:Key),V.bl true)
theorem DB(a:f3):(nU a).length=a.length:=by unfold nU;rw[aa]
theorem FC(a:f3)(e:Int):gh (nU a) (Sum.inl e:Key)=if e∈a then some (V.bl true)else none:=by
 unfold nU
 induction a with
 | nil=>rfl
 | cons k a ih=>
   rw[aq];by_cases c:k=e
   .rw[jh (by rw[c]),aj (by rw[c];exact aJ)]
   .rw[jd (λz=>c (Sum.inl.inj z)),ih];by_cases d:e∈a
    .rw[aj d,aj (aG _ d)]
    .rw[ag d,ag (λz=>by rcases ax.mp z with z|z;exact c z.symm;exact d z)]
theorem QZ{a:f3}{e:Int}(h:e∉a):iG (nU a) (Sum.inl e:Key) (V.bl true)=nU (a++[e]):=by
 rw[Fa _ (by rw[FC,ag h])];unfold nU;rw[aw]
 rfl
def tZ(T:Txt K X):Sp:=λd H Q _=>E4 λ(m:Int)(t:Addr)(c:gw)(a:hU)=>d=[.int m,.ref t]/\Ξ K H t (c.map V.ref)/\ν H c a/\Good m a/\∀b,δ H b->Q .ω b
abbrev oA:Stmt:=top 21
theorem B0:η ["many","roads","reached","waiting","place","end"] ["many","roads"] (aK oA):=.of
theorem BI(T:Txt K X)(hq:cg (Ε P w))(mq:Cb P w K X base "other_ends" nQ ["roads","place"] 1 (rC T)):Ok P w K X base "check_joined" oA ["many","roads"] 2 (tZ T):=λ_ _ D=>by
 refine D.F.Ϙ B0 (by walk_at "v") λΑ A ad s H vs Q E hr h=>?_;obtain⟨m,t,ps,r,rfl,ht,hp,g,k⟩:=h;have hu:=sg hr;refine⟨_,(aD (Δ 2 (Il (FZ aU rX Jt) rfl rfl (List.cons_ne_nil _ _) (by decide))) (aD (Δ 3 (eD (ah aU aB))) (aD (pA PassesOwn.never (sY (ε 3) (λ_=>rfl)) (aD (Δ 4 (Ay PySem.F.plainAttrs_list PySem.F.slot_list_pop PySem.F.type_list_pop BL (ε 3))) (aO (fm PassesOwn.never rfl (gY (Ν mq hr hq (ah (ε 1) (ah (ε 4) aB)))) (ϒ 5) (aO (eK (FW (LD hu (ε 5) (ε 2))) (aD (xT hu (ε 2) (ε 5) rX rfl) (aO (dq (iU PySem.F.plainAttrs_list PySem.F.slot_list_append PySem.F.type_list_append fN (ε 3) (ah (ε 5) aB))))) dy)))))) (aO (eK (Ϻ r9 (W6 MB T.len (ah (ε 2) aB)) (ε 0)) (aO qL) dy))))),?_⟩;walk_at "s";have m1:=g.m1;have Ο:=g.Ο;have bd:=g.len;walk_at "";intro d hd;refine⟨ay,[(Sum.inl 0,.bl true)],rfl,by decide,?_⟩;rw[sx];refine⟨by decide,λu W=>?_⟩;have ed:jS [] [((Sum.inl 0:Key),V.bl true)]=nU [0]:=rfl;rw[ed];have y:u≠d:=λz=>by rw[z,ay]at W;cases W
 have U:H u=none:=by rw[aR y]at W;exact W
 refine u9 (λn G R=>E4 λ(C N:f3)(v4 I:Option V)=>n=2*(m.toNat-C.length)+N.length/\G=[some (.int m),some (.ref t),some (.ref d),some (.ref u),v4,I]/\δ H R/\R d=some (.dK (nU C))/\R u=some (.lst (N.map V.int))/\XF m r C N) _ ⟨[0],[0],none,none,rfl,rfl,?_,?_,ay,XF.start m1⟩ ?_
 .exact δ.trans (δ.new _ hd) (δ.new _ W)
 .rw[aR y.symm,ay]
 rintro n G R NW hN Xk ⟨C,N,v4,I,rfl,rfl,sm,Z,S,J⟩;have kl:=fC (by lia) J.nd J.Χ;refine⟨_,rfl,!(N.map V.int).isEmpty,.inl ⟨_,ξ.of S,rfl⟩,?_⟩;rcases eY N with rfl|⟨j,p,rfl⟩
 .-- nothing adU: all places have bm reached
  have a0:=J.all m1 g.jn;refine Ud ?_;walk_at "";refine⟨nU C,Z,?_⟩;rw[DB,ag (by lia)];exact k _ sm
 .rw[eX]at J S hN Xk ⊢;have e1:(!(List.map V.int (j++[p])).isEmpty)=true:=by simp
  rw[e1];refine SZ ⟨NW,Xk,?_⟩;walk_at "";rw[aw,aq,d6]at S;refine⟨Io S,Lh S ?_⟩;have L:d≠u:=y.symm;have v:δ H (upd R u (.lst (j.map V.int))):=λb o e=>by rw[aR (cq e U)];exact sm b o e
  refine⟨t,ps,r,p,rfl,δ.tup v ht,ν.same v hp,by lia,λl H3 hn s3 hl=>?_⟩;have ae:u≠l:=cq (o:=.lst (j.map V.int)) ay hn;have ac:d≠l:=cq (o:=.dK (nU C)) (by rw[aR L];exact Z) hn;have bs:H l=none:=v.free hn;refine⟨l,rfl,⟨_,ξ.of hl⟩,ww (K:=K) (xs:=(gi r p).map V.int) (λi G B=>∃(I:Option V),G=[some (.int m),some (.ref t),some (.ref d),some (.ref u),some (.int p),I]/\δ H B/\B l=some (.lst ((gi r p).map V.int))/\∃a f:List Int,B d=some (.dK (nU a))/\B u=some (.lst (f.map V.int))/\Xj m r p ((gi r p).take i) a f C j.length) ?_ (λi G B _ z=>by obtain⟨_,_,_,z,_⟩:=z;exact ξ.of z) ?_ ?_⟩
  .refine⟨_,rfl,v.trans s3,hl,C,j,?_,?_,?_⟩
   .exact s3 _ _ (by rw[aR L];exact Z)
   .exact s3 _ _ ay
   .rw[fh];exact Xj.start J
  .rintro i x G B NI hI hi ⟨I,rfl,s4,hl4,a,f,hd4,hw4,M⟩;rw[aA]at hi;obtain⟨e,he,rfl⟩:∃e,(gi r p)[i]?=some e/\V.int e=x:=by
    cases q:(gi r p)[i]? with
    | none=>rw[q]at hi;cases hi
    | some e=>rw[q]at hi;exact⟨e,rfl,bi hi⟩
   have er:=Oj g.ok (aQ he);have et:(gi r p).take (i+1)=(gi r p).take i++[e]:=(by rw[bK,he];rfl);have st:=M.step er.1 er.2;have k4:=fC (by lia) M.nd M.Χ;have Y:=M.mu;walk_at "";refine⟨_,ϵ.k (k:=Sum.inl e) hd4,?_⟩;rw[FC];by_cases c:e∈a
   .rw[aj c];rw[ag (by simp)];refine hI _ _ ⟨_,rfl,s4,hl4,a,f,hd4,hw4,?_⟩;rw[et];unfold Bh at st;rw[aj c]at st;exact st
   .rw[ag c];rw[aj (by simp)];refine⟨_,WM.k (k:=Sum.inl e) hd4 (d5 (by rw[DB];lia)),?_⟩;rw[QZ c];have O:upd B d (.dK (nU (a++[e]))) u=some (.lst (f.map V.int)):=(by rw[aR y];exact hw4);refine⟨Io O,o9 O (d5 (by rw[aa];have:=M.wl;lia)) ?_⟩;have a6:=M.mu;refine hI _ _ ⟨_,rfl,λb o z=>?_,?_,a++[e],f++[e],?_,?_,?_⟩
    .rw[aR (cq z U),aR (cq z hd)];exact s4 b o z
    .rw[aR ae.symm,aR ac.symm];exact hl4
    .rw[aR L,ay]
    .rw[ay,aw];rfl
    .rw[et];unfold Bh at st;rw[ag c]at st;exact st
  .rintro G B ⟨I,rfl,s4,hl4,a,f,hd4,hw4,M⟩;rw[aa,bx]at M;have k4:=fC (by lia) M.nd M.Χ;have Y:=M.mu;have be:=M.up;refine hN _ _ _ ?_ ⟨a,f,some (.int p),I,rfl,rfl,s4,hd4,hw4,M.done⟩;rw[aE];simp only[aF,dW]
   lia
def uJ(T:Txt K X):Sp:=λb H Q _=>∃(p:Addr)(r:Road),b=[.ref p]/\H p=some (.tup (lG r))/\2<=r.t/\r.t<=1000000/\2<=r.u/\r.u<=1000000/\∀a,δ H a->Q .ω a
abbrev kX:Stmt:=top 20
theorem Da:η ["road","number"] ["road"] (aK kX):=.of
theorem nB:Ϝ (aK kX) "LEAST_TOLL":=.of (by kernel_rfl)
theorem nL:Ϝ (aK kX) "MOST_TOLL":=.of (by kernel_rfl)
theorem B8(T:Txt K X)(I:cg (Ε P w)):Ok P w K X base "check_tolls" kX ["road"] 1 (uJ T):=λ_ _ D=>by
 refine D.F.Ϙ Da (by walk_at "v") λL A c s H M Q E G h=>?_;obtain⟨p,r,rfl,f,l,m,C,j,k⟩:=h;refine⟨_,(aO (fm PassesOwn.never rfl (uL (jR (ah (Ι jw (ε 0) aU) (ah (Ι jw (ε 0) aU) aB)))) (ϒ 1) (aO (eK (kN (zK vg vg (vS nB.g T.Xn (hd:=nB.d)) (ε 1) (vS nL.g T.XQ (hd:=nL.d)))) (aO qL) dy)))),?_⟩;walk_at "s";walk_at "";refine W2 f rfl (W2 f rfl ⟨cm (by simp),λq y=>?_⟩);have e:upd H q (.tup [.int r.t,.int r.u]) q=some (.tup [.int r.t,.int r.u]):=ay;refine⟨⟨_,Ξ.of e⟩,CO (K:=K) (xs:=[.int r.t,.int r.u]) (λi a b=>b=upd H q (.tup [.int r.t,.int r.u])/\∃v,a=[some (.ref p),v]) ⟨rfl,_,rfl⟩ (λi a b _ z=>by rw[z.1];exact Ξ.of e) ?_ ?_⟩
 .rintro i x a b hi ⟨rfl,v,rfl⟩;have B:∃n:Int,x=.int n/\2<=n/\n<=1000000:=by
   match i,hi with
   | 0,hi=>exact⟨r.t,by simpa using hi.symm,l,m⟩
   | 1,hi=>exact⟨r.u,by simpa using hi.symm,C,j⟩
  obtain⟨n,rfl,o,J⟩:=B;walk_at "";rw[aj o,ag (by lia)];exact⟨_,rfl⟩
 .rintro a b ⟨rfl,v,rfl⟩;exact k _ (δ.new _ y)
def AZ(m:Int)(t:Addr):List (Str×V):=bF "roads" (.ref t) (bF "many" (.int m) [])
theorem Vw:¬(("many":Str)="roads"):=by decide +kernel
theorem jV(m:Int)(t:Addr):(AZ m t).lookup ("many":Str)=some (.int m):=by
 unfold AZ;rw[cI,ag Vw,cI,aj rfl]
theorem y7(m:Int)(t:Addr):(AZ m t).lookup ("roads":Str)=some (.ref t):=by
 unfold AZ;rw[cI,aj rfl]
structure χ(C:Addr)(H:Hp)(p:Addr)(m:Int)(t:Addr)(ps:gw)(rs:hU):Prop where
 ob:∃dx,H p=some (.ins C dx (AZ m t))
 tu:H t=some (.tup (ps.map V.ref))
 ro:ν H ps rs
 go:Good m rs
theorem χ.same{C:Addr}{H b:Hp}{p:Addr}{m:Int}{t:Addr}{c:gw}{a:hU}(e:δ H b)(h:χ C H p m t c a):χ C b p m t c a:=⟨let ⟨dx,q⟩:=h.ob;⟨dx,e _ _ q⟩,e _ _ h.tu,ν.same e h.ro,h.go⟩
def pO(T:Txt K X):Sp:=λh H Q _=>E7 λ(p g:Addr)(m:Int)(c:Bool)(a:Addr)(f:gw)(d:hU)=>h=[.ref p,.int m,.ref a]/\H p=some (.ins T.Web g [])/\Ϫ K c H a (f.map V.ref)/\ν H f d/\Good m d/\∀t e,H t=none->χ T.Web e p m t f d->(∀b o,H b=some o->b≠p->e b=some o)->Q .ω e
abbrev jc:Stmt:=IU (top 13) 0
theorem BK:η ["self","many","roads","kept","road"] ["self","many","roads"] (aK jc):=.of
theorem Bc(T:Txt K X)(y:cg (Ε P w)){f:Addr}{fd:FuncData}(F:Yh K "__init__" "Web.__init__" jc f fd)(qo:Cb P w K X base "check_counts" md ["many","roads"] 1 (tN T))(tI:Cb P w K X base "check_ends" pK ["many","road"] 2 (wj T))(qB:Cb P w K X base "check_joined" oA ["many","roads"] 2 (tZ T))(rN:Cb P w K X base "check_tolls" kX ["road"] 1 (uJ T)):ϓ P w K X base (Ε P w) 3 f fd ["self","many","roads"] (pO T):=by
 refine F.Ϙ BK (by walk_at "v") λΑ A Y s H vs Q E J h=>?_;obtain⟨p,R,m,c,a,d,rs,rfl,W,ha,j,g,k⟩:=h;refine⟨_,(aD (Δ 3 (Za oW T.tuple (ah (gZ rfl (tx (Nc:=["road"]) 1 (by decide +kernel) (by decide +kernel) rfl (by decide +kernel) rfl) (Lm c (ε 2)) (λ_ _ _ _=>(fe (i:=0) (show(["road"]:hD).Nodup from by decide +kernel) rfl (Or.inl rfl))) (λ_ _ _ _=>jg) (λ_ _ _ _=>(DH (CZ K rfl) (by rfl) T.tuple Fo (ah (pv 0) aB)))) aB))) (aD (dq (Ν qo J y (ah (ε 1) (ah (ε 3) aB)))) (aD (fm PassesOwn.never rfl (uL (ε 3)) (ϒ 4) (aD (dq (Ν tI J y (ah (ε 1) (ah (ε 4) aB)))) (aO (dq (Ν rN J y (ah (ε 4) aB)))))) (aD (dq (Ν qB J y (ah (ε 1) (ah (ε 3) aB)))) (aD (rd (ε 0) (ε 1) rfl) (aO (rd (ε 0) (ε 3) rfl))))))),?_⟩;walk_at "s";walk_at "";refine⟨⟨_,ha⟩,λl I=>?_⟩;have af:d.length=rs.length:=Paired.length j;have a5:=g.len;have Ο:=g.Ο;have a7:δ H (upd H l (.lst [])):=δ.new _ I;refine lQ (K:=K) (xs:=d.map V.ref) (λi O n L=>L=upd H l (.lst ((d.take i).map V.ref))/\O=(d.take i).map V.ref/\∃v,n=[v]) ⟨rfl,rfl,_,rfl⟩ (λi O n L _ ⟨z,_⟩=>by rw[z];exact δ.WZ (δ.new _ I) ha) ?_ ?_
 .rintro i x O n L N hN hi ⟨rfl,rfl,v,rfl⟩;obtain⟨q,r,rfl,U,h2,C⟩:=j.get hi;have nq:q≠l:=cq C I;have Yv:i<d.length:=(az.mp U).1;have et:d.take (i+1)=d.take i++[q]:=by rw[bK,U];rfl
  walk_at "";refine⟨lG r,.inr ⟨Ξ.of (by rw[aR nq];exact C),ay,d5 (by rw[aa,bq];lia),hN _ _ _ ⟨?_,?_,_,rfl⟩⟩⟩
  .rw[sx,et,aw];rfl
  .rw[et,aw];rfl
 .rintro O n L ⟨rfl,rfl,v,rfl⟩;rw[aa,bx];refine⟨l,rfl,d.map V.ref,.inl ⟨ξ.of ay,λt ht=>?_⟩⟩;have S:δ H (upd H l (.lst (d.map V.ref))):=δ.new _ I;have s2:δ (upd H l (.lst (d.map V.ref))) (upd (upd H l (.lst (d.map V.ref))) t (.tup (d.map V.ref))):=δ.new _ ht;have B:H t=none:=S.free ht;have u:∀{H':Hp},δ (upd (upd H l (.lst (d.map V.ref))) t (.tup (d.map V.ref))) H'->H' t=some (.tup (d.map V.ref)):=λe=>e _ _ ay;refine⟨m,t,d.map V.ref,rfl,Ξ.of ay,g.m1,g.Ο,by rw[aa];lia,⟨_,Ξ.of ay⟩,?_⟩;refine FV (K:=K) (xs:=d.map V.ref) (λi n M=>δ (upd (upd H l (.lst (d.map V.ref))) t (.tup (d.map V.ref))) M/\∃v,n=[some (.ref p),some (.int m),some (.ref a),some (.ref t),v]) ⟨δ.refl _,_,rfl⟩ (λi n M _ ⟨z,_⟩=>Ξ.of (u z)) ?_ ?_
  .rintro i x n M N hN hi ⟨s3,v,rfl⟩;have D:=S.trans (s2.trans s3);obtain⟨q,r,rfl,U,h2,C⟩:=j.get hi;have ok:=g.ok r (aQ h2);walk_at "";refine⟨m,q,r,rfl,D _ _ C,ok.a0,ok.a1,ok.b0,ok.b1,ok.ne,?_⟩;exact⟨q,r,rfl,D _ _ C,ok.t0,ok.t1,ok.u0,ok.u1,λH4 G=>hN _ _ ⟨s3.trans G,_,rfl⟩⟩
  .rintro n M ⟨s3,v,rfl⟩;have D:=S.trans (s2.trans s3);walk_at "";refine⟨m,t,d,rs,rfl,Ξ.of (u s3),ν.same D j,g,λH4 G=>?_⟩;have Z:=D.trans G;have ab:t≠p:=λz=>by rw[z,W]at B;cases B
   refine⟨T.Web,R,[],Z _ _ W,T.lu,T.ϕ,by decide,?_⟩;refine⟨T.Web,R,_,ay,T.lu,T.Xo,by show 1<1000;decide,?_⟩;rw[sx];refine k t _ B ⟨⟨R,ay⟩,?_,?_,g⟩ λb o hb nb=>?_
   .rw[aR ab];exact u (s3.trans G)
   .refine Paired.imp' (λq r y=>?_) j;rw[aR (gV y W (by intro z;cases z))];exact Z _ _ y
   .rw[aR nb];exact Z _ _ hb
theorem Um(T:Txt K X){H:Hp}{m:Int}{c:Bool}{a:Addr}{i:gw}{h:hU}{Q:Addr->Hp->Prop}(r:Ϫ K c H a (i.map V.ref))(q:ν H i h)(g:Good m h)(k:∀x t f,H x=none->H t=none->δ H f->χ T.Web f x m t i h->Q x f):∀x d,H x=none->H d=none->d≠x->pO T [.ref x,.int m,.ref a] (upd (upd H d (.own x)) x (.ins T.Web d [])) (λv s=>v=.ω/\Q x s) E0:=by
 intro x d p l ne;have n:upd H d (.own x) x=none:=by rw[aR ne.symm];exact p
 have j:δ H (upd (upd H d (.own x)) x (.ins T.Web d [])):=(δ.new _ l).trans (δ.new _ n);exact⟨x,d,m,c,a,i,h,rfl,ay,δ.WZ j r,ν.same j q,g,λt f y W u=>⟨rfl,k x t f p (j.free y) (λb o e=>u b o (j b o e) (cq e p)) W⟩⟩
def RQ(H:Hp)(d:Addr)(e:hU)(n:Nat):Prop:=∃c,H d=some (.dT c)/\(c.length<=2*n/\∀p∈c,∃a b:Int,p.1=[.inl a,.inl b])/\∀a b:Int,(∀i x,i<n->e[i]?=some x->ss x a b->gh c [.inl a,.inl b]=(iV a b x).map V.int)/\((∀i x,i<n->e[i]?=some x->¬ss x a b)->gh c [.inl a,.inl b]=none)
structure ϧ(H:Hp)(d:Addr)(rs:hU):Prop where
 ex:∃θ,H d=some (.dT θ)/\∀a b:Int,gh θ [.inl a,.inl b]=(cN rs a b).map V.int
 ks:∃θ,H d=some (.dT θ)/\θ.length<=2*rs.length/\∀p∈θ,∃a b:Int,p.1=[.inl a,.inl b]
theorem ϧ.same{H c:Hp}{d:Addr}{b:hU}(e:δ H c)(h:ϧ H d b):ϧ c d b:=by
 obtain⟨k,i,j⟩:=h.ex;obtain⟨a,g,f⟩:=h.ks;exact⟨⟨k,e _ _ i,j⟩,⟨a,e _ _ g,f⟩⟩
def xz(T:Txt K X):Sp:=λe H Q _=>E4 λ(l:Addr)(c:gw)(m:Int)(a:hU)=>e=[.ref l]/\H l=some (.lst (c.map V.ref))/\ν H c a/\Good m a/\∀d b,H d=none->δ H b->ϧ b d a->Q (.ref d) b
abbrev qR:Stmt:=top 76
theorem Fs:η ["roads","tolls","one","other","there","back"] ["roads"] (aK qR):=.of
theorem Gq(T:Txt K X)(hq:cg (Ε P w)):Ok P w K X base "_law_tolls" qR ["roads"] 1 (xz T):=λ_ _ D=>by
 refine D.F.Ϙ Fs (by walk_at "v") λΑ A Y s H vs Q E hr h=>?_;obtain⟨l,ps,m,I,rfl,hl,ro,g,k⟩:=h;have hu:=sg hr;refine⟨_,(aD (Δ 1 OC) (aD (fm PassesOwn.never rfl (gY (ε 0)) (kM (n:=4) rfl (cz (ϒ 2) (cz (ϒ 3) (cz (ϒ 4) (cz (ϒ 5) iM))))) (aD (xT hu (ε 1) (jR (ah (ε 2) (ah (ε 3) aB))) (ε 4) rfl) (aO (xT hu (ε 1) (jR (ah (ε 3) (ah (ε 2) aB))) (ε 5) rfl)))) (aO (bQ (ε 1))))),?_⟩;walk_at "s";walk_at "";intro d hd;have s0:=δ.new (.dT []) hd;have f:ps.length=I.length:=Paired.length ro;have a4:=g.len;have Ο:=g.Ο;refine⟨⟨_,ξ.of (s0 _ _ hl)⟩,?_⟩;refine ww (K:=K) (xs:=ps.map V.ref) (λi J y=>δ H y/\RQ y d I i/\∃L B W Z,J=[some (V.ref l),some (V.ref d),L,B,W,Z]) ⟨s0,⟨[],ay,⟨by simp,λp U=>nomatch U⟩,λa b=>⟨λi x c=>absurd c (jk _),λ_=>rfl⟩⟩,_,_,_,_,rfl⟩ (λi J y _ z=>ξ.of (z.1 _ _ hl)) ?_ ?_
 .rintro i x J y N hN G ⟨s2,⟨θ,hk,⟨hkl,Zx⟩,YF⟩,L,B,W,Z,rfl⟩;obtain⟨q,r,rfl,h1,C,h3⟩:=ro.get G;have Yv:i<I.length:=(az.mp C).1;have ok:=g.ok r (aQ C);walk_at "";refine⟨_,Ξ.of (s2 _ _ h3),rfl,_,_,rfl,_,_,rfl,_,_,rfl,_,_,rfl,rfl,?_⟩;refine⟨cm (by simp),λp1 n1=>⟨_,WM.t (k:=[.inl r.a,.inl r.b]) (δ.new (.tup [V.int r.a,V.int r.b]) n1 _ _ hk) ay (d5 (by lia)),cm (by simp),λp2 S=>?_⟩⟩;have l1:=oP θ [Sum.inl r.a,Sum.inl r.b] (V.int r.t);have M:d≠p2:=λz=>by rw[<-z,ay]at S;cases S
  refine⟨_,WM.t (k:=[.inl r.b,.inl r.a]) (by rw[aR M];exact ay) ay (d5 (by lia)),hN _ _ ⟨?_,⟨_,ay,?_,?_⟩,_,_,_,_,rfl⟩⟩
  .intro b o hb;have nd:b≠d:=cq hb hd;have b2:=s2 _ _ hb;have O:b≠p1:=cq b2 n1;have b3:upd (upd y p1 (.tup [V.int r.a,V.int r.b])) d (.dT (iG θ [Sum.inl r.a,Sum.inl r.b] (V.int r.t))) b=some o:=(by rw[aR nd,aR O];exact b2);rw[aR nd,aR (cq b3 S)];exact b3
  .have l2:=oP (iG θ [Sum.inl r.a,Sum.inl r.b] (V.int r.t)) [Sum.inl r.b,Sum.inl r.a] (V.int r.u);refine⟨by lia,λp U=>?_⟩;rcases GC U with e|⟨q,hq,e⟩
   .exact⟨_,_,e⟩
   rcases GC hq with R|⟨q',Wo,R⟩
   .exact⟨_,_,e.trans R⟩
   .obtain⟨a',b',e2⟩:=Zx q' Wo;exact⟨a',b',e.trans (R.trans e2)⟩
  .intro a' b';have B:gh (iG (iG θ [Sum.inl r.a,Sum.inl r.b] (V.int r.t)) [Sum.inl r.b,Sum.inl r.a] (V.int r.u)) [Sum.inl a',Sum.inl b']=if a'=r.b/\b'=r.a then some (V.int r.u)else if a'=r.a/\b'=r.b then some (V.int r.t)else gh θ [Sum.inl a',Sum.inl b']:=by
    rw[zA,zA];simp
   rw[B];have v:¬ss r a' b'->(if a'=r.b/\b'=r.a then some (V.int r.u)else if a'=r.a/\b'=r.b then some (V.int r.t)else gh θ [Sum.inl a',Sum.inl b'])=gh θ [Sum.inl a',Sum.inl b']:=λz=>by
    rw[ag (λw=>z (.inr ⟨w.1.symm,w.2.symm⟩)),ag (λw=>z (.inl ⟨w.1.symm,w.2.symm⟩))]
   constructor
   .intro j x hj hy jx;by_cases e:j=i
    .subst e;rw[C]at hy;cases hy;rcases jx with⟨w1,w2⟩|⟨w1,w2⟩
     .subst w1 w2;rw[ag (λz=>ok.ne z.1),aj ⟨rfl,rfl⟩,P7 ok.ne]
      rfl
     .subst w1 w2;rw[aj ⟨rfl,rfl⟩,Px ok.ne]
      rfl
    .rw[v λw=>e (DA g hy C jx w)];exact(YF a' b').1 j x (by lia) hy jx
   .intro z;rw[v (z i r (by lia) C)];exact(YF a' b').2 λj x hj G=>z j x (by lia) G
 .rintro J y ⟨s2,⟨θ,hk,⟨hkl,Zx⟩,YF⟩,L,B,W,Z,rfl⟩;rw[aa,f]at YF;walk_at "";refine k d y hd s2 ⟨⟨θ,hk,λa b=>?_⟩,⟨θ,hk,by rw[aa,f]at hkl;exact hkl,Zx⟩⟩;by_cases z:∃(i:Nat)(x:Road),I[i]?=some x/\ss x a b
  .obtain⟨i,x,c,j⟩:=z;rw[(YF a b).1 i x (az.mp c).1 c j,xq g c j]
  .rw[(YF a b).2 λi x _ c j=>z ⟨i,x,c,j⟩,ME]
   .rfl
   .rintro⟨x,G,j⟩;obtain⟨i,c⟩:=cJ G;exact z ⟨i,x,c,j⟩
def mD(T:Txt K X):Sp:=λb H Q E=>E6 λ(p t:Addr)(m:Int)(c:gw)(a:hU)(n:Int)=>b=[.ref p,.int n]/\χ T.Web H p m t c a/\(0<=n->n<m->Q .ω H)/\(¬(0<=n/\n<m)->E (.ref T.NoPlace) none H)
abbrev iP:Stmt:=top 16
theorem C9:η ["web","number"] ["web","number"] (aK iP):=.of
theorem oQ:Ϝ (aK iP) "NoPlace":=.of (by kernel_rfl)
theorem CD(T:Txt K X)(o:cg (Ε P w))(i:Cb P w K X base "is_place" pQ ["many","number"] 1 (uf T)):Ok P w K X base "check_place" iP ["web","number"] 2 (mD T):=λ_ _ D=>by
 refine D.F.W4 C9 (by walk_at "v") λq A a s H r Q E f h=>?_;obtain⟨p,t,m,l,j,n,rfl,W,k,e⟩:=h;obtain⟨b,ob⟩:=W.ob;refine⟨_,(aO (eK (kN (my (ϡ i f dR (ah (dB (ε 0) rfl) (ah (ε 1) aB))))) (aO (oY T.xh rfl qG oQ.g T.Mc (ah sH aB) (hdb:=oQ.d))) dy)),?_⟩;walk_at "s";walk_at "";refine⟨T.Web,b,_,ob,T.lu,T.ϕ,_,jV m t,m,n,rfl,_,rfl,?_⟩;by_cases c:0<=n/\n<m
 .rw[ag (by simp[c.1,c.2])];exact k c.1 c.2
 .rw[aj (by simpa[b9]using c)];exact⟨by decide,e c⟩
def vT(T:Txt K X):Sp:=λd H Q E=>E6 λ(p t:Addr)(m:Int)(e:gw)(c:hU)(a:Int)=>d=[.ref p,.int a]/\χ T.Web H p m t e c/\(∀l b,0<=a->a<m->H l=none->δ H b->b l=some (.lst ((mj m c a).map V.int))->Q (.ref l) b)/\(¬(0<=a/\a<m)->E (.ref T.NoPlace) none H)
abbrev qh:Stmt:=top 15
theorem D5:η ["web","a"] ["web","a"] (aK qh):=.of
abbrev jm(P w base)(T:Txt K X):=Cb P w K X base "check_place" iP ["web","number"] 2 (mD T)
theorem Ek(T:Txt K X)(B:cg (Ε P w))(r:jm P w base T)(v:Cb P w K X base "other_ends" nQ ["roads","place"] 1 (rC T)):Ok P w K X base "neighbours" qh ["web","a"] 3 (vT T):=λ_ _ D=>by
 refine D.F.W4 D5 (by walk_at "v") λJ A c s H L Q E f h=>?_;obtain⟨p,t,m,g,b,a,rfl,W,k,e⟩:=h;obtain⟨o,ob⟩:=W.ob;refine⟨_,(aD (dq (ϡ r f dR (ah (ε 0) (ah (ε 1) aB)))) (aO (bQ (W6 yX T.sorted (ah (ϡ v f dR (ah (dB (ε 0) rfl) (ah (ε 1) aB))) aB))))),?_⟩;walk_at "s";walk_at "";refine⟨p,t,m,g,b,a,rfl,W,λi n=>?_,e⟩;have l:(b.length:Int)=m-1:=W.go.len;have Ο:=W.go.Ο;refine⟨T.Web,o,_,ob,T.lu,T.Xo,_,y7 m t,t,g,b,a,rfl,Ξ.of W.tu,W.ro,by lia,λq I G d x=>?_⟩;refine⟨q,rfl,gi b a,ξ.of x,by have:=GN b a;lia,λz C j y u=>?_⟩;rw[RG W.go i n y u];exact k z _ i n (d.free j) (d.trans (δ.new _ j)) ay
def ya(T:Txt K X):Sp:=λe H Q _=>E7 λ(p t:Addr)(m:Int)(f:gw)(d:hU)(a:Int)(b:V)=>e=[.ref p,.int a,b]/\χ T.Web H p m t f d/\0<=a/\a<m/\(b=.ω\/∃i,b=.int i)/\∀l c,H l=none->δ H c->c l=some (.lst ((bR m d b a).map V.int))->Q (.ref l) c
abbrev uZ:Stmt:=top 30
theorem R3:η ["web","place","front"] ["web","place","front"] (aK uZ):=.of
theorem RP(T:Txt K X)(R:cg (Ε P w))(Z:Cb P w K X base "neighbours" qh ["web","a"] 3 (vT T)):Ok P w K X base "kids" uZ ["web","place","front"] 4 (ya T):=λ_ _ D=>by
 refine D.F.Ϙ R3 (by walk_at "v") λΑ A u s H vs Q E J h=>?_;obtain⟨p,t,m,M,d,a,f,rfl,W,O,S,Y,k⟩:=h;have Ο:=W.go.Ο;refine⟨_,(aO (bQ (gZ rfl (YC ["near","front"] 1 [2]) (gY (Ν Z J R (ah (ε 0) (ah (ε 1) aB)))) (λ_ _ _ _=>(fe (i:=0) (show(["near","front"]:hD).Nodup from by decide +kernel) rfl (Or.inl rfl))) (λ_ _ _ _=>(yb (Ϻ r9 (pv 0) (pv 1)))) (λ_ _ _ _=>(pv 0))))),?_⟩;walk_at "s";walk_at "";have nl:(mj m d a).length<=24:=by
  have:=cB (λq=>decide (q∈gi d a)) (b6 m.toNat);rw[b7]at this;unfold mj
  lia
 refine⟨p,t,m,M,d,a,rfl,W,λy U _ _ n1 x B=>⟨y,rfl,⟨_,ξ.of B⟩,λo n=>?_⟩,λz=>absurd ⟨O,S⟩ z⟩;have r:H o=none:=x.free n;refine lQ (c:=true) (K:=K) (a:=y) (xs:=(mj m d a).map V.int) (λj g l e=>δ U e/\e o=some (.lst g)/\g=(((mj m d a).take j).filter λv=>decide (V.int v≠f)).map V.int/\∃v,l=[v,some f]) ⟨δ.new _ n,ay,rfl,_,rfl⟩ (λj g l e _ z=>ξ.of (z.1 _ _ B)) ?_ ?_
 .rintro j xj g l e N hN hj ⟨s2,h2,rfl,v,rfl⟩;rw[aA]at hj;obtain⟨b,L,rfl⟩:=eI.mp hj;have C:(mj m d a).take (j+1)=(mj m d a).take j++[b]:=by rw[bK,L];rfl
  have ll:(((mj m d a).take j).filter λv=>decide (V.int v≠f)).length<=24:=by
   have I:=cB (λv=>decide (V.int v≠f)) ((mj m d a).take j);rw[bq]at I
   lia
  walk_at "";have G:rK (V.int b) f=true:=by
   rcases Y with rfl|⟨i,rfl⟩<;>rfl
  refine⟨G,?_⟩;by_cases c:V.int b=f
  .rw[ag (λz=>z c)];refine hN _ _ _ ⟨s2,h2,?_,_,rfl⟩;rw[C,b4];simp[c]
  .rw[aj c];refine⟨h2,d5 (by rw[aa];lia),hN _ _ _ ⟨s2.put n _,ay,?_,_,rfl⟩⟩;rw[C,b4];simp[c]
 .rintro g l e ⟨s2,h2,rfl,v,rfl⟩;rw[aa,bx]at h2;exact k o e r (x.trans s2) h2
def ve(T:Txt K X):Sp:=λe H Q E=>E6 λ(p t:Addr)(m:Int)(f:gw)(d:hU)(r:Int)=>e=[.ref p,.int r]/\χ T.Web H p m t f d/\(0<=r->r<m->∃a c,ζ m d r a c/\∀l b,H l=none->δ H b->b l=some (.lst (pU m r a))->Q (.ref l) b)/\(¬(0<=r/\r<m)->E (.ref T.NoPlace) none H)
abbrev sy:Stmt:=top 28
theorem Qh:η ["web","r","nearer","waiting","place","front","kid"] ["web","r"] (aK sy):=.of
abbrev jz(P w base)(T:Txt K X):=Cb P w K X base "kids" uZ ["web","place","front"] 4 (ya T)
theorem Pn(T:Txt K X)(hq:cg (Ε P w))(fB:jm P w base T)(mU:jz P w base T):Ok P w K X base "ahead" sy ["web","r"] 5 (ve T):=λ_ _ D=>by
 refine D.F.W4 Qh (by walk_at "v") λΑ A aT s H vs Q E hr h=>?_;obtain⟨p,t,m,ps,L,r,rfl,W,k,e⟩:=h;obtain⟨dx,ob⟩:=W.ob;have g:=W.go;have Ο:=g.Ο;refine⟨_,(aD (dq (ϡ fB hr dR (ah (ε 0) (ah (ε 1) aB)))) (aD (Δ 2 (bn sM (eD (ah Ak aB)) (dB (ε 0) rfl))) (aD (Δ 3 (eD (ah (ε 1) aB))) (aD (pA PassesOwn.leaving (sY (ε 3) (λ_=>rfl)) (aD (Δ 4 (Ay PySem.F.plainAttrs_list PySem.F.slot_list_pop PySem.F.type_list_pop BL (ε 3))) (aD (Δ 5 (Ι bL (ε 2) (ε 4))) (aO (fm PassesOwn.leaving rfl (gY (ϡ mU hr dR (ah (ε 0) (ah (ε 4) (ah (ε 5) aB))))) (ϒ 6) (aD (nP (ε 4) (rp (ε 2) (ε 6) mP)) (aO (dq (iU PySem.F.plainAttrs_list PySem.F.slot_list_append PySem.F.type_list_append fN (ε 3) (ah (ε 6) aB)))))))))) (aO (bQ (ε 2))))))),?_⟩;walk_at "s";walk_at "";refine⟨p,t,m,ps,L,r,rfl,W,λr0 r1=>?_,e⟩;obtain⟨par,cc,R,k⟩:=k r0 r1;refine⟨by decide,λl1 n1=>?_⟩;have s1:=δ.new (.lst [V.ω]) n1;refine⟨T.Web,dx,_,s1 _ _ ob,T.lu,T.ϕ,_,rfl,?_⟩;refine⟨l1,m,[V.ω],rfl,rfl,ay,by lia,by lia,cm (by simp;lia),λb n2=>?_⟩;have M:H b=none:=s1.free n2;rw[zS,<-UW (par:=par)];have s2:=s1.trans (δ.new (.lst (nl m par [])) n2);refine⟨cm (by simp),λa n3=>?_⟩;have ab:H a=none:=s2.free n3;have j:a≠b:=λz=>by rw[z,ay]at n3;cases n3
 have s3:=s2.trans (δ.new (.lst [V.int r]) n3);have e2:upd (upd (upd H l1 (.lst [V.ω])) b (.lst (nl m par []))) a (.lst [V.int r]) b=some (.lst (nl m par [])):=by rw[aR j.symm,ay]
 have O:upd (upd (upd H l1 (.lst [V.ω])) b (.lst (nl m par []))) a (.lst [V.int r]) a=some (.lst [V.int r]):=ay;generalize upd (upd (upd H l1 (.lst [V.ω])) b (.lst (nl m par []))) a (.lst [V.int r])=H3 at s3 e2 O ⊢;refine B4 (λn u f=>E5 λ(B ws:f3)(v4 v5 I:Option V)=>n=2*(m.toNat-B.length)+ws.length/\u=[some (.ref p),some (.int r),some (.ref b),some (.ref a),v4,v5,I]/\δ H f/\f b=some (.lst (nl m par B))/\f a=some (.lst (ws.map V.int))/\ύ m L r par B ws) (2*m.toNat+1) ⟨[],[r],_,_,_,rfl,rfl,s3,e2,O,ύ.start⟩ ?_;rintro n u f NW BB Y hN Xk ⟨B,ws,v4,v5,I,rfl,rfl,s4,h2,S,J⟩;refine Y _ _ _ ?_;have kl:=fC (by lia) J.nd J.Χ;walk_at "";refine⟨_,.inl ⟨_,ξ.of S,rfl⟩,?_⟩;rcases eY ws with rfl|⟨ws',q,rfl⟩
 .rw[ag (by simp)];rw[J.done R]at h2;exact k b f M s4 h2
 .rw[eX]at J S hN Xk ⊢;rw[aj (by simp)];have hq:q∈ws'++[q]:=aW _ (aI.mpr rfl);have y:=J.at_ r0 r1 hq;have G:=J.step g R r0 r1 (p:=q) (ws':=ws') (hJ q ws');refine⟨NW,λco H' z=>?_,?_⟩
  .obtain⟨m',lt,X1,XR,a4,a5,a6,e1,e2,O⟩:=Xk _ _ z
   first|exact⟨m',lt,X1,XR,a4,a5,a6,e1,e2,O⟩|exact⟨m',lt,X1,XR,e1,a4,a5,a6,e2,O⟩
  rw[aw,aq,d6]at S;refine⟨Io S,Lh S ?_⟩;have s5:δ H (upd f a (.lst (ws'.map V.int))):=s4.put ab _;have l:upd f a (.lst (ws'.map V.int)) b=some (.lst (nl m par B)):=by rw[aR j.symm];exact h2
  have C:upd f a (.lst (ws'.map V.int)) a=some (.lst (ws'.map V.int)):=ay;generalize upd f a (.lst (ws'.map V.int))=H5 at s5 l C ⊢;refine Υ l (cT y.1 (Mp y.1 y.2)) ?_;rw[J.front hq];have a0:Pb.front r par q=.ω\/∃i,Pb.front r par q=.int i:=by
   unfold Pb.front;by_cases c:q=r
   .rw[aj c];exact .inl rfl
   .rw[ag c];exact .inr ⟨_,rfl⟩
  have mk:∀v,v∈bR m L (Pb.front r par q) q->(0<=v/\v<m)/\v≠r/\par v=q:=λv=>(bw g R y.1 y.2).mp;refine⟨p,t,m,ps,L,q,_,rfl,W.same s5,y.1,y.2,a0,λZ H6 U s6 e6=>⟨Z,rfl,⟨_,ξ.of e6⟩,?_⟩⟩;generalize bR m L (Pb.front r par q) q=d at mk e6 G ⊢;have cp:H Z=none:=s5.free U;have a7:Z≠b:=λz=>by rw[z,l]at U;cases U
  have a3:Z≠a:=λz=>by rw[z,C]at U;cases U
  have au:=fC (by lia) G.nd G.Χ;rw[aE]at au;have a8:=fC (by lia) G.wnd λw hw=>G.at_ r0 r1 hw;rw[aE]at a8;refine mG (K:=K) (xs:=d.map V.int) (λi u o=>∃I,u=[some (.ref p),some (.int r),some (.ref b),some (.ref a),some (.int q),some (Pb.front r par q),I]/\δ H o/\o Z=some (.lst (d.map V.int))/\o b=some (.lst (nl m par (B++d.take i)))/\o a=some (.lst ((ws'++d.take i).map V.int))) ⟨_,rfl,s5.trans s6,e6,by rw[fh,bH];exact s6 _ _ l,by rw[fh,bH];exact s6 _ _ C⟩ (λi u o _ z=>by obtain⟨_,_,_,z,_⟩:=z;exact ξ.of z) ?_ ?_
  .rintro i x u o NI BB Y hI hi ⟨I,rfl,s7,e7,h27,ZI⟩;refine Y _ _ ?_;rw[aA]at hi;obtain⟨v,hv,rfl⟩:=eI.mp hi;obtain⟨vr,_,vp⟩:=mk v (aQ hv);have et:d.take (i+1)=d.take i++[v]:=(by rw[bK,hv];rfl);walk_at "";refine⟨b,_,v,v.toNat,rfl,rfl,h27,by unfold Zk;rw[aj vr.1,aj (by rw[tW];lia)],?_⟩;rw[<-vp,S7 vr.1 vr.2,vp,bX,<-et];have N:upd o b (.lst (nl m par (B++d.take (i+1)))) a=some (.lst ((ws'++d.take i).map V.int)):=(by rw[aR j];exact ZI);have WR:(ws'++d.take i).length<=100:=by
    rw[aE,bq]
    lia
   refine⟨Io N,o9 N (d5 (by rw[aa];lia)) (hI _ _ ⟨_,rfl,(s7.put M _).put ab _,?_,?_,?_⟩)⟩
   .rw[aR a3,aR a7];exact e7
   .rw[aR j.symm,ay]
   .rw[ay,et,<-bX,aw (l₁:=ws'++d.take i)];rfl
  .rintro BB u o Y ⟨I,rfl,s7,e7,h27,ZI⟩;refine Y _ _ ?_;rw[aa,bx]at h27 ZI;refine hN _ _ _ ?_ ⟨_,_,_,_,_,rfl,rfl,s7,h27,ZI,G⟩;rw[aE,aE,aE];simp only[aF,dW]
   lia
def Dn(T:Txt K X):Sp:=λe H Q E=>E6 λ(p t:Addr)(m:Int)(f:gw)(c:hU)(r:Int)=>e=[.ref p,.int r]/\χ T.Web H p m t f c/\(0<=r->r<m->∃a b,ζ m c r a b/\∀l d,H l=none->δ H d->d l=some (.lst ((bO m c r a b r).map V.int))->(bO m c r a b r).Nodup->(∀v,v∈bO m c r a b r↔0<=v/\v<m)->Q (.ref l) d)/\(¬(0<=r/\r<m)->E (.ref T.NoPlace) none H)
abbrev uI:Stmt:=top 29
theorem R8:η ["web","r","nearer","places","waiting","place","kid"] ["web","r"] (aK uI):=.of
theorem zC:Ϝ (aK uI) "reversed":=.of (by kernel_rfl)
abbrev ka(P w base)(T:Txt K X):=Cb P w K X base "ahead" sy ["web","r"] 5 (ve T)
theorem RY(T:Txt K X)(hq:cg (Ε P w))(nY:ka P w base T)(mU:jz P w base T):Ok P w K X base "down" uI ["web","r"] 6 (Dn T):=λ_ _ D=>by
 refine D.F.W4 R8 (by walk_at "v") λΑ A bl s H vs Q E hr h=>?_;obtain⟨p,t,m,ps,Z,r,rfl,W,k,e⟩:=h;have g:=W.go;have Ο:=g.Ο;refine⟨_,(aD (Δ 2 (ϡ nY hr dR (ah (ε 0) (ah (ε 1) aB)))) (aD (Δ 3 (eD aB)) (aD (Δ 4 (eD (ah (ε 1) aB))) (aD (pA PassesOwn.leaving (sY (ε 4) (λ_=>rfl)) (aD (Δ 5 (Ay PySem.F.plainAttrs_list PySem.F.slot_list_pop PySem.F.type_list_pop BL (ε 4))) (aD (dq (iU PySem.F.plainAttrs_list PySem.F.slot_list_append PySem.F.type_list_append fN (ε 3) (ah (ε 5) aB))) (aO (fm PassesOwn.leaving rfl (tE zC.g T.reversed (ϡ mU hr dR (ah (ε 0) (ah (ε 5) (ah (Ι bL (ε 2) (ε 5)) aB))))) (ϒ 6) (aO (dq (iU PySem.F.plainAttrs_list PySem.F.slot_list_append PySem.F.type_list_append fN (ε 4) (ah (ε 6) aB))))))))) (aO (bQ (ε 3))))))),?_⟩;walk_at "s";walk_at "";refine⟨p,t,m,ps,Z,r,rfl,W,λr0 r1=>?_,e⟩;obtain⟨a,I,R,k⟩:=k r0 r1;refine⟨a,I,R,λo H1 n1 s1 e1=>⟨by decide,λb n3=>⟨cm (by simp),λd Y=>?_⟩⟩⟩;have aC:H b=none:=s1.free n3;have s3:=s1.trans (δ.new (.lst []) n3);have af:H d=none:=s3.free Y;have bs:o≠b:=λz=>by rw[<-z,e1]at n3;cases n3
 have u:b≠d:=λz=>by rw[<-z,ay]at Y;cases Y
 have a3:=δ.new (.lst []) n3 _ _ e1;have a0:o≠d:=λz=>by rw[<-z,a3]at Y;cases Y
 have s4:=s3.trans (δ.new (.lst [V.int r]) Y);have ae:=δ.new (.lst [V.int r]) Y _ _ a3;have av:upd (upd H1 b (.lst [])) d (.lst [V.int r]) b=some (.lst []):=by rw[aR u,ay]
 have aS:upd (upd H1 b (.lst [])) d (.lst [V.int r]) d=some (.lst [V.int r]):=ay;generalize upd (upd H1 b (.lst [])) d (.lst [V.int r])=H4 at s4 ae av aS ⊢;refine B4 (λn C l=>E5 λ(L S j:f3)(v5 v6:Option V)=>n=2*(m.toNat-L.length)+S.length/\C=[some (.ref p),some (.int r),some (.ref o),some (.ref b),some (.ref d),v5,v6]/\δ H l/\l o=some (.lst (pU m r a))/\l b=some (.lst (j.map V.int))/\l d=some (.lst (S.map V.int))/\ύ m Z r a L S/\(j++S).Perm (r::L)/\j++S.reverse.flatMap (bO m Z r a I)=bO m Z r a I r) (2*m.toNat+1) ⟨[],[r],[],_,_,rfl,rfl,s4,ae,av,aS,ύ.start,iJ _,by simp⟩ ?_;rintro n C l NW BB ϗ hN Xk ⟨L,S,j,v5,v6,rfl,rfl,s5,h1,h3,h4,J,O,ep⟩;refine ϗ _ _ _ ?_;have rk:∀w∈r::L,0<=w/\w<m:=λw hw=>by
  rcases ax.mp hw with rfl|z
  .exact⟨r0,r1⟩
  .exact J.Χ w z
 have nk:(r::L).Nodup:=bg.mpr ⟨J.nr,J.nd⟩;have kl:=fC (m:=m) (by lia) nk rk;have cV:=fC (m:=m) (by lia) J.nd J.Χ;have M:=O.length_eq;rw[aE]at M;rw[aF]at kl M;walk_at "";refine⟨_,.inl ⟨_,ξ.of h4,rfl⟩,?_⟩;rcases eY S with rfl|⟨ws',q,rfl⟩
 .rw[ag (by simp)];rw[List.reverse_nil,List.flatMap_nil,bH]at ep;rw[bH]at O;subst ep;refine k b l aC s5 h3 (O.nodup_iff.mpr nk) λv=>⟨λz=>rk v (O.mem_iff.mp z),λz=>O.mem_iff.mpr ?_⟩;by_cases c:v=r
  .rw[c];exact aJ
  .exact aG _ (J.all R v z.1 z.2 c)
 .rw[eX]at J h4 hN Xk O ep M ⊢;rw[aj (by simp)];have hq:q∈ws'++[q]:=aW _ (aI.mpr rfl);have G:=J.at_ r0 r1 hq;have J2:=J.step g R r0 r1 (p:=q) (ws':=ws') (hJ q ws');refine⟨NW,λc3 H' z=>?_,?_⟩
  .obtain⟨m',lt,X1,XR,pl',a5,a6,z1,z2⟩:=Xk _ _ z
   first|exact⟨m',lt,X1,XR,pl',a5,a6,z1,z2⟩|exact⟨m',lt,X1,XR,z1,pl',a5,a6,z2⟩
  rw[aw,aq,d6]at h4;refine⟨Io h4,Lh h4 ?_⟩;have s6:δ H (upd l d (.lst (ws'.map V.int))):=s5.put af _;have U:upd l d (.lst (ws'.map V.int)) b=some (.lst (j.map V.int)):=by rw[aR u];exact h3
  have ai:upd l d (.lst (ws'.map V.int)) o=some (.lst (pU m r a)):=by rw[aR a0];exact h1
  have a2:upd l d (.lst (ws'.map V.int)) d=some (.lst (ws'.map V.int)):=ay;generalize upd l d (.lst (ws'.map V.int))=H6 at s6 U ai a2 ⊢;refine⟨Io U,o9 U (d5 (by rw[aa];lia)) ?_⟩;have s7:δ H (upd H6 b (.lst (j.map V.int++[V.int q]))):=s6.put aC _;have ZI:upd H6 b (.lst (j.map V.int++[V.int q])) b=some (.lst ((j++[q]).map V.int)):=by rw[ay,aw];rfl
  have y:upd H6 b (.lst (j.map V.int++[V.int q])) o=some (.lst (pU m r a)):=by rw[aR bs];exact ai
  have N:upd H6 b (.lst (j.map V.int++[V.int q])) d=some (.lst (ws'.map V.int)):=by rw[aR u.symm];exact a2
  generalize upd H6 b (.lst (j.map V.int++[V.int q]))=H7 at s7 ZI y N ⊢;refine Υ y (cT G.1 (zf G.1 G.2)) ?_;have bm:Pb.front r a q=.ω\/∃i,Pb.front r a q=.int i:=by
   unfold Pb.front;by_cases c:q=r
   .rw[aj c];exact .inl rfl
   .rw[ag c];exact .inr ⟨_,rfl⟩
  have pq:=fM g R G.1 G.2;refine⟨p,t,m,ps,Z,q,_,rfl,W.same s7,G.1,G.2,bm,λl8 H8 n8 s8 e8=>⟨l8,rfl,_,ξ.of e8,?_⟩⟩;generalize bR m Z (Pb.front r a q) q=f at e8 J2 pq ⊢;have cv:o≠l8:=λz=>by rw[<-z,y]at n8;cases n8
  have cS:b≠l8:=λz=>by rw[<-z,ZI]at n8;cases n8
  have be:d≠l8:=λz=>by rw[<-z,N]at n8;cases n8
  have bd:=fC (m:=m) (by lia) J2.nd J2.Χ;rw[aE]at bd;have bv:=fC (m:=m) (by lia) J2.wnd λw hw=>J2.at_ r0 r1 hw;rw[aE]at bv;refine qK (K:=K) (xs:=f.map V.int) (λi C B=>∃v6,C=[some (.ref p),some (.int r),some (.ref o),some (.ref b),some (.ref d),some (.int q),v6]/\δ H B/\B l8=some (.lst (f.map V.int))/\B o=some (.lst (pU m r a))/\B b=some (.lst ((j++[q]).map V.int))/\B d=some (.lst ((ws'++f.reverse.take i).map V.int))) ⟨_,rfl,s7.trans s8,e8,s8 _ _ y,s8 _ _ ZI,by rw[fh,bH];exact s8 _ _ N⟩ (λi C B _ z=>by obtain⟨_,_,_,z,_⟩:=z;exact ξ.of z) ?_ ?_
  .rintro i x C B NI hI hi ⟨v6,rfl,s9,e9,h19,h39,h49⟩;rw[<-d9,aA]at hi;obtain⟨v,hv,rfl⟩:=eI.mp hi;have et:f.reverse.take (i+1)=f.reverse.take i++[v]:=(by rw[bK,hv];rfl);have WR:(ws'++f.reverse.take i).length<=100:=by
    rw[aE,bq,bc]
    lia
   walk_at "";refine⟨Io h49,o9 h49 (d5 (by rw[aa];lia)) (hI _ _ ⟨_,rfl,s9.put af _,?_,?_,?_,?_⟩)⟩
   .rw[aR be.symm];exact e9
   .rw[aR a0];exact h19
   .rw[aR u];exact h39
   .rw[ay,et,<-bX,aw (l₁:=ws'++f.reverse.take i)];rfl
  .rintro C B ⟨v6,rfl,s9,e9,h19,h39,h49⟩;rw[aa,show f.length=f.reverse.length by rw[bc],bx]at h49;refine hN _ _ _ ?_ ⟨L++f,ws'++f.reverse,j++[q],_,_,rfl,rfl,s9,h19,h39,h49,J2.perm (gU _ f.reverse_perm.symm),?_,?_⟩
   .rw[aE,aE,aE,bc];simp only[aF,dW]
    lia
   .have p1:(j++[q]++(ws'++f.reverse)).Perm (j++(ws'++[q])++f):=by
     rw[bX,bX];refine gU _ ?_;rw[<-bX];exact List.Perm.append (ms) f.reverse_perm
    exact p1.trans (mw _ O)
   .rw[<-ep,ic,ic,jt,lS,lZ,bC,pq,fK];simp
def Li(a:f5)(v:Int):List V:=[.int v,.int (a v)]
abbrev Ζ(H:Hp)(a:f5):List Addr->List Int->Prop:=Paired λq v=>H q=some (.tup (Li a v))
theorem Ζ.same{H b:Hp}{a:f5}{d:gw}{c:f3}(e:δ H b)(h:Ζ H a d c):Ζ b a d c:=Paired.imp' (λq v x=>e q _ x) h
theorem Ζ.get{H:Hp}{c:f5}:∀{d:gw}{f:f3}{i:Nat}{x:V},Ζ H c d f->(d.map V.ref)[i]?=some x->∃p r,x=.ref p/\d[i]?=some p/\f[i]?=some r/\H p=some (.tup (Li c r))
 | _,_,i,x,.nil,e=>by simp at e
 | _,_,0,x,.cons (a:=p) (b:=r) h hs,e=>⟨p,r,by simpa using e.symm,by simp,by simp,h⟩
 | a::l1,_,i+1,x,.cons h hs,e=>by
   have j:(List.map V.ref l1)[i]?=some x:=by simpa using e
   obtain⟨p,r,l,m,k,g⟩:=Ζ.get hs j;exact⟨p,r,l,by simpa using m,by simpa using k,g⟩
theorem Ζ.snoc{H:Hp}{a:f5}{q:Addr}{v:Int}(e:H q=some (.tup (Li a v))):∀{c:gw}{b:f3},Ζ H a c b->Ζ H a (c++[q]) (b++[v])
 | _,_,.nil=>.cons e .nil
 | _,_,.cons x xs=>.cons x (Ζ.snoc e xs)
def rh(T:Txt K X):Sp:=λg H Q E=>E6 λ(p t:Addr)(m:Int)(h:gw)(d:hU)(r:Int)=>g=[.ref p,.int r]/\χ T.Web H p m t h d/\(0<=r->r<m->∃a b,ζ m d r a b/\∀l f e c,bO m d r a b r=r::e->H l=none->δ H c->c l=some (.lst (f.map V.ref))->Ζ c a f e.reverse->Order m r a e->Q (.ref l) c)/\(¬(0<=r/\r<m)->E (.ref T.NoPlace) none H)
abbrev mS:Stmt:=top 31
theorem D2:η ["web","r","nearer"] ["web","r"] (aK mS):=.of
theorem zF:YS (aK mS) "nearer":=.of (by kernel_rfl)
theorem xn:Ϝ (aK mS) "reversed":=.of (by kernel_rfl)
theorem MG(T:Txt K X)(hq:cg (Ε P w))(nY:ka P w base T)(uF:Cb P w K X base "down" uI ["web","r"] 6 (Dn T)):Ok P w K X base "inward" mS ["web","r"] 7 (rh T):=λ_ _ D=>by
 refine D.F.W4 D2 (by walk_at "v") λΑ A ad s H vs Q E hr h=>?_;obtain⟨p,t,m,ps,rs,r,rfl,W,k,e⟩:=h;have g:=W.go;have Ο:=g.Ο;refine⟨_,(aD (uH (i:=2) D2.nd rfl (Or.inr zF.l) (ϡ nY hr dR (ah (ε 0) (ah (bY 1) aB)))) (aO (bQ (gZ rfl (YC ["place","nearer","r"] 1 [2,1]) (tE xn.g T.reversed (ϡ uF hr dR (ah (ε 0) (ah (bY 1) aB)))) (λ_ _ _ _=>(fe (i:=0) (show(["place","nearer","r"]:hD).Nodup from by decide +kernel) rfl (Or.inl rfl))) (λ_ _ _ _=>(yb (Ϻ r9 (pv 0) (pv 2)))) (λ_ _ _ _=>(jR (ah (pv 0) (ah (Ι (oZ K rfl) (pv 1) (pv 0)) aB)))))))),?_⟩;walk_at "s";walk_at "";refine⟨p,t,m,ps,rs,r,?_⟩;refine an4 rfl W (λJ I=>?_) e;obtain⟨d,B,R,k⟩:=k J I;refine⟨d,B,R,λl1 H1 n1 s1 e1=>?_⟩;refine⟨p,t,m,ps,rs,r,?_⟩;refine an4 rfl (W.same s1) (λ_ _=>⟨d,B,R,λl2 H2 n2 s2 e2 nd al=>?_⟩) (λz=>absurd ⟨J,I⟩ z);obtain⟨n,et,O⟩:=AE g R J I nd al;have ll:=zG g R J I;rw[et]at e2 ll;rw[aF]at ll;refine⟨l2,rfl,_,ξ.of e2,λM S=>?_⟩;have Y:=s2 _ _ e1;have WT:=s1.trans s2;have ab:=WT.free S;refine Ox (K:=K) (xs:=(r::n).map V.int) (λi u C j=>δ H2 j/\j M=some (.lst u)/\(∃f:List Addr,u=f.map V.ref/\Ζ j d f (n.reverse.take i))/\∃v,C=[v,some (V.ref l1),some (V.int r)]) ⟨δ.new _ S,ay,⟨[],rfl,.nil⟩,_,rfl⟩ (λi u C j _ z=>ξ.of (z.1 _ _ e2)) ?_ ?_
 .rintro i x u C j N hN hx ⟨s3,e3,⟨f,rfl,pa⟩,v,rfl⟩;rw[<-d9,dZ,aA]at hx;obtain⟨y,o,rfl⟩:=eI.mp hx;have il:=(az.mp o).1;rw[aE,bc]at il;have ql:f.length=(n.reverse.take i).length:=Paired.length pa;rw[bq,bc]at ql;walk_at "";by_cases c:i<n.length
  .rw[dh (by rw[bc];exact c)]at o;have L:y∈n:=dM.mp (aQ o);have U:=O.Χ y L;rw[aj (O.ne L)];have gp:ϲ (pU m r d) y=some (V.int (d y)):=by
    have ef:Pb.front r d y=V.int (d y):=(by unfold Pb.front;rw[ag (O.ne L)]);rw[<-ef];exact cT U.1 (zf U.1 U.2)
   refine Υ (s3 _ _ Y) gp ⟨cm (by simp),λq G=>?_⟩;have s4:=δ.new (.tup [V.int y,V.int (d y)]) G;have Z:q≠M:=λz=>by rw[z,e3]at G;cases G
   refine⟨s4 _ _ e3,d5 (by rw[aa];lia),hN _ _ _ ⟨(s3.trans s4).put S _,ay,⟨f++[q],by rw[aw];rfl,?_⟩,_,rfl⟩⟩;rw[bK,o];refine Ζ.snoc (by rw[aR Z,ay];rfl) ?_;exact Paired.imp' (λa b h=>by
    rw[aR (gV h e3 (by intro z;cases z)),aR (cq h G)];exact h) pa
  .have ei:i=n.reverse.length:=(by rw[bc];simp at il;lia);rw[ei,c8 (ap _),d7]at o;cases o;rw[ag (λz=>z rfl)];refine hN _ _ _ ⟨s3,e3,⟨f,rfl,?_⟩,_,rfl⟩;rw[dc (by lia)]at pa ⊢;exact pa
 .rintro u C j ⟨s3,e3,⟨f,rfl,pa⟩,v,rfl⟩;rw[dc (by rw[aa,bc,aF];lia)]at pa;exact k M f n j et ab (WT.trans s3) e3 pa O
def sD(T:Txt K X):Sp:=λd H Q E=>E7 λ(p t:Addr)(m:Int)(e:gw)(c:hU)(a b:Int)=>d=[.ref p,.int a,.int b]/\χ T.Web H p m t e c/\(∀k,0<=a->a<m->0<=b->b<m->cN c a b=some k->Q (.int k) H)/\(¬((0<=a/\a<m)/\(0<=b/\b<m))->E (.ref T.NoPlace) none H)/\(0<=a->a<m->0<=b->b<m->cN c a b=none->E (.ref T.NoRoad) none H)
abbrev pN:Stmt:=top 14
theorem Ru:η ["web","a","b","one","other","there","back"] ["web","a","b"] (aK pN):=.of
theorem uC:Ϝ (aK pN) "NoRoad":=.of (by kernel_rfl)
theorem Rc(T:Txt K X)(hq:cg (Ε P w))(Y:jm P w base T):Ok P w K X base "toll" pN ["web","a","b"] 3 (sD T):=λ_ _ D=>by
 refine D.F.W4 Ru (by walk_at "v") λΑ A S s H vs Q E Z h=>?_;obtain⟨p,t,m,C,f,a,b,rfl,W,k,e1,e2⟩:=h;obtain⟨dx,ob⟩:=W.ob;refine⟨_,(aD (dq (ϡ Y Z dR (ah (ε 0) (ah (ε 1) aB)))) (aD (dq (ϡ Y Z dR (ah (ε 0) (ah (ε 2) aB)))) (aD (fm PassesOwn.leaving rfl (uL (dB (ε 0) rfl)) (kM (n:=4) rfl (cz (ϒ 3) (cz (ϒ 4) (cz (ϒ 5) (cz (ϒ 6) iM))))) (aD (eK (PW.pt (Gd (Ϻ jU (ε 3) (ε 1)) (Dq (Ϻ jU (ε 4) (ε 2))))) (aO (bQ (ε 5))) dy) (aO (eK (PW.pt (Gd (Ϻ jU (ε 3) (ε 2)) (Dq (Ϻ jU (ε 4) (ε 1))))) (aO (bQ (ε 6))) dy)))) (aO (oY T.zt rfl qG uC.g T.Oc (ah sH aB) (hdb:=uC.d)))))),?_⟩;walk_at "s";walk_at "";refine⟨p,t,m,C,f,a,rfl,W,λG L=>?_,λz=>e1 λw=>z w.1⟩;refine⟨p,t,m,C,f,b,rfl,W,λB J=>?_,λz=>e1 λw=>z w.2⟩;refine⟨T.Web,dx,_,ob,T.lu,T.Xo,_,y7 m t,t,rfl,⟨_,Ξ.of W.tu⟩,?_⟩;have o:C.length=f.length:=Paired.length W.ro;refine FV (K:=K) (xs:=C.map V.ref) (λi y l=>l=H/\cN (f.take i) a b=none/\∃M O R U,y=[some (V.ref p),some (V.int a),some (V.int b),M,O,R,U]) ⟨rfl,rfl,_,_,_,_,rfl⟩ (λi y l _ z=>by rw[z.1];exact Ξ.of W.tu) ?_ ?_
 .rintro i x y l N hN hx ⟨rfl,hno,M,O,R,U,rfl⟩;obtain⟨q,r,rfl,h1,I,h3⟩:=W.ro.get hx;have et:f.take (i+1)=f.take i++[r]:=by rw[bK,I];rfl
  have split:cN f a b=(cN (f.take i) a b).or ((iV a b r).or (cN (f.drop (i+1)) a b)):=by
   have:f=f.take i++r::f.drop (i+1):=by
    have Yv:i<f.length:=(az.mp I).1;have e:f[i]=r:=(by rw[ao Yv]at I;exact bi I);rw[<-e,lU,b8]
   conv=>lhs;rw[this]
   unfold cN;rw[jA,ke];cases iV a b r<;>rfl
  rw[hno,Option.none_or]at split;walk_at "";refine⟨_,Ξ.of h3,rfl,_,_,rfl,_,_,rfl,_,_,rfl,_,_,rfl,rfl,?_⟩;walk_at "";have c:iV a b r=none->N [some (V.ref p),some (V.int a),some (V.int b),some (V.int r.a),some (V.int r.b),some (V.int r.t),some (V.int r.u)] l:=λz=>hN _ _ ⟨rfl,by
   rw[et];unfold cN at hno ⊢;rw[jA,hno,ke,z]
   rfl,_,_,_,_,rfl⟩
  have j:∀v,iV a b r=some v->cN f a b=some v:=λv z=>by rw[split,z];rfl
  unfold iV at c j;split
  .rename_i c1
   split
   .rename_i c2
    exact k _ G L B J (j _ (by rw[aj ⟨c1,c2⟩]))
   .rename_i c2
    split
    .rename_i c3
     split
     .rename_i c4
      exact k _ G L B J (j _ (by rw[ag (λz=>c2 z.2),aj ⟨c3,c4⟩]))
     .rename_i c4
      exact c (by rw[ag (λz=>c2 z.2),ag (λz=>c4 z.2)])
    .rename_i c3
     exact c (by rw[ag (λz=>c2 z.2),ag (λz=>c3 z.1)])
  .rename_i c1
   split
   .rename_i c3
    split
    .rename_i c4
     exact k _ G L B J (j _ (by rw[ag (λz=>c1 z.1),aj ⟨c3,c4⟩]))
    .rename_i c4
     exact c (by rw[ag (λz=>c1 z.1),ag (λz=>c4 z.2)])
   .rename_i c3
    exact c (by rw[ag (λz=>c1 z.1),ag (λz=>c3 z.1)])
 .rintro y l ⟨rfl,hno,M,O,R,U,rfl⟩;rw[aa,o,bx]at hno;walk_at "";exact⟨by decide,e2 G L B J hno⟩
def zH(T:Txt K X):Sp:=λe H Q _=>E11 λ(p b t:Addr)(c:Bool)(m:Int)(f:gw)(d:hU)(a:f3)(v u k:Int)=>e=[.ref p,.ref b,.int v,.int u]/\χ T.Web H p m t f d/\Ϫ K c H b (a.map V.int)/\(0<=v/\v<m/\v<a.length)/\(0<=u/\u<m)/\cN d v u=some k/\k<=1000000/\2<=k/\Q (.int (a.getD v.toNat 0*k)) H
abbrev uK:Stmt:=top 36
theorem PX:η ["web","weights","place","front"] ["web","weights","place","front"] (aK uK):=.of
abbrev ky(P w base)(T:Txt K X):=Cb P w K X base "toll" pN ["web","a","b"] 3 (sD T)
theorem PH(T:Txt K X)(x:cg (Ε P w))(l:ky P w base T):Ok P w K X base "borne" uK ["web","weights","place","front"] 4 (zH T):=λ_ _ D=>by
 refine D.F.W4 PX (by walk_at "v") λy A d s H B Q E g h=>?_;obtain⟨p,b,t,c,m,j,f,q,v,u,o,rfl,W,i,a,n,e,G,C,k⟩:=h;refine⟨_,(aO (bQ (bn me (Ι (Fu c) (ε 1) (ε 2)) (ϡ l g dR (ah (ε 0) (ah (ε 2) (ah (ε 3) aB))))))),?_⟩;walk_at "s";walk_at "";refine ixX i (WD a.1 a.2.2) ?_;refine⟨p,t,m,j,f,v,u,rfl,W,λr _ _ _ _ h=>?_,λz=>absurd ⟨⟨a.1,a.2.1⟩,n⟩ z,λ_ _ _ _ z=>by rw[e]at z;cases z⟩;rw[e]at h;cases h;exact⟨_,rfl,_,rfl,.inr ⟨by lia,by lia⟩,k⟩
def uu(T:Txt K X):Sp:=λd H Q _=>E10 λ(p b t:Addr)(m:Int)(e:gw)(c:hU)(a:f3)(v u k:Int)=>d=[.ref p,.ref b,.int v,.int u]/\χ T.Web H p m t e c/\ξ K H b (a.map V.int)/\(a.length:Int)=m/\(0<=v/\v<m)/\(0<=u/\u<m)/\cN c v u=some k/\k<=1000000/\2<=k/\Q (.bl (decide (a.getD v.toNat 0*k=a.getD u.toNat 0))) H
abbrev qi:Stmt:=top 42
theorem HJ:η ["web","weights","place","front"] ["web","weights","place","front"] (aK qi):=.of
abbrev lj(P w base)(T:Txt K X):=Cb P w K X base "borne" uK ["web","weights","place","front"] 4 (zH T)
theorem G9(T:Txt K X)(y:cg (Ε P w))(q:lj P w base T):Ok P w K X base "is_heavy" qi ["web","weights","place","front"] 5 (uu T):=λ_ _ D=>by
 refine D.F.W4 HJ (by walk_at "v") λB A d s H C Q E n h=>?_;obtain⟨p,b,t,m,o,j,a,v,u,c,rfl,W,f,z,g,i,l,x,r,k⟩:=h;refine⟨_,(aO (bQ (m6 jU (ϡ q n dR (ah (ε 0) (ah (ε 1) (ah (ε 2) (ah (ε 3) aB))))) (Ι bL (ε 1) (ε 3)) (m5 _)))),?_⟩;walk_at "s";walk_at "";refine⟨p,b,t,true,m,o,j,a,v,u,c,rfl,W,f,⟨g.1,g.2,by lia⟩,i,l,x,r,?_⟩;refine ixS f (WD i.1 (by lia)) ?_;have e:decide (V.int (a.getD v.toNat 0*c)=V.int (a.getD u.toNat 0))=decide (a.getD v.toNat 0*c=a.getD u.toNat 0):=by simp
 rw[e];exact⟨rfl,k⟩
def mL(T:Txt K X):Sp:=λe H Q E=>E6 λ(p t:Addr)(m:Int)(f:gw)(d:hU)(r:Int)=>e=[.ref p,.int r]/\χ T.Web H p m t f d/\(0<=r->r<m->∃b c,ζ m d r b c/\∀l a,H l=none->δ H a->a l=some (.lst ((dD m d r b c).map V.int))->Q (.ref l) a)/\(¬(0<=r/\r<m)->∀a,δ H a->E (.ref T.NoPlace) none a)
abbrev jG:Stmt:=top 39
theorem zL:η ["web","r","weights","place","front"] ["web","r"] (aK jG):=.of
abbrev ly(P w base)(T:Txt K X):=Cb P w K X base "inward" mS ["web","r"] 7 (rh T)
theorem zr(T:Txt K X)(hq:cg (Ε P w))(sA:lj P w base T)(jK:ly P w base T):Ok P w K X base "least_weights" jG ["web","r"] 8 (mL T):=λ_ _ D=>by
 refine D.F.W4 zL (by walk_at "v") λΑ A Z s H vs Q E hr h=>?_;obtain⟨p,t,m,ps,f,r,rfl,W,k,e⟩:=h;have g:=W.go;have m1:=g.m1;have Ο:=g.Ο;obtain⟨dx,ob⟩:=W.ob;refine⟨_,(aD (Δ 2 (bn sM (eD (ah aU aB)) (dB (ε 0) rfl))) (aD (fm PassesOwn.leaving rfl (gY (ϡ jK hr dR (ah (ε 0) (ah (ε 1) aB)))) (kM (n:=2) rfl (cz (ϒ 3) (cz (ϒ 4) iM))) (aO (nP (W6 (L7 rfl) T.max (ah (Ι bL (ε 2) (ε 4)) (ah (ϡ sA hr dR (ah (ε 0) (ah (ε 2) (ah (ε 3) (ah (ε 4) aB))))) aB))) (rp (ε 2) (ε 4) mP)))) (aO (bQ (ε 2))))),?_⟩;walk_at "s";walk_at "";refine⟨cm (by simp),λJ n0=>?_⟩;have s0:=δ.new (.lst [V.int 1]) n0;refine⟨T.Web,dx,_,s0 _ _ ob,T.lu,T.ϕ,_,jV m t,?_⟩;refine⟨J,m,_,rfl,rfl,ay,by lia,by lia,cm (by simp;lia),λl n1=>?_⟩;rw[KA];have G:=s0.trans (δ.new (.lst (List.replicate m.toNat (V.int 1))) n1);have nl:=s0.free n1;have L:upd (upd H J (.lst [V.int 1])) l (.lst (List.replicate m.toNat (V.int 1))) l=some (.lst ((List.replicate m.toNat (1:Int)).map V.int)):=by rw[ay,iu]
 generalize upd (upd H J (.lst [V.int 1])) l (.lst (List.replicate m.toNat (V.int 1)))=H1 at G L ⊢;refine⟨p,t,m,ps,f,r,?_⟩;refine an4 rfl (W.same G) (λr0 r1=>?_) (λz=>e z H1 G);obtain⟨c,j,R,k⟩:=k r0 r1;refine⟨c,j,R,λU I C H2 _ n2 s2 e2 pa O=>?_⟩;have XS:U≠l:=λz=>by rw[z,L]at n2;cases n2
 refine⟨U,rfl,⟨_,ξ.of e2⟩,?_⟩;have ql:I.length=C.reverse.length:=Paired.length pa;have st:Le mx m f r c j (λ_=>1) (bor f c) [] (List.replicate m.toNat (1:Int)):=Le.nil (by rw[cU];lia) λv v0 v1=>by
  rw[List.getD,List.getElem?_replicate_of_lt (by lia)];rfl
 refine mG (K:=K) (xs:=I.map V.ref) (λi B d=>δ H d/\d U=some (.lst (I.map V.ref))/\Ζ d c I C.reverse/\E3 λ(y:f3)(M Y:Option V)=>d l=some (.lst (y.map V.int))/\Le mx m f r c j (λ_=>1) (bor f c) (C.drop (C.length-i)) y/\B=[some (V.ref p),some (V.int r),some (V.ref l),M,Y]) ⟨G.trans s2,e2,pa,_,_,_,s2 _ _ L,by rw[gW,f9];exact st,rfl⟩ (λi B d _ z=>ξ.of z.2.1) ?_ ?_
 .rintro i x B d N BB ϗ hN hx ⟨s3,e3,Zc,y,M,Y,c3,so,rfl⟩;refine ϗ _ _ ?_;obtain⟨q,v,rfl,hq,hv,eq⟩:=Zc.get hx;obtain⟨⟨o,vn⟩,ev,S⟩:=O.adJ Jq g R so hv;have u:=R.up v o.1 o.2 vn;obtain⟨kk,hk,k0,k1⟩:=oh g R o.1 o.2 vn;have cl:=so.len;walk_at "";refine⟨_,Ξ.of eq,rfl,_,_,rfl,_,_,rfl,rfl,?_⟩;refine Υ c3 (WD u.1.1 (by lia)) ?_;refine⟨p,l,t,true,m,ps,f,y,v,c v,kk,rfl,W.same s3,ξ.of c3,⟨o.1,o.2,by lia⟩,u.1,hk,k1,k0,?_⟩;refine⟨_,_,⟨rfl,rfl⟩,xi c3 u.1.1 (by rw[aa];lia) (hN _ _ ⟨s3.put nl _,?_,?_,xS mx c (bor f c) y v,_,_,?_,S,rfl⟩)⟩
  .rw[aR XS];exact e3
  .exact Paired.imp' (λa b h=>by rw[aR (gV h c3 (by intro z;cases z))];exact h) Zc
  .rw[ay,<-gX];unfold xS bor mx;rw[hk]
   rfl
 .rintro BB B d ϗ ⟨s3,e3,Zc,y,M,Y,c3,so,rfl⟩;refine ϗ _ _ ?_;rw[aa,ql,bc,d7,kg]at so;rw[O.doneF Jq g R so]at c3;walk_at "";exact k l d nl s3 c3
def Bi(T:Txt K X):Sp:=λf H Q E=>E6 λ(p t:Addr)(m:Int)(g:gw)(d:hU)(r:Int)=>f=[.ref p,.int r]/\χ T.Web H p m t g d/\(0<=r->r<m->∃a b,ζ m d r a b/\∀e l c,bO m d r a b r=r::e->Order m r a e->H l=none->δ H c->c l=some (.lst (Y9 m (bV m d r a b e)))->Q (.ref l) c)/\(¬(0<=r/\r<m)->∀c,δ H c->E (.ref T.NoPlace) none c)
abbrev q8:Stmt:=top 41
theorem KC:η ["web","r","weights","chosen","place","front"] ["web","r"] (aK q8):=.of
theorem wn:Ϝ (aK q8) "reversed":=.of (by kernel_rfl)
abbrev lN(P w base)(T:Txt K X):=Cb P w K X base "is_heavy" qi ["web","weights","place","front"] 5 (uu T)
abbrev mn(P w base)(T:Txt K X):=Cb P w K X base "least_weights" jG ["web","r"] 8 (mL T)
theorem K0(T:Txt K X)(hq:cg (Ε P w))(jK:ly P w base T)(oj:lN P w base T)(gx:mn P w base T):Ok P w K X base "bearers" q8 ["web","r"] 9 (Bi T):=λ_ _ D=>by
 refine D.F.W4 KC (by walk_at "v") λΑ A au s H vs Q E hr h=>?_;obtain⟨p,t,m,ps,f,r,rfl,W,k,e⟩:=h;have g:=W.go;have m1:=g.m1;have Ο:=g.Ο;obtain⟨dx,ob⟩:=W.ob;refine⟨_,(aD (Δ 2 (ϡ gx hr dR (ah (ε 0) (ah (ε 1) aB)))) (aD (Δ 3 (bn sM (eD (ah Ak aB)) (dB (ε 0) rfl))) (aD (fm PassesOwn.leaving rfl (tE wn.g T.reversed (ϡ jK hr dR (ah (ε 0) (ah (ε 1) aB)))) (kM (n:=2) rfl (cz (ϒ 4) (cz (ϒ 5) iM))) (aO (eK (my (ϡ oj hr dR (ah (ε 0) (ah (ε 2) (ah (ε 4) (ah (ε 5) aB)))))) (aO (nP (ε 4) (rp (ε 3) (ε 5) mP))) dy))) (aO (bQ (ε 3)))))),?_⟩;walk_at "s";walk_at "";refine⟨p,t,m,ps,f,r,?_⟩;refine an4 rfl W (λr0 r1=>?_) e;obtain⟨c,d,R,k⟩:=k r0 r1;refine⟨c,d,R,λM H0 nw s0 ew=>⟨cm (by simp),λS n0=>?_⟩⟩;have L:=δ.new (.lst [V.ω]) n0;refine⟨T.Web,dx,_,L _ _ (s0 _ _ ob),T.lu,T.ϕ,_,jV m t,?_⟩;refine⟨S,m,_,rfl,rfl,ay,by lia,by lia,cm (by simp;lia),λl I=>?_⟩;rw[KA];have Y:=L.trans (δ.new (.lst (List.replicate m.toNat V.ω)) I);have nl:=(s0.trans L).free I;have aC:M≠l:=λz=>by rw[<-z,L _ _ ew]at I;cases I
 have el:Y9 m (λ_=>none)=List.replicate m.toNat V.ω:=by
  unfold Y9;rw[List.map_const',b7]
  rfl
 have Z:upd (upd H0 S (.lst [V.ω])) l (.lst (List.replicate m.toNat V.ω)) l=some (.lst (Y9 m (bV m f r c d []))):=by rw[ay,<-el];rfl
 generalize upd (upd H0 S (.lst [V.ω])) l (.lst (List.replicate m.toNat V.ω))=H1 at Y Z ⊢;have YG:=s0.trans Y;have ae:=Y _ _ ew;refine⟨p,t,m,ps,f,r,?_⟩;refine an4 rfl (W.same YG) (λ_ _=>⟨c,d,R,λl2 C o H2 an n2 s3 e2 pa O=>?_⟩) (λz=>absurd ⟨r0,r1⟩ z);have XS:l2≠l:=λz=>by rw[z,Z]at n2;cases n2
 refine⟨l2,rfl,_,ξ.of e2,?_⟩;have U:C.length=o.reverse.length:=Paired.length pa;have ll:((dD m f r c d).length:Int)=m:=by rw[qw];lia
 refine qK (K:=K) (xs:=C.map V.ref) (λi G j=>δ H j/\j M=some (.lst ((dD m f r c d).map V.int))/\j l2=some (.lst (C.map V.ref))/\Ζ j c C o.reverse/\∃(v4 v5:Option V),j l=some (.lst (Y9 m (bV m f r c d (o.take i))))/\G=[some (V.ref p),some (V.int r),some (V.ref M),some (V.ref l),v4,v5]) ⟨YG.trans s3,s3 _ _ ae,e2,pa,_,_,s3 _ _ Z,rfl⟩ (λi G j _ z=>ξ.of z.2.2.1) ?_ ?_
 .rintro i x G j N hN hx ⟨s4,w3,e3,Zc,v4,v5,c3,rfl⟩;have il:=(az.mp hx).1;rw[bc,aa]at il;rw[bc]at U;rw[cC (by rw[aa];exact il),aa]at hx;obtain⟨q,v,rfl,Wo,hv,eq⟩:=Zc.get hx;rw[cC (by lia),show o.length-1-(C.length-1-i)=i by lia]at hv;have vm:=aQ hv;have y:=O.Χ v vm;have vn:=O.ne vm;have u:=R.up v y.1 y.2 vn;obtain⟨kk,hk,k0,k1⟩:=oh g R y.1 y.2 vn;have ek:tup f c v=kk:=by unfold tup;rw[hk];rfl
  walk_at "";refine⟨_,Ξ.of eq,rfl,_,_,rfl,_,_,rfl,rfl,?_⟩;refine⟨p,M,t,m,ps,f,dD m f r c d,v,c v,kk,rfl,W.same s4,ξ.of w3,ll,y,u.1,hk,k1,k0,_,rfl,?_⟩;rw[gM y.1 y.2,gM u.1.1 u.1.2];have B:o.take (i+1)=o.take i++[v]:=by rw[bK,hv];rfl
  by_cases J:ο m f r c d v*kk=ο m f r c d (c v)
  .rw[aj (bh J)];refine xi c3 u.1.1 (by unfold Y9;rw[aa,b7];lia) ?_;rw[RC u.1.1 u.1.2];exact hN _ _ ⟨s4.put nl _,by rw[aR aC];exact w3,by rw[aR XS];exact e3,Paired.imp' (λa b h=>by rw[aR (gV h c3 (by intro z;cases z))];exact h) Zc,_,_,by rw[ay,B,Mx (by rw[ek];exact J)],rfl⟩
  .rw[ag (by rw[bA J];decide)];exact hN _ _ ⟨s4,w3,e3,Zc,_,_,by rw[B,Ln (by rw[ek];exact J)];exact c3,rfl⟩
 .rintro G j ⟨s4,w3,e3,Zc,v4,v5,c3,rfl⟩;rw[bc]at U;rw[aa,U,bx]at c3;walk_at "";exact k o l j an O nl s4 c3
def qr(T:Txt K X):Sp:=λd H Q _=>∃(a:Addr)(c:f3),d=[.ref a]/\ξ K H a (c.map V.int)/\c.length<=1000/\∀l b,H l=none->δ H b->b l=some (.lst ((ϩ c).map V.int))->Q (.ref l) b
abbrev jL:Stmt:=top 44
theorem uQ:η ["values","found","row"] ["values"] (aK jL):=.of
theorem xA:Zt (aK jL) "row":=.of (by kernel_rfl)
theorem xc:Ϝ (aK jL) "zip":=.of (by kernel_rfl)
theorem Cf(T:Txt K X)(hq:cg (Ε P w)):Ok P w K X base "differences" jL ["values"] 1 (qr T):=λ_ _ D=>by
 refine D.F.Ϙ uQ (by walk_at "v") λΑ A ai s H vs Q E hr h=>?_;obtain⟨a,xs,rfl,ha,xl,k⟩:=h;refine⟨_,(aD (Δ 1 (eD aB)) (aD (Δ 2 (Za mB T.list (ah (ε 0) aB))) (aD (pA PassesOwn.never (sY (ε 2) (λ_=>rfl)) (aD (dq (iU PySem.F.plainAttrs_list PySem.F.slot_list_append PySem.F.type_list_append fN (ε 1) (ah (Ι bL (ε 2) aU) aB))) (aO (J8 (i:=2) uQ.nd rfl xA.l rfl (tx (Nc:=["earlier","later"]) 2 (by decide +kernel) (by decide +kernel) rfl (by decide +kernel) rfl) (SY true true xc.g T.zip (ah (ε 2) (ah (Gb IQ (ε 2) (IZ aU) Ii) aB))) (λ_ _ _ _=>(I0 K rfl (n:=2) rfl (cz (fe (i:=0) (show(["earlier","later"]:hD).Nodup from by decide +kernel) rfl (Or.inl rfl)) (cz (fe (i:=1) (show(["earlier","later"]:hD).Nodup from by decide +kernel) rfl (Or.inl rfl)) iM)))) (λ_ _ _ _=>jg) (λ_ _ _ _=>(bn iI (pv 1) (pv 0))))))) (aO (bQ (ε 1)))))),?_⟩;walk_at "s";unfold tSl Kg Xe;refine cL λN0 h0=>?_;walk_at "";refine⟨cm (by simp),λl nl=>h0 _ _ (cL λN1 W=>?_)⟩;have s1:=δ.new (HO.lst []) nl;have S:upd H l (HO.lst []) l=some (.lst (([]:f3).map V.int)):=ay;generalize upd H l (HO.lst [])=H1 at s1 S ⊢;walk_at "";refine⟨_,.inl (s1.seq ha),λq nq=>W _ _ (cL λN2 h2=>?_)⟩;have s2:=δ.new (HO.lst (xs.map V.int)) nq;have e2:upd H1 q (HO.lst (xs.map V.int)) q=some (.lst (xs.map V.int)):=ay;have G:=s2 _ _ S;have WT:=s1.trans s2;have u:q≠l:=λz=>by rw[z,S]at nq;cases nq
 generalize upd H1 q (HO.lst (xs.map V.int))=H2 at WT e2 G ⊢;refine u9 (λn t j=>E3 λ(f ϛ:f3)(q:Addr)=>n=f.length/\ϛ++ϩ f=ϩ xs/\ϛ.length+f.length=xs.length/\q≠l/\j q=some (.lst (f.map V.int))/\j l=some (.lst (ϛ.map V.int))/\δ H j/\t=[some (V.ref a),some (V.ref l),some (V.ref q)]) _ ⟨xs,[],q,rfl,rfl,by simp,u,e2,G,WT,rfl⟩ ?_;rintro n t j NW hN Xk ⟨f,m,q,rfl,R,hl,u,Z,y,s3,rfl⟩;refine⟨_,rfl,!(f.map V.int).isEmpty,.inl ⟨_,ξ.of Z,rfl⟩,?_⟩;cases f with
 | nil=>
   refine Ud (h2 _ _ ?_);walk_at "";have R:m=ϩ xs:=by
    have:m++[]=ϩ xs:=R;rw[bH]at this;exact this
   exact k l j nl s3 (by rw[y,R])
 | cons x r=>
   refine SZ ⟨NW,Xk,?_⟩;rw[aF]at hl;refine cL λM1 k1=>?_;walk_at "";refine⟨Io y,Υ Z (v:=V.int x) (cT (ce 0) rfl) (o9 y (d5 (by rw[aa];lia)) (k1 _ _ ?_))⟩;have e4:upd j l (HO.lst (m.map V.int++[V.int x])) l=some (.lst ((m++[x]).map V.int)):=by rw[ay,aw];rfl
   have B:upd j l (HO.lst (m.map V.int++[V.int x])) q=some (.lst ((x::r).map V.int)):=by rw[aR u];exact Z
   have s4:δ H (upd j l (HO.lst (m.map V.int++[V.int x]))):=λb o e=>by rw[aR (cq e nl)];exact s3 _ _ e
   generalize upd j l (HO.lst (m.map V.int++[V.int x]))=H4 at e4 B s4 ⊢;walk_at "";refine slI (ξ.of B) λp np=>?_;have O:=δ.new (HO.lst ((Cq (x::r) (some 1) none).map V.int)) np;have e5:upd H4 p (HO.lst ((Cq (x::r) (some 1) none).map V.int)) p=some (.lst (((x::r).drop 1).map V.int)):=by
    rw[ay,<-FD,Lj _ (by decide),jZ]
    rfl
   generalize upd H4 p (HO.lst ((Cq (x::r) (some 1) none).map V.int))=H5 at O e5 ⊢;have I:=O _ _ B;have L:=O _ _ e4;have U:=s4.trans O;refine⟨q,p,⟨rfl,rfl⟩,⟨_,ξ.of I⟩,⟨_,ξ.of e5⟩,λpc Wg=>?_⟩;refine Qs (K:=K) (c:=true) (d:=true) (a:=q) (b:=p) (xs:=(x::r).map V.int) (zs:=((x::r).drop 1).map V.int) (λi J t M=>δ H5 M/\M pc=some (.lst J)/\J=((((x::r).zip ((x::r).drop 1)).take i).map λq=>q.2-q.1).map V.int/\∃v w,t=[v,w]) ⟨δ.new _ Wg,ay,rfl,_,_,rfl⟩ (λi J t M z=>⟨ξ.of (z.1 _ _ I),ξ.of (z.1 _ _ e5)⟩) ?_ ?_
   .rintro i y1 y2 J t M qt N hN6 W h2 ⟨s6,e6,rfl,v,w,rfl⟩ nqt;obtain⟨a1,C,rfl⟩:=List.μ W;obtain⟨a2,Y,rfl⟩:=List.μ h2;have ez:((x::r).zip ((x::r).drop 1))[i]?=some (a1,a2):=by
     rw[List.getElem?_zip_eq_some];exact⟨C,Y⟩
    have il:=(az.mp C).1;have et:((x::r).zip ((x::r).drop 1)).take (i+1)=((x::r).zip ((x::r).drop 1)).take i++[(a1,a2)]:=(by rw[bK,ez];rfl);rw[aF]at il;walk_at "";have s7:=δ.new (HO.tup [V.int a1,V.int a2]) nqt;refine⟨_,Ξ.of ay,rfl,_,_,rfl,_,_,rfl,rfl,?_⟩;walk_at "";refine⟨s7 _ _ e6,d5 (by rw[aa,aa,bq];lia),hN6 _ _ _ ⟨?_,ay,?_,_,_,rfl⟩⟩
    .exact λb o e=>by rw[aR (cq e Wg)];exact s7 _ _ (s6 _ _ e)
    .rw[et,aw,aw]
     rfl
   .rintro J t M ⟨s6,e6,rfl,v,w,rfl⟩;have en:((((x::r).zip ((x::r).drop 1)).take (min ((x::r).map V.int).length (((x::r).drop 1).map V.int).length)).map λq=>q.2-q.1)=Zw (x::r):=by
     unfold Zw;rw[dc];rw[lO,aa,aa];exact ap _
    rw[en]at e6;have au:H5 l≠none:=(by rw[L];intro z;cases z);exact hN _ _ _ (by rw[xN];simp) ⟨Zw (x::r),m++[x],pc,rfl,by rw[bX,<-R,FS];rfl,by rw[aE,xN];simp;lia,λz=>au (by rw[<-z];exact Wg),e6,s6 _ _ L,U.trans s6,rfl⟩
def kj(T:Txt K X):Sp:=λe H Q _=>E3 λ(a:Addr)(b:f3)(n:Int)=>e=[.ref a,.int n]/\ξ K H a (b.map V.int)/\b.length<=100/\-100<=n/\n.natAbs<ϫ/\(∀c∈b,c.natAbs<ϫ)/\(∀k,k<b.length->(Yj n k).natAbs<ϫ)/\∀d,δ H d->Q (.int (gT b n 0)) d
abbrev ia:Stmt:=top 45
theorem yU:η ["found","at","value","choices","k","difference"] ["found","at"] (aK ia):=.of
theorem yf:Zt (aK ia) "value":=.of (by kernel_rfl)
theorem uR:Ϝ (aK ia) "enumerate":=.of (by kernel_rfl)
theorem G5(T:Txt K X)(L:cg (Ε P w)):Ok P w K X base "value_at" ia ["found","at"] 1 (kj T):=λ_ _ D=>by
 refine D.F.Ϙ yU (by walk_at "v") λO A o s H R Q E I h=>?_;obtain⟨a,f,n,rfl,r,J,u,M,cb,v,k⟩:=h;refine⟨_,(aD (Δ 2 aU) (aD (Δ 3 aU) (aD (fm PassesOwn.never rfl (xQ true uR.g T.enumerate (ε 0)) (kM (n:=2) rfl (cz (ϒ 4) (cz (ϒ 5) iM))) (aD (sL (i:=2) yU.nd rfl (Or.inl yf.l) (bn pI (ε 5) (ε 3)) wz) (aO (Δ 3 (bn gO (bn pI (ε 3) (bn iI (ε 1) (ε 4))) (bn eP (ε 4) aU)))))) (aO (bQ (ε 2)))))),?_⟩;walk_at "s";walk_at "";refine⟨⟨_,r⟩,?_⟩;refine zO (K:=K) (c:=true) (xs:=f.map V.int) (λi e d=>δ H d/\∃p j,e=[some (V.ref a),some (V.int n),some (V.int (gT (f.take i) n 0)),some (V.int (Yj n i)),p,j]) ⟨δ.refl _,_,_,by rw[sV,fh,oE]⟩ (λi e d z=>z.1.seq r) ?_ ?_
 .rintro i x e d q N hN hx ⟨s2,p,j,rfl⟩ nq;obtain⟨c,m,rfl⟩:=List.μ hx;have y:=(az.mp m).1;have G:f.take (i+1)=f.take i++[c]:=by rw[bK,m];rfl
  have t:=δ.new (HO.tup [V.int (i:Int),V.int c]) nq;have C:=cb c (aQ m);have b:=v i y;have B:(n-(i:Int)).natAbs<ϫ:=by
   have:(200:Nat)<ϫ:=hW (k:=8) (by decide) (by decide)
   lia
  walk_at "";refine⟨_,Ξ.of ay,rfl,_,_,rfl,_,_,rfl,rfl,c,rfl,qA C b,(i:Int),rfl,qA b B,(i:Int),rfl,⟨by lia,by lia⟩,hN _ _ ⟨s2.trans t,some (V.int (i:Int)),some (V.int c),?_⟩⟩;rw[<-PJ,Int.mul_ediv_cancel _ (show(i:Int)+1≠0 by lia),G,NP,bq,Nat.min_eq_left (by lia),iY]
 .rintro e d ⟨s2,p,j,rfl⟩;rw[aa,bx];walk_at "";exact k d s2
def tX(T:Txt K X):Sp:=λe H Q _=>E3 λ(a:Addr)(b:f3)(n:Nat)=>e=[.ref a,.int n]/\ξ K H a (b.map V.int)/\b.length<=100/\n<=100/\(∀c∈b,c.natAbs<ϫ)/\∀l d,H l=none->δ H d->d l=some (.lst (((List.range n).map λi=>Τ b i 0).map V.int))->Q (.ref l) d
abbrev mm:Stmt:=top 46
theorem BJ:η ["found","many"] ["found","many"] (aK mm):=.of
theorem uY:Ϝ (aK mm) "range":=.of (by kernel_rfl)
abbrev mv(P w base)(T:Txt K X):=Cb P w K X base "value_at" ia ["found","at"] 1 (kj T)
theorem Ar(T:Txt K X)(z:cg (Ε P w))(d:mv P w base T):Ok P w K X base "first_values" mm ["found","many"] 2 (tX T):=λ_ _ D=>by
 refine D.F.Ϙ BJ (by walk_at "v") λI A q s H J Q E u h=>?_;obtain⟨a,t,n,rfl,x,y,C,cb,k⟩:=h;refine⟨_,(aO (bQ (gZ rfl (YC ["at","found"] 1 [0]) (iQ uY.g T.range (ah (ε 1) aB)) (λ_ _ _ _=>(fe (i:=0) (show(["at","found"]:hD).Nodup from by decide +kernel) rfl (Or.inl rfl))) (λ_ _ _ _=>jg) (λ_ _ _ _=>(qk d.G (u.mono (by decide)) (by rfl) d.D.m d.D.F.kp d.D.b .nil (t7 z) (ah (pv 1) (ah (pv 0) aB))))))),?_⟩;walk_at "s";walk_at "";refine⟨by lia,by lia,λp l=>?_⟩;rw[bJ];refine oC (lo:=0) (n:=n) (λi f j c=>δ H c/\c p=some (.lst f)/\f=((List.range i).map λi=>Τ t i 0).map V.int/\∃v,j=[v,some (V.ref a)]) ⟨δ.new _ l,ay,rfl,_,rfl⟩ ?_ ?_
 .rintro i f j c N hN hi ⟨s2,e2,rfl,v,rfl⟩;walk_at "";refine⟨a,t,(i:Nat),by rw[cQ],s2.seq x,y,by lia,?_,cb,λk _=>(show ch i k<ϫ from SQ (by lia)),λB r=>⟨r _ _ e2,d5 (by rw[aa,aa,bD];lia),hN _ _ _ ⟨?_,ay,?_,_,rfl⟩⟩⟩
  .exact(show i<ϫ from hW (k:=7) (by lia) (by decide))
  .exact λb o e=>by rw[aR (cq e l)];exact r _ _ (s2 _ _ e)
  .rw[da,aw,aw]
   rfl
 .rintro f j c ⟨s2,e2,rfl,v,rfl⟩;exact k p c l s2 e2
def sj(T:Txt K X):Sp:=λn H Q _=>E16 λ(t i w j g f:Addr)(b:List (Str×V))(m:Int)(l:gw)(d:hU)(a:f3)(h:List V)(p k c:Int)(e:Option Int)=>n=[.ref t,.int p,.int k]/\H t=some (.ins T.Tally i b)/\b.lookup ("web":Str)=some (.ref w)/\b.lookup ("weights":Str)=some (.ref g)/\b.lookup ("bearers":Str)=some (.ref f)/\χ T.Web H w m j l d/\H g=some (.lst (a.map V.int))/\(a.length:Int)=m/\H f=some (.lst h)/\(0<=p/\p<m)/\(0<=k/\k<m)/\h[p.toNat]?=some (YW e)/\cN d k p=some c/\2<=c/\c<=1000000/\Q (.bl (decide (a.getD k.toNat 0*c=a.getD p.toNat 0)&&decide (e≠some k))) H
abbrev pD:Stmt:=top 58
theorem K2:η ["tally","place","kid"] ["tally","place","kid"] (aK pD):=.of
theorem K1(T:Txt K X)(J:cg (Ε P w))(L:lN P w base T):Ok P w K X base "is_free" pD ["tally","place","kid"] 6 (sj T):=λ_ _ D=>by
 refine D.F.Ϙ K2 (by walk_at "v") λΑ A i s H vs Q E x h=>?_;obtain⟨t,f,w,y,R,Y,g,m,G,o,a,Z,p,k,c,b,rfl,l,O,N,U,W,S,I,u,n,v,M,r,C,B,q⟩:=h;refine⟨_,(aO (bQ (AX (Ν L x J (ah (dB (ε 0) rfl) (ah (dB (ε 0) rfl) (ah (ε 2) (ah (ε 1) aB))))) (AI (m6 r9 (ε 2) (Ι bL (dB (ε 0) rfl) (ε 1)) (m5 _)))))),?_⟩;walk_at "s";walk_at "";refine⟨T.Tally,f,g,l,T.cV,T.RW,_,O,T.Tally,f,g,l,T.cV,T.Xb,_,N,w,R,y,m,G,o,a,k,p,c,rfl,W,ξ.of S,I,v,n,r,B,C,⟨_,rfl,?_⟩⟩;by_cases d:a.getD k.toNat 0*c=a.getD p.toNat 0
 .rw[aj (bh d)];refine⟨T.Tally,f,g,l,T.cV,T.tV,_,U,Υ u (cT n.1 M) ⟨?_,?_⟩⟩
  .cases b<;>rfl
  .have e:(!decide (V.int k=YW b))=(decide (a.getD k.toNat 0*c=a.getD p.toNat 0)&&decide (b≠some k)):=by
    rw[bh d,i9];cases b with
    | none=>simp[YW]
    | some j=>
      by_cases z:j=k
      .subst z;simp[YW]
      .simp[YW,z,Ne.symm z]
   rw[e];exact q
 .rw[ag (by rw[bM];exact d)];rw[bA d,iZ]at q;exact q
def wE(T:Txt K X):Sp:=λg H Q _=>E5 λ(a b:Addr)(d e:f3)(n:Nat)=>g=[.ref a,.ref b,.int n]/\ξ K H a (d.map V.int)/\ξ K H b (e.map V.int)/\n<d.length/\n<e.length/\n<=100/\(∀c∈d,c.natAbs<ϫ)/\(∀c∈e,c.natAbs<ϫ)/\∀f,δ H f->Q (.int (W5 (λi=>d.getD i 0) (λi=>e.getD i 0) n)) f
abbrev oS:Stmt:=top 48
theorem F3:η ["one","other","at"] ["one","other","at"] (aK oS):=.of
theorem wT:Ϝ (aK oS) "range":=.of (by kernel_rfl)
theorem Gu(T:Txt K X)(I:cg (Ε P w)):Ok P w K X base "parted_at" oS ["one","other","at"] 1 (wE T):=λ_ _ D=>by
 refine D.F.Ϙ F3 (by walk_at "v") λM A q s H O Q E G h=>?_;obtain⟨a,b,c,d,n,rfl,z,B,L,R,J,C,y,k⟩:=h;refine⟨_,(aO (bQ (W6 (vN rfl) T.sum (ah (gZ rfl (YC ["k","one","other","at"] 1 [0,1,2]) (iQ wT.g T.range (ah (bn eP (bY 2) aU) aB)) (λ_ _ _ _=>(fe (i:=0) (show(["k","one","other","at"]:hD).Nodup from by decide +kernel) rfl (Or.inl rfl))) (λ_ _ _ _=>jg) (λ_ _ _ _=>(bn pI (Ι (oZ K rfl) (pv 1) (pv 0)) (Ι (oZ K rfl) (pv 2) (bn iI (pv 3) (pv 0)))))) aB)))),?_⟩;walk_at "s";walk_at "";refine⟨by lia,by lia,λp u=>?_⟩;rw[show((n:Int)+1).toNat=n+1 by lia];refine oC (lo:=0) (n:=n+1) (λi j l f=>δ H f/\f p=some (.lst j)/\j=((List.range i).map λk=>c.getD k 0*d.getD (n-k) 0).map V.int/\∃v,l=[v,some (V.ref a),some (V.ref b),some (V.int n)]) ⟨δ.new _ u,ay,rfl,_,rfl⟩ ?_ ?_
 .rintro i j l f N hN hi ⟨s2,e2,rfl,v,rfl⟩;walk_at "";have m:i<c.length:=by lia
  have r:n-i<d.length:=by lia
  have x:c.getD i 0=c[i]:=by rw[aX,ao m];rfl
  have t:d.getD (n-i) 0=d[n-i]:=by rw[aX,ao r];rfl
  refine⟨a,_,_,_,rfl,rfl,s2.seq z,cT (v:=V.int (c.getD i 0)) (by lia) (by rw[show((0:Int)+(i:Int)).toNat=i by lia,aA,ao m,x];rfl),b,_,_,_,rfl,rfl,s2.seq B,cT (v:=V.int (d.getD (n-i) 0)) (by lia) (by rw[show((n:Int)-(0+(i:Int))).toNat=n-i by lia,aA,ao r,t];rfl),c.getD i 0,rfl,d.getD (n-i) 0,rfl,qA (by rw[x];exact C _ (dj m)) (by rw[t];exact y _ (dj r)),e2,d5 (by rw[aa,aa,bD];lia),hN _ _ _ ⟨?_,ay,?_,_,rfl⟩⟩
  .exact λb o e=>by rw[aR (cq e u)];exact s2 _ _ e
  .rw[da,aw,aw]
   rfl
 .rintro j l f ⟨s2,e2,rfl,v,rfl⟩;refine⟨p,rfl,_,.inl (ξ.of e2),?_⟩;rw[Jo];exact k f s2
def DU(T:Txt K X):Sp:=λg H Q _=>E4 λ(a b:Addr)(d e:f3)=>g=[.ref a,.ref b]/\ξ K H a (d.map V.int)/\ξ K H b (e.map V.int)/\d.length<=e.length/\d.length<=100/\(∀c∈d,c.natAbs<ϫ)/\(∀c∈e,c.natAbs<ϫ)/\∀l f,H l=none->δ H f->f l=some (.lst (((List.range d.length).map λn=>W5 (λi=>d.getD i 0) (λi=>e.getD i 0) n).map V.int))->Q (.ref l) f
abbrev sP:Stmt:=top 47
theorem Mm:η ["one","other"] ["one","other"] (aK sP):=.of
theorem Ap:Ϝ (aK sP) "range":=.of (by kernel_rfl)
theorem MS(T:Txt K X)(C:cg (Ε P w))(f:Cb P w K X base "parted_at" oS ["one","other","at"] 1 (wE T)):Ok P w K X base "parted" sP ["one","other"] 2 (DU T):=λ_ _ D=>by
 refine D.F.Ϙ Mm (by walk_at "v") λO A r s H R Q E z h=>?_;obtain⟨a,b,l,x,rfl,u,B,M,J,I,y,k⟩:=h;refine⟨_,(aO (bQ (gZ rfl (YC ["at","one","other"] 1 [0,1]) (iQ Ap.g T.range (ah (W6 kF T.len (ah (bY 0) aB)) aB)) (λ_ _ _ _=>(fe (i:=0) (show(["at","one","other"]:hD).Nodup from by decide +kernel) rfl (Or.inl rfl))) (λ_ _ _ _=>jg) (λ_ _ _ _=>(qk f.G (z.mono (by decide)) (by rfl) f.D.m f.D.F.kp f.D.b .nil (t7 C) (ah (pv 1) (ah (pv 2) (ah (pv 0) aB)))))))),?_⟩;walk_at "s";walk_at "";refine⟨_,.inl u,?_⟩;rw[aa];refine⟨by lia,by lia,λp q=>?_⟩;rw[bJ];refine oC (lo:=0) (n:=l.length) (λi d j c=>δ H c/\c p=some (.lst d)/\d=((List.range i).map λn=>W5 (λi=>l.getD i 0) (λi=>x.getD i 0) n).map V.int/\∃v,j=[v,some (V.ref a),some (V.ref b)]) ⟨δ.new _ q,ay,rfl,_,rfl⟩ ?_ ?_
 .rintro i d j c N hN hi ⟨s2,e2,rfl,v,rfl⟩;walk_at "";refine⟨a,b,l,x,i,by rw[cQ],s2.seq u,s2.seq B,hi,by lia,by lia,I,y,λL t=>⟨t _ _ e2,d5 (by rw[aa,aa,bD];lia),hN _ _ _ ⟨?_,ay,?_,_,rfl⟩⟩⟩
  .exact λb o e=>by rw[aR (cq e q)];exact t _ _ (s2 _ _ e)
  .rw[da,aw,aw]
   rfl
 .rintro d j c ⟨s2,e2,rfl,v,rfl⟩;exact k p c q s2 e2
def qS(T:Txt K X):Sp:=λf H Q _=>E12 λ(t e w d:Addr)(b:List (Str×V))(m:Int)(g:gw)(a:hU)(p k c:Int)(n:Nat)=>f=[.ref t,.int p,.int k,.int n]/\H t=some (.ins T.Tally e b)/\b.lookup ("web":Str)=some (.ref w)/\χ T.Web H w m d g a/\(0<=p/\p<m)/\(0<=k/\k<m)/\cN a k p=some c/\2<=c/\c<=1000000/\Q (.int (((n:Int)+1)*c-1)) H
abbrev qb:Stmt:=top 61
theorem G0:η ["tally","place","kid","given"] ["tally","place","kid","given"] (aK qb):=.of
theorem Hw(T:Txt K X)(r:cg (Ε P w))(B:ky P w base T):Ok P w K X base "held_for" qb ["tally","place","kid","given"] 4 (qS T):=λ_ _ D=>by
 refine D.F.Ϙ G0 (by walk_at "v") λJ A b s H L Q E j h=>?_;obtain⟨t,g,w,l,u,m,o,f,p,k,c,n,rfl,C,x,W,v,i,d,I,G,q⟩:=h;refine⟨_,(aO (bQ (bn iI (bn me (bn eP (ε 3) aU) (Ν B j r (ah (dB (ε 0) rfl) (ah (ε 2) (ah (ε 1) aB))))) aU))),?_⟩;walk_at "s";walk_at "";refine⟨T.Tally,g,u,C,T.cV,T.RW,_,x,w,l,m,o,f,k,p,rfl,W,λe _ _ _ _ a=>?_,λy=>absurd ⟨i,v⟩ y,λ_ _ _ _ a=>absurd (d.symm.trans a) (by intro z;cases z)⟩;have:e=c:=bi (a.symm.trans d);subst this;exact⟨e,rfl,.inr ⟨by lia,by lia⟩,q⟩
def si(T:Txt K X):Sp:=λi H Q _=>E11 λ(t h g e ld:Addr)(b:List (Str×V))(f pv:List V)(p:Int)(a:f3)(n:Nat)=>i=[.ref t,.int p,.int n]/\H t=some (.ins T.Tally h b)/\b.lookup ("rests":Str)=some (.ref g)/\H g=some (.lst f)/\0<=p/\f[p.toNat]?=some (.ref e)/\H e=some (.lst (.ref ld::pv))/\H ld=some (.lst (a.map V.int))/\a.length<=100/\n<ϫ/\(∀c∈a,c.natAbs<ϫ)/\(∀k,k<a.length->ch n k<ϫ)/\∀d,δ H d->Q (.int (Τ a n 0)) d
abbrev pE:Stmt:=top 59
theorem Kd:η ["tally","place","held"] ["tally","place","held"] (aK pE):=.of
theorem JX(T:Txt K X)(l:cg (Ε P w))(m:mv P w base T):Ok P w K X base "ways_of" pE ["tally","place","held"] 2 (si T):=λ_ _ D=>by
 refine D.F.Ϙ Kd (by walk_at "v") λB A a s H C Q E f h=>?_;obtain⟨t,c,G,z,ld,r,y,pv,p,e,n,rfl,v,j,d,b,u,o,x,i,q,cb,g,k⟩:=h;refine⟨_,(aO (bQ (Ν m f l (ah (Ι bL (mQ bL (dB (ε 0) rfl) (ε 1) (λ_ _=>rfl)) aU) (ah (ε 2) aB))))),?_⟩;walk_at "s";walk_at "";refine⟨T.Tally,c,r,v,T.cV,T.ϴ,_,j,Υ d (cT b u) (Υ o (cT (ce 0) rfl) ?_)⟩;exact⟨ld,e,n,rfl,ξ.of x,i,by lia,q,cb,g,k⟩
def rG(T:Txt K X):Sp:=λo H Q _=>E18 λ(t i w j h g ld:Addr)(b:List (Str×V))(m:Int)(l:gw)(d:hU)(e pv:List V)(p k:Int)(c n:Nat)(a:f3)=>o=[.ref t,.int p,.int k,.int n]/\H t=some (.ins T.Tally i b)/\b.lookup ("web":Str)=some (.ref w)/\b.lookup ("rests":Str)=some (.ref h)/\χ T.Web H w m j l d/\(0<=p/\p<m)/\(0<=k/\k<m)/\cN d k p=some (c:Int)/\2<=c/\c<=1000000/\H h=some (.lst e)/\e[k.toNat]?=some (.ref g)/\H g=some (.lst (.ref ld::pv))/\H ld=some (.lst (a.map V.int))/\a.length<=24/\n<=24/\(∀c∈a,c.natAbs<ϫ)/\∀f,δ H f->Q (.int (Τ a (τ c n) 0)) f
abbrev nN:Stmt:=top 60
theorem D9:η ["tally","place","kid","given"] ["tally","place","kid","given"] (aK nN):=.of
abbrev nH(P w base)(T:Txt K X):=Cb P w K X base "held_for" qb ["tally","place","kid","given"] 4 (qS T)
abbrev nT(P w base)(T:Txt K X):=Cb P w K X base "ways_of" pE ["tally","place","held"] 2 (si T)
theorem Ed(T:Txt K X)(i:cg (Ε P w))(z:nH P w base T)(I:nT P w base T):Ok P w K X base "ways_given" nN ["tally","place","kid","given"] 5 (rG T):=λ_ _ D=>by
 refine D.F.Ϙ D9 (by walk_at "v") λΑ A a s H vs Q E g h=>?_;obtain⟨t,d,w,y,V,R,ld,l,m,G,r,u,pv,p,k,c,n,x,rfl,o,S,J,W,O,f,M,c2,B,v,b,L,U,cl,N,cb,q⟩:=h;refine⟨_,(aO (bQ (Ν I g i (ah (ε 0) (ah (ε 2) (ah (Ν z g i (ah (ε 0) (ah (ε 1) (ah (ε 2) (ah (ε 3) aB))))) aB)))))),?_⟩;walk_at "s";walk_at "";have e:((n:Int)+1)*(c:Int)-1=((τ c n:Nat):Int):=by
  unfold τ;have:1<=(n+1)*c:=bP (show 1<=n+1 by lia) (show 1<=c by lia);rw[jI this,fj]
  rfl
 have C:τ c n+1<=2^25:=by
  unfold τ;have Z:(n+1)*c<=25*1000000:=bP (by lia) B;have h2:(2:Nat)^25=33554432:=rfl
  lia
 refine⟨t,d,w,y,l,m,G,r,p,k,c,n,rfl,o,S,W,O,f,M,by lia,by lia,?_⟩;rw[e];exact⟨t,d,V,R,ld,l,u,pv,k,x,τ c n,rfl,o,J,v,f.1,b,L,U,by lia,hW (k:=25) (by lia) (by decide),cb,λj Y=>Dp C (by lia),q⟩
def tL(H:Hp)(b:List Int->Nat)(f:List Int->Nat->Int)(e:gw)(a:List (List Int)):Prop:=Paired (λld c=>∃d:List Int,H ld=some (.lst (d.map V.int))/\Ϗ (b c) d (f c)) e a
structure acd(H:Hp)(rs:hU)(m p:Int)(rv:List V)(W:Int->Nat->Int)(c d:gb)(k:Int):Prop where
 k0:0<=k
 k1:k<m
 tl:cN rs k p=some (c k:Int)
 c2:2<=c k
 c1:c k<=1000000
 wk:ul (d k) (W k)
 at_:E4 λ(lp ld:Addr)(pv:List V)(cs:f3)=>rv[k.toNat]?=some (.ref lp)/\H lp=some (.lst (.ref ld::pv))/\H ld=some (.lst (cs.map V.int))/\Ϗ 15000 cs (W k)
def frK(a:f3)(b:Option Int)(c:gb)(p k:Int):Bool:=decide (a.getD k.toNat 0*(c k:Int)=a.getD p.toNat 0)&&decide (b≠some k)
def ZW(a:Option Int)(k:Int):Bool:=decide (a=some k)
def y0(T:Txt K X):Sp:=λB H Q _=>E23 λ(t y w z u o q x j:Addr)(a:List (Str×V))(m:Int)(A:gw)(i:hU)(f:f3)(v r n:List V)(p:Int)(e:f3)(h:Option Int)(W:Int->Nat->Int)(c d:gb)=>B=[.ref t,.int p]/\H t=some (.ins T.Tally y a)/\a.lookup ("web":Str)=some (.ref w)/\a.lookup ("weights":Str)=some (.ref u)/\a.lookup ("bearers":Str)=some (.ref o)/\a.lookup ("kids":Str)=some (.ref q)/\a.lookup ("rests":Str)=some (.ref x)/\χ T.Web H w m z A i/\H u=some (.lst (f.map V.int))/\(f.length:Int)=m/\H o=some (.lst v)/\H q=some (.lst r)/\H x=some (.lst n)/\(0<=p/\p<m)/\v[p.toNat]?=some (YW h)/\r[p.toNat]?=some (.ref j)/\H j=some (.lst (e.map V.int))/\(∀k∈e,acd H i m p n W c d k)/\((e.map λk=>d k+1).sum:Int)<m/\∀l s b,H l=none->δ H b->b l=some (.lst (s.map V.ref))->tL b (Xm d) (ς (frK f h c p) (ZW h) (λk g=>W k (τ (c k) g))) s (YY e)->Q (.ref l) b
abbrev jo:Stmt:=top 57
theorem qP:η ["tally","place","many","rests","kid","ways"] ["tally","place"] (aK jo):=.of
theorem yg:YS (aK jo) "rests":=.of (by kernel_rfl)
theorem BX:YS (aK jo) "kid":=.of (by kernel_rfl)
theorem z3:YS (aK jo) "ways":=.of (by kernel_rfl)
theorem qa:Ϝ (aK jo) "reversed":=.of (by kernel_rfl)
theorem yy:Ϝ (aK jo) "range":=.of (by kernel_rfl)
theorem zw:Ϝ (aK jo) "list":=.of (by kernel_rfl)
abbrev oi(P w base)(T:Txt K X):=Cb P w K X base "is_free" pD ["tally","place","kid"] 6 (sj T)
abbrev ov(P w base)(T:Txt K X):=Cb P w K X base "ways_given" nN ["tally","place","kid","given"] 5 (rG T)
theorem HH(T:Txt K X)(hq:cg (Ε P w))(jN:Cb P w K X base "differences" jL ["values"] 1 (qr T))(qF:Cb P w K X base "first_values" mm ["found","many"] 2 (tX T))(lB:oi P w base T)(zB:Cb P w K X base "parted" sP ["one","other"] 2 (DU T))(iH:ov P w base T):Ok P w K X base "rests_of" jo ["tally","place"] 7 (y0 T):=λ_ _ D=>by
 refine D.F.Ϙ qP (by walk_at "v") λΑ A dg s H vs Q E hr h=>?_;obtain⟨t,dx,w,tw,lw,lb,lk,lr,ϻ,fs,m,ps,rs,xs,cv,kv,rv,p,ks,ob,W,c,d,rfl,ht,fw,fg,fb,fk,fr,WA,eg,xl,eb,ek,dd,hp,b2,YF,bs,Zx,dm,q⟩:=h;refine⟨_,(aD (Δ 2 (dB (dB (bY 0) rfl) rfl)) (aD (uH (i:=3) qP.nd rfl (Or.inr yg.l) (eD (ah (eD (ah aU aB)) aB))) (aD (fm PassesOwn.never rfl (tE qa.g T.reversed (Ι bL (dB (bY 0) rfl) (bY 1))) (fe (i:=4) qP.nd rfl (Or.inr BX.l)) (aD (uH (i:=5) qP.nd rfl (Or.inr z3.l) (gZ rfl (YC ["given","tally","place","kid"] 1 [0,1,4]) (iQ yy.g T.range (ah (ε 2) aB)) (λ_ _ _ _=>(fe (i:=0) (show(["given","tally","place","kid"]:hD).Nodup from by decide +kernel) rfl (Or.inl rfl))) (λ_ _ _ _=>jg) (λ_ _ _ _=>(qk iH.G (hr.mono (by decide)) (by rfl) iH.D.m iH.D.F.kp iH.D.b .nil (t7 hq) (ah (pv 1) (ah (pv 2) (ah (pv 3) (ah (pv 0) aB)))))))) (aO (eK (my (Ν lB hr hq (ah (bY 0) (ah (bY 1) (ah (bY 4) aB))))) (aO (dq (iU PySem.F.plainAttrs_list PySem.F.slot_list_append PySem.F.type_list_append fN (bY 3) (ah (Ν jN hr hq (ah (Ν zB hr hq (ah (bY 5) (ah (Ν qF hr hq (ah (Ι bL (bY 3) (Bj xK aU)) (ah (ε 2) aB))) aB))) aB)) aB)))) (aO (eK (Ϻ jU (bY 4) (Ι bL (dB (bY 0) rfl) (bY 1))) (aO (dq (iU PySem.F.plainAttrs_list PySem.F.slot_list_append PySem.F.type_list_append fN (bY 3) (ah (Ν jN hr hq (ah (gZ rfl (YC ["count","rests"] 1 [3]) (gY (bY 5)) (λ_ _ _ _=>(fe (i:=0) (show(["count","rests"]:hD).Nodup from by decide +kernel) rfl (Or.inl rfl))) (λ_ _ _ _=>jg) (λ_ _ _ _=>(bn pI (pv 0) (Ι (oZ K rfl) (mQ (oZ K rfl) (pv 1) (Bj xK aU) (λ_ _=>rfl)) aU)))) aB)) aB)))) (aO (dq (iU PySem.F.plainAttrs_list PySem.F.slot_list_append PySem.F.type_list_append fN (bY 3) (ah (gZ rfl (YC ["difference","ways"] 1 [5]) (gY (Ι bL (bY 3) (Bj xK aU))) (λ_ _ _ _=>(fe (i:=0) (show(["difference","ways"]:hD).Nodup from by decide +kernel) rfl (Or.inl rfl))) (λ_ _ _ _=>jg) (λ_ _ _ _=>(bn pI (Ι (oZ K rfl) (pv 1) aU) (pv 0)))) aB)))))))))) (aO (bQ (RN rfl qa.g T.reversed zw.g T.list (bY 3))))))),?_⟩;walk_at "s";obtain⟨dw,wb⟩:=WA.ob;refine cL λN0 h0=>?_;walk_at "";refine⟨T.Tally,dx,fs,ht,T.cV,T.RW,_,fw,w,rfl,T.Web,dw,_,wb,T.lu,T.ϕ,_,jV _ _,h0 _ _ (cL λN1 h1=>?_)⟩;walk_at "";refine⟨cm (by simp),λq1 cf=>⟨cm (by simp),λl nl=>h1 _ _ (cL λN2 h2=>?_)⟩⟩;have s1:=δ.new (HO.lst [V.int 1]) cf;have s2:=δ.new (HO.lst [V.ref q1]) nl;have c0:H l=none:=s1.free nl;have e1:=s2 _ _ (ay (H:=H) (a:=q1) (o:=HO.lst [V.int 1]));have el:upd (upd H q1 (HO.lst [V.int 1])) l (HO.lst [V.ref q1]) l=some (.lst ([q1].map V.ref)):=ay;have WT:=s1.trans s2;generalize upd (upd H q1 (HO.lst [V.int 1])) l (HO.lst [V.ref q1])=H2 at e1 el WT ⊢;clear s1 s2 nl cf h0 h1;walk_at "";have g:=WA.go;have m1:=g.m1;have Ο:=g.Ο;refine⟨T.Tally,dx,fs,WT _ _ ht,T.cV,T.rA,_,fk,Υ (WT _ _ ek) (cT hp.1 YF) ⟨ϻ,rfl,_,ξ.of (WT _ _ bs),?_⟩⟩;generalize hF:ς (frK xs ob c p) (ZW ob) (λk g=>W k (τ (c k) g))=F at q;have dK:∀k∈ks,ul (d k) (W k):=λk hk=>(Zx k hk).wk;have db:∀k∈ks,1<=c k/\c k<=1000000:=λk hk=>⟨aL (by decide) (Zx k hk).c2,(Zx k hk).c1⟩;refine qK (K:=K) (xs:=ks.map V.int) (λi B H3=>δ H H3/\(∃(O:gw)(ld:Addr),H3 l=some (.lst ((O++[ld]).map V.ref))/\tL H3 (Xm d) F (O++[ld]) ((List.range (i+1)).map λj=>ks.drop (ks.length-j)))/\∃v4 v5,B=[some (V.ref t),some (V.int p),some (V.int m),some (V.ref l),v4,v5]) ?_ (λi B H3 _ z=>ξ.of (z.1 _ _ bs)) ?_ ?_
 .refine⟨WT,⟨[],q1,el,.cons ⟨[1],e1,?_⟩ .nil⟩,_,_,rfl⟩;have e:ks.drop (ks.length-0)=[]:=by rw[gW,f9]
  show Ϗ (Xm d (ks.drop (ks.length-0))) [1] (F (ks.drop (ks.length-0)));rw[e,<-hF];exact Ϗ.one
 .rintro i x B H3 N hN r ⟨s3,⟨O,ld,e3,ra⟩,v4,v5,rfl⟩;rw[<-d9]at r;obtain⟨k,hk,rfl⟩:=List.μ r;have il:i<ks.length:=by
   have:=(az.mp hk).1;rw[bc]at this;exact this
  have cd:ks[ks.length-1-i]?=some k:=by
   rw[cC il]at hk;exact hk
  have eS:ks.drop (ks.length-(i+1))=k::ks.drop (ks.length-i):=by
   rw[show ks.length-(i+1)=ks.length-1-i by lia,ck (by lia),(az.mp cd).2,show ks.length-1-i+1=ks.length-i by lia]
  have km:=aQ cd;have C:=Zx k km;obtain⟨kp,kd,pv,cs,dt,k2,k3,kc⟩:=C.at_;have av:∀x∈k::ks.drop (ks.length-i),x∈ks:=λx r=>by
   rw[<-eS]at r;exact b5 r
  have dS:((k::ks.drop (ks.length-i)).map λk=>d k+1).sum<m.toNat:=by
   rw[<-eS];have:=sU (λk=>d k+1) ks (ks.length-(i+1))
   lia
  have er:(List.range (i+1+1)).map (λj=>ks.drop (ks.length-j))=((List.range (i+1)).map λj=>ks.drop (ks.length-j))++[k::ks.drop (ks.length-i)]:=by rw[da,aw,<-eS];rfl
  obtain⟨cS,cy,Z⟩:∃cS:List Int,H3 ld=some (.lst (cS.map V.int))/\Ϗ (Xm d (ks.drop (ks.length-i))) cS (F (ks.drop (ks.length-i))):=by
   have:=ra;unfold tL at this;rw[da,aw]at this;obtain⟨l0,a0,h2,_,h4⟩:=Ag this;have h5:=(d8 (List.append_inj' h2 rfl).2).1;rw[h5];exact h4
  generalize ks.drop (ks.length-i)=S at av dS er Z eS;have dv:∀{y:Addr}{zs:f3},zs≠[]->H3 y=some (.lst (zs.map V.int))->y≠l:=λ{y zs} zn hy z=>by
   rw[z,e3]at hy;injection hy with hy
   injection hy with hy
   cases zs with
   | nil=>exact zn rfl
   | cons z0 zs=>
     cases O with
     | nil=>cases(d8 hy).1
     | cons _ _=>cases(d8 hy).1
  have Y:∀(y:Addr)(Wv:f3)(f:Hp),δ H3 f->f y=some (.lst (Wv.map V.int))->Ϗ (Xm d (k::S)) Wv (F (k::S))->(O++[ld]).length<sizeLine->∀v5,tyV K "list" (V.ref l) f/\Xf (V.ref l) [V.ref y] f λ_ H6=>N [some (V.ref t),some (V.int p),some (V.int m),some (V.ref l),some (V.int k),v5] H6:=by
   intro y Wv f u ey bp sz v5;have J:=u _ _ e3;refine⟨Io J,o9 J (by rw[aa];exact sz) (hN _ _ ⟨λb o e=>?_,⟨O++[ld],y,by rw[ay,aw (l₂:=[y])];rfl,?_⟩,_,_,rfl⟩)⟩
   .rw[aR (cq e c0)];exact u _ _ (s3 _ _ e)
   .rw[er];have yl:y≠l:=λz=>by
     rw[z,J]at ey;injection ey with ey
     injection ey with ey
     cases Wv with
     | nil=>exact bp.ne rfl
     | cons z0 zs=>
       cases O with
       | nil=>cases(d8 ey).1
       | cons _ _=>cases(d8 ey).1
    refine tJ ⟨Wv,by rw[aR yl];exact ey,bp⟩ (Paired.imp' (λb kk ⟨cb,h1,h2⟩=>⟨cb,?_,h2⟩) ra);rw[aR (dv h2.ne h1)];exact u _ _ h1
  have aC:(O++[ld]).length<sizeLine:=by
   have:=Paired.length ra;rw[aa,bD]at this;exact d5 (by have:=sU (λk=>d k+1) ks 0;have:ks.length<=(ks.map λk=>d k+1).sum:=L9 ks;lia)
  refine cL λM1 k1=>?_;walk_at "";refine⟨by lia,by lia,λpw ZY=>?_⟩;have L:∀{b:Nat}{z:Int},b<=15000->z.natAbs<=2^b->z.natAbs<ϫ:=λ{b z} hb hz=>hW hz (by lia);refine oC (lo:=0) (n:=m.toNat) (λj I B H4=>δ H3 H4/\H4 pw=some (.lst I)/\I=((List.range j).map λg=>W k (τ (c k) g)).map V.int/\∃v,B=[v,some (V.ref t),some (V.int p),some (V.int k)]) ⟨δ.new _ ZY,ay,rfl,_,rfl⟩ ?_ ?_
  .rintro j I B H4 N4 hN4 hj ⟨R,e4,rfl,v,rfl⟩;walk_at "";have U:=s3.trans R;refine⟨t,dx,w,tw,lr,kp,kd,fs,m,ps,rs,rv,pv,p,k,c k,j,cs,by rw[cQ],U _ _ ht,fw,fr,WA.same U,hp,⟨C.k0,C.k1⟩,C.tl,C.c2,C.c1,U _ _ dd,dt,U _ _ k2,U _ _ k3,kc.len,by lia,λx r=>L (ap _) (kc.bt x r),λf u=>⟨u _ _ e4,d5 (by rw[aa,aa,bD];lia),hN4 _ _ _ ⟨?_,ay,?_,_,rfl⟩⟩⟩
   .exact λb o e=>by rw[aR (cq e ZY)];exact u _ _ (R _ _ e)
   .rw[da,aw,aw,kc.val]
    rfl
  .rintro I B H4 ⟨R,e4,rfl,v,rfl⟩;refine k1 _ _ ?_;have U:=s3.trans R;have bv:∀j,j<m.toNat->(W k (τ (c k) j)).natAbs<=2^(d k*(25+20*d k)):=λj hj=>rq (Gz C.wk (aL (by decide) C.c2) C.c1 (by lia));have bm:d k*(25+20*d k)<=15000:=by
    have:=sJ (d:=d) (ks:=k::S) (by lia);rw[vK]at this
    lia
   have cc:∀x∈(List.range m.toNat).map λg=>W k (τ (c k) g),x.natAbs<ϫ:=λx r=>by
    obtain⟨j,hj,rfl⟩:=aP.mp r;exact L bm (bv j (bU.mp hj))
   have bS:Xm d S<=15000:=sJ (by rw[aq,aN]at dS;lia);have ZJ:∀{f:Hp},δ H4 f->ϲ ((O++[ld]).map V.ref) (-1)=some (V.ref ld):=λ_=>by rw[aw];exact Ji _ _
   have a2:∀x∈k::S,ul (d x) (W x):=λx r=>dK x (av x r);have aT:∀x∈k::S,1<=c x/\c x<=1000000:=λx r=>db x (av x r);walk_at "";refine⟨t,dx,w,tw,lw,lb,fs,m,ps,rs,xs,cv,p,k,c k,ob,rfl,U _ _ ht,fw,fg,fb,WA.same U,U _ _ eg,xl,U _ _ eb,hp,⟨C.k0,C.k1⟩,b2,C.tl,by have:=C.c2;lia,by have:=C.c1;lia,⟨_,rfl,?_⟩⟩;subst hF;change if frK xs ob c p k=true then _ else _;have eN:((m.toNat:Nat):Int)=m:=br (by lia);have a1:m.toNat<=24:=(by lia);have M:=R _ _ e3;have ad:=R _ _ cy;have WR:((List.range m.toNat).map λg=>W k (τ (c k) g)).length=m.toNat:=(by rw[aa,bD]);by_cases hf:frK xs ob c p k=true
   .rw[aj hf];refine⟨Io M,Υ M (ZJ (δ.refl _)) ⟨ld,cS,m.toNat,by rw[eN],ξ.of ad,by have:=Z.len;lia,by lia,λx r=>L bS (Z.bt x r),λl5 f n5 u J=>?_⟩⟩;refine⟨pw,l5,_,_,rfl,ξ.of (u _ _ e4),ξ.of J,by rw[WR,aa,bD];exact ap _,by rw[WR];lia,cc,λx r=>?_,λl6 H6 n6 s6 e6=>?_⟩
    .obtain⟨j,hj,rfl⟩:=aP.mp r;rw[Z.val];exact L (aL (Cd d S) bS) (rq (DK a1 (λx r=>a2 x (.tail _ r)) (λx r=>aT x (.tail _ r)) j (bU.mp hj)))
    .refine⟨l6,_,rfl,ξ.of e6,by rw[aa,bD,WR];lia,λl7 H7 n7 s7 e7=>(Y l7 _ H7 (R.trans (u.trans (s6.trans s7))) e7 ?_ aC _).2⟩;refine LH a1 a2 aT dS ?_;rw[WR];refine bZ λn hn=>?_;have hn:=bU.mp hn;rw[qC hf];exact Mt (λi hi=>zk (by lia)) λi hi=>by rw[zk (by lia),Z.val]
   .rw[ag hf];refine⟨T.Tally,dx,fs,U _ _ ht,T.cV,T.tV,_,fb,Υ (U _ _ eb) (cT hp.1 b2) ⟨by cases ob<;>rfl,?_⟩⟩;obtain⟨rS,eh⟩:=Z.head;by_cases hb:ob=some k
    .rw[aj (by rw[hb];rfl)];have Zb:ZW ob k=true:=bh hb;refine⟨Io M,⟨_,ξ.of e4⟩,λpc Wg=>?_⟩;refine lQ (K:=K) (c:=true) (a:=pw) (xs:=((List.range m.toNat).map λg=>W k (τ (c k) g)).map V.int) (λj I B f=>δ H4 f/\f pc=some (.lst I)/\I=((((List.range m.toNat).map λg=>W k (τ (c k) g)).take j).map λx=>x*ς (frK xs ob c p) (ZW ob) (λk g=>W k (τ (c k) g)) S 0).map V.int/\∃v,B=[v,some (V.ref l)]) ⟨δ.new _ Wg,ay,rfl,_,rfl⟩ (λj I B f _ ⟨z,_⟩=>ξ.of (z _ _ e4)) ?_ ?_
     .rintro j x I B f N5 hN5 hj ⟨u,J,rfl,v,rfl⟩;obtain⟨z,hz,rfl⟩:=List.μ hj;have et:((List.range m.toNat).map λg=>W k (τ (c k) g)).take (j+1)=((List.range m.toNat).map λg=>W k (τ (c k) g)).take j++[z]:=(by rw[bK,hz];rfl);walk_at "";refine Υ (u _ _ M) (ZJ (δ.refl _)) (Υ (v:=V.int (ς (frK xs ob c p) (ZW ob) (λk g=>W k (τ (c k) g)) S 0)) (u _ _ ad) (cT (ce 0) (by rw[eh];rfl)) ⟨_,rfl,qA (cc z (aQ hz)) (L bS (Z.bt _ (by rw[eh];exact .head _))),J,d5 (by rw[aa,aa,bq,WR];lia),hN5 _ _ _ ⟨?_,ay,?_,_,rfl⟩⟩)
      .exact λb o e=>by rw[aR (cq e Wg)];exact u _ _ e
      .rw[et,aw,aw]
       rfl
     .rintro I B f ⟨u,J,rfl,v,rfl⟩;rw[aa,WR,dc (by rw[WR];exact ap _)]at J;refine⟨pc,_,rfl,ξ.of J,by rw[aa,WR];lia,λl7 H7 n7 s7 e7=>(Y l7 _ H7 (R.trans (u.trans s7)) e7 ?_ aC _).2⟩;refine LH a1 a2 aT dS ?_;rw[cZ];refine bZ λn hn=>?_;rw[py hf Zb]
      rfl
    .rw[ag (λz=>hb (by cases ob with
      | none=>cases z
      | some j=>injection z with z;rw[z]))]
     have Zb:¬ZW ob k=true:=(by unfold ZW;rw[bM];exact hb);have eF:m.toNat=(m.toNat-1)+1:=(by lia);have w0:∀{f:Hp},δ H4 f->f pw=some (.lst (((List.range m.toNat).map λg=>W k (τ (c k) g)).map V.int)):=λs=>s _ _ e4;have a0:ϲ (((List.range m.toNat).map λg=>W k (τ (c k) g)).map V.int) 0=some (V.int (W k (τ (c k) 0))):=cT (ce 0) (by
      show(((List.range m.toNat).map λg=>W k (τ (c k) g)).map V.int)[0]?=_;rw[aA,aA,fA (by lia)]
      rfl)
     refine⟨Io M,Υ M (ZJ (δ.refl _)) ⟨ld,rfl,⟨_,ξ.of ad⟩,λpc Wg=>?_⟩⟩;refine lQ (K:=K) (c:=true) (a:=ld) (xs:=cS.map V.int) (λj I B f=>δ H4 f/\f pc=some (.lst I)/\I=((cS.take j).map λx=>W k (τ (c k) 0)*x).map V.int/\∃v,B=[v,some (V.ref pw)]) ⟨δ.new _ Wg,ay,rfl,_,rfl⟩ (λj I B f _ ⟨z,_⟩=>ξ.of (z _ _ ad)) ?_ ?_
     .rintro j x I B f N5 hN5 hj ⟨u,J,rfl,v,rfl⟩;obtain⟨z,hz,rfl⟩:=List.μ hj;have et:cS.take (j+1)=cS.take j++[z]:=(by rw[bK,hz];rfl);have cl:=Z.len;walk_at "";refine Υ (w0 u) a0 ⟨_,rfl,qA (L bm (bv 0 (by lia))) (L bS (Z.bt z (aQ hz))),J,d5 (by rw[aa,aa,bq];lia),hN5 _ _ _ ⟨?_,ay,?_,_,rfl⟩⟩
      .exact λb o e=>by rw[aR (cq e Wg)];exact u _ _ e
      .rw[et,aw,aw]
       rfl
     .rintro I B f ⟨u,J,rfl,v,rfl⟩;rw[aa,bx]at J;exact(Y pc _ f (R.trans u) J (Rb C.wk (aL (by decide) C.c2) C.c1 hf Zb Z) aC _).2
 .rintro B H3 ⟨s3,⟨O,ld,e3,ra⟩,v4,v5,rfl⟩;refine h2 _ _ ?_;unfold Q8;walk_at "";rw[aa]at ra;refine⟨_,ξ.of e3,λl2 bd=>?_⟩;have R:=δ.new (HO.lst ((O++[ld]).map V.ref).reverse) bd;refine q l2 (O++[ld]).reverse _ (s3.free bd) (s3.trans R) (by rw[ay,d9]) ?_;have e:YY ks=((List.range (ks.length+1)).map λj=>ks.drop (ks.length-j)).reverse:=by rw[<-Jh,jt]
  rw[e];exact Jd (Paired.imp' (λb kk ⟨cb,h1,h2⟩=>⟨cb,R _ _ h1,h2⟩) ra)
def kP(p ld a c b d:Addr):List (Str×V):=bF "rests" (.ref d) (bF "kids" (.ref b) (bF "bearers" (.ref c) (bF "weights" (.ref a) (bF "down" (.ref ld) (bF "web" (.ref p) [])))))
theorem oJ(p ld b d c a:Addr):(kP p ld b d c a).lookup ("rests":Str)=some (.ref a):=by
 unfold kP;rw[cI,aj rfl]
theorem p9(p ld b c a d:Addr):(kP p ld b c a d).lookup ("kids":Str)=some (.ref a):=by
 unfold kP;rw[cI,ag (by decide +kernel),cI,aj rfl]
theorem vX(p ld b a c d:Addr):(kP p ld b a c d).lookup ("bearers":Str)=some (.ref a):=by
 unfold kP;rw[cI,ag (by decide +kernel),cI,ag (by decide +kernel),cI,aj rfl]
theorem we(p ld a c b d:Addr):(kP p ld a c b d).lookup ("weights":Str)=some (.ref a):=by
 unfold kP;rw[cI,ag (by decide +kernel),cI,ag (by decide +kernel),cI,ag (by decide +kernel),cI,aj rfl]
theorem pS(p ld a c b d:Addr):(kP p ld a c b d).lookup ("down":Str)=some (.ref ld):=by
 unfold kP;rw[cI,ag (by decide +kernel),cI,ag (by decide +kernel),cI,ag (by decide +kernel),cI,ag (by decide +kernel),cI,aj rfl]
theorem pB(p ld a c b d:Addr):(kP p ld a c b d).lookup ("web":Str)=some (.ref p):=by
 unfold kP;rw[cI,ag (by decide +kernel),cI,ag (by decide +kernel),cI,ag (by decide +kernel),cI,ag (by decide +kernel),cI,ag (by decide +kernel),cI,aj rfl]
def ϝ(m:Int)(c:hU)(r:Int)(a:f5)(b:gb)(d:f3)(k:Int):Bool:=decide (ο m c r a b k*tup c a k=ο m c r a b (a k))&&decide (bV m c r a b d (a k)≠some k)
def Ϩ(m:Int)(c:hU)(r:Int)(a:f5)(b:gb)(d:f3)(k:Int):Bool:=decide (bV m c r a b d (a k)=some k)
def cK(b:hU)(a:f5)(k:Int):Nat:=(tup b a k).toNat
def iD(m:Int)(c:hU)(r:Int)(a:f5)(b:gb)(d:f3)(v:Int):Nat->Int:=wy m c r a b (ϝ m c r a b d) (Ϩ m c r a b d) (cK c a) v
structure ϖ(C O:Addr)(H:Hp)(o p t:Addr)(m:Int)(ps:gw)(rs:hU)(r:Int)(par:f5)(dep:gb)(tl:f3)(ld lw lb lk lr:Addr)(kl:gw)(rv:List V)(S:Int->Prop):Prop where
 ob:∃dx,H o=some (.ins O dx (kP p ld lw lb lk lr))
 web:χ C H p m t ps rs
 rt:ζ m rs r par dep
 et:bO m rs r par dep r=r::tl
 or:Order m r par tl
 hd:H ld=some (.lst ((bO m rs r par dep r).map V.int))
 hw:H lw=some (.lst ((dD m rs r par dep).map V.int))
 hb:H lb=some (.lst (Y9 m (bV m rs r par dep tl)))
 hk:H lk=some (.lst (kl.map V.ref))
 kp:Paired (λa v=>H a=some (.lst ((kd m rs r par v).map V.int))) kl (b6 m.toNat)
 hr:H lr=some (.lst rv)
 rl:rv.length=m.toNat
 rn:∀x∈rv,x=.ω\/∃a,x=.ref a
 ϛ:∀v,S v->0<=v/\∃(lp:Addr)(ϱ:gw),rv[v.toNat]?=some (.ref lp)/\lp≠lr/\H lp=some (.lst (ϱ.map V.ref))/\tL H (Xm (ϐ m rs r par dep)) (ς (ϝ m rs r par dep tl) (Ϩ m rs r par dep tl) (λk g=>iD m rs r par dep tl k (τ (cK rs par k) g))) ϱ (YY (kd m rs r par v))
theorem ϖ.same{C O:Addr}{H l:Hp}{o p t:Addr}{m:Int}{g:gw}{d:hU}{r:Int}{par:f5}{c:gb}{tl:f3}{ld n j k s:Addr}{i:gw}{f:List V}{S:Int->Prop}(e:δ H l)(h:ϖ C O H o p t m g d r par c tl ld n j k s i f S):ϖ C O l o p t m g d r par c tl ld n j k s i f S where
 ob:=let ⟨dx,q⟩:=h.ob;⟨dx,e _ _ q⟩
 web:=h.web.same e
 rt:=h.rt
 et:=h.et
 or:=h.or
 hd:=e _ _ h.hd
 hw:=e _ _ h.hw
 hb:=e _ _ h.hb
 hk:=e _ _ h.hk
 kp:=Paired.imp' (λ_ _ z=>e _ _ z) h.kp
 hr:=e _ _ h.hr
 rl:=h.rl
 rn:=h.rn
 ϛ:=λv hv=>let ⟨v0,lp,ϱ,h1,h2,h3,h4⟩:=h.ϛ v hv;⟨v0,lp,ϱ,h1,h2,e _ _ h3,Paired.imp' (λ_ _ ⟨u,a,b⟩=>⟨u,e _ _ a,b⟩) h4⟩
theorem χ.Y5{C O:Addr}{H d:Hp}{o p:Addr}{m:Int}{t a:Addr}{f:gw}{c:hU}(e:Yy o H d)(b:H o=some (.ins O a []))(h:χ C H p m t f c):χ C d p m t f c:=⟨let ⟨a,q⟩:=h.ob;⟨a,e _ _ q (gV q b (by intro z;cases z))⟩,e _ _ h.tu (gV h.tu b (by intro z;cases z)),Paired.imp' (λq x z=>e _ _ z (gV z b (by intro z;cases z))) h.ro,h.go⟩
theorem ϖ.put{C O:Addr}{H:Hp}{o p t:Addr}{m:Int}{ps:gw}{j:hU}{r:Int}{a:f5}{d:gb}{F:f3}{ld U Q R i:Addr}{M:gw}{A:List V}{S:Int->Prop}(h:ϖ C O H o p t m ps j r a d F ld U Q R i M A S)(τ:ld≠i)(J:U≠i)(T:Q≠i)(L:R≠i)(N:∀q∈M,q≠i){v:Int}(v0:0<=v)(v1:v<m)(hS:∀c,S c->c≠v){l:Addr}{B:gw}(nl:l≠i)(hl:H l=some (.lst (B.map V.ref)))(ra:tL H (Xm (ϐ m j r a d)) (ς (ϝ m j r a d F) (Ϩ m j r a d F) (λk g=>iD m j r a d F k (Pb.τ (cK j a k) g))) B (YY (kd m j r a v))):ϖ C O (upd H i (.lst (A.set v.toNat (.ref l)))) o p t m ps j r a d F ld U Q R i M (A.set v.toNat (.ref l)) (λc=>c=v\/S c):=by
 have vm:v.toNat<A.length:=by rw[h.rl];lia
 have ne:∀{y:Addr}{s:f3},s≠[]->H y=some (.lst (s.map V.int))->y≠i:=λ{y s} cn hy z=>by
  rw[z,h.hr]at hy;injection hy with hy
  injection hy with hy
  cases s with
  | nil=>exact cn rfl
  | cons c0 s=>
    rcases h.rn (.int c0) (by rw[hy];exact .head _)with e|⟨_,e⟩<;>cases e
 have up:∀{b:Addr}{x:HO},H b=some x->b≠i->upd H i (.lst (A.set v.toNat (.ref l))) b=some x:=λe n=>by rw[aR n];exact e
 have G:∀{B:gw}{D:List (List Int)}{b:List Int->Nat}{f:List Int->Nat->Int},tL H b f B D->tL (upd H i (.lst (A.set v.toNat (.ref l)))) b f B D:=λZ=>Paired.imp' (λy kk ⟨s,I,E⟩=>⟨s,up I (ne E.ne I),E⟩) Z;obtain⟨dx,ob⟩:=h.ob;have W:=h.web;obtain⟨dw,wb⟩:=W.ob;refine⟨⟨dx,up ob (gV ob h.hr (by intro z;cases z))⟩,⟨⟨dw,up wb (gV wb h.hr (by intro z;cases z))⟩,up W.tu (gV W.tu h.hr (by intro z;cases z)),Paired.imp' (λq x e=>up e (gV e h.hr (by intro z;cases z))) W.ro,W.go⟩,h.rt,h.et,h.or,up h.hd τ,up h.hw J,up h.hb T,up h.hk L,CM (λq x hq e=>up e (N q hq)) h.kp,ay,by rw[eO];exact h.rl,λx Y=>?_,λu hu=>?_⟩
 .rcases kL Y with Y|rfl
  .exact h.rn x Y
  .exact .inr ⟨l,rfl⟩
 .rcases hu with rfl|hu
  .exact⟨v0,l,B,gC vm,nl,up hl nl,G ra⟩
  .obtain⟨u0,lp,ajp,I,E,h3,h4⟩:=h.ϛ u hu;refine⟨u0,lp,ajp,?_,E,up h3 E,G h4⟩;rw[dY (by have:=hS u hu;lia)];exact I
def lV(T:Txt K X):Sp:=λq H Q _=>E8 λ(o g p t:Addr)(m:Int)(f:gw)(d:hU)(r:Int)=>q=[.ref o,.ref p,.int r]/\H o=some (.ins T.Tally g [])/\χ T.Web H p m t f d/\(0<=r/\r<m)/\∃a c,ζ m d r a c/\∀j ld n k l s i h e,ϖ T.Web T.Tally e o p t m f d r a c j ld n k l s i h (λv=>0<=v/\v<m)->(∀b x,H b=some x->b≠o->e b=some x)->Q .ω e
abbrev eU:Stmt:=IU (top 56) 0
theorem yz:η ["self","web","r","place"] ["self","web","r"] (aK eU):=.of
theorem qZ:Ϝ (aK eU) "enumerate":=.of (by kernel_rfl)
theorem rL:Ϝ (aK eU) "reversed":=.of (by kernel_rfl)
theorem yB(T:Txt K X)(hq:cg (Ε P w)){f:Addr}{fd:FuncData}(F:Yh K "__init__" "Tally.__init__" eU f fd)(nY:ka P w base T)(wR:Cb P w K X base "bearers" q8 ["web","r"] 9 (Bi T))(uF:Cb P w K X base "down" uI ["web","r"] 6 (Dn T))(mU:jz P w base T)(gx:mn P w base T)(vo:Cb P w K X base "rests_of" jo ["tally","place"] 7 (y0 T)):ϓ P w K X base (Ε P w) 10 f fd ["self","web","r"] (lV T):=by
 refine F.Ϙ yz (by walk_at "v") λΑ A d2 s H vs Q E hr h=>?_;obtain⟨o,C,p,t,m,ps,B,r,rfl,ho,W,rr,par,d,R,k⟩:=h;have g:=W.go;have Ο:=g.Ο;refine⟨_,(aD (rd (ε 0) (bY 1) rfl) (aD (rd (ε 0) (Ν uF hr hq (ah (bY 1) (ah (ε 2) aB))) rfl) (aD (rd (ε 0) (Ν gx hr hq (ah (bY 1) (ah (ε 2) aB))) rfl) (aD (rd (ε 0) (Ν wR hr hq (ah (bY 1) (ah (ε 2) aB))) rfl) (aD (rd (ε 0) (gZ rfl (YC ["place","front","web"] 2 [1]) (xQ true qZ.g T.enumerate (Ν nY hr hq (ah (bY 1) (ah (ε 2) aB)))) (λ_ _ _ _=>(I0 K rfl (n:=2) rfl (cz (fe (i:=0) (show(["place","front","web"]:hD).Nodup from by decide +kernel) rfl (Or.inl rfl)) (cz (fe (i:=1) (show(["place","front","web"]:hD).Nodup from by decide +kernel) rfl (Or.inl rfl)) iM)))) (λ_ _ _ _=>jg) (λ_ _ _ _=>(qk mU.G (hr.mono (by decide)) (by rfl) mU.D.m mU.D.F.kp mU.D.b .nil (t7 hq) (ah (pv 2) (ah (pv 0) (ah (pv 1) aB)))))) rfl) (aD (rd (ε 0) (bn sM (eD (ah Ak aB)) (dB (bY 1) rfl)) rfl) (aO (fm PassesOwn.never rfl (tE rL.g T.reversed (dB (ε 0) rfl)) (ϒ 3) (aO (nP (Ν vo hr hq (ah (ε 0) (ah (ε 3) aB))) (rp (dB (ε 0) rfl) (ε 3) mP))))))))))),?_⟩;walk_at "s";walk_at "";refine⟨T.Tally,C,[],ho,T.cV,T.RW,by decide,?_⟩;have k1:Yy o H (upd H o (.ins T.Tally C (bF "web" (.ref p) []))):=Yy.refl.put _;have o1:upd H o (.ins T.Tally C (bF "web" (.ref p) [])) o=some (.ins T.Tally C (bF "web" (.ref p) [])):=ay;generalize upd H o (.ins T.Tally C (bF "web" (.ref p) []))=H1 at k1 o1 ⊢;refine⟨p,t,m,ps,B,r,rfl,W.Y5 k1 ho,λ_ _=>⟨par,d,R,λld H2 n2 s2 e2 Zu ct=>?_⟩,λz=>absurd rr z⟩;dsimp only;have a6:∀{a:Addr}{G:Hp}{x:HO},G o=some x->G a=none->a≠o:=λh1 h2 z=>by rw[z,h1]at h2;cases h2
 refine⟨T.Tally,C,_,s2 _ _ o1,T.cV,T.uU,by show 1<1000;decide,?_⟩;have ai:ld≠o:=a6 o1 n2;have k3:=(k1.then s2).put (.ins T.Tally C (bF "down" (.ref ld) (bF "web" (.ref p) [])));have o3:upd H2 o (.ins T.Tally C (bF "down" (.ref ld) (bF "web" (.ref p) []))) o=some (.ins T.Tally C (bF "down" (.ref ld) (bF "web" (.ref p) []))):=ay;have e3:upd H2 o (.ins T.Tally C (bF "down" (.ref ld) (bF "web" (.ref p) []))) ld=_:=(aR ai).trans e2;generalize upd H2 o (.ins T.Tally C (bF "down" (.ref ld) (bF "web" (.ref p) [])))=H3 at k3 o3 e3 ⊢;refine⟨p,t,m,ps,B,r,rfl,W.Y5 k3 ho,λ_ _=>⟨par,d,R,λI H4 n4 s4 e4=>?_⟩,λz=>absurd rr z⟩;refine⟨T.Tally,C,_,s4 _ _ o3,T.cV,T.Xb,by show 2<1000;decide,?_⟩;have au:I≠o:=a6 o3 n4;have k5:=(k3.then s4).put (.ins T.Tally C (bF "weights" (.ref I) (bF "down" (.ref ld) (bF "web" (.ref p) []))));have o5:upd H4 o (.ins T.Tally C (bF "weights" (.ref I) (bF "down" (.ref ld) (bF "web" (.ref p) [])))) o=some (.ins T.Tally C (bF "weights" (.ref I) (bF "down" (.ref ld) (bF "web" (.ref p) [])))):=ay;have bm:upd H4 o (.ins T.Tally C (bF "weights" (.ref I) (bF "down" (.ref ld) (bF "web" (.ref p) [])))) ld=_:=(aR ai).trans (s4 _ _ e3);have a9:upd H4 o (.ins T.Tally C (bF "weights" (.ref I) (bF "down" (.ref ld) (bF "web" (.ref p) [])))) I=_:=(aR au).trans e4;generalize upd H4 o (.ins T.Tally C (bF "weights" (.ref I) (bF "down" (.ref ld) (bF "web" (.ref p) []))))=Y at k5 o5 bm a9 ⊢;refine⟨p,t,m,ps,B,r,rfl,W.Y5 k5 ho,λ_ _=>⟨par,d,R,λM J H6 et Or n6 s6 e6=>?_⟩,λz=>absurd rr z⟩;refine⟨T.Tally,C,_,s6 _ _ o5,T.cV,T.tV,by show 3<1000;decide,?_⟩;have a8:J≠o:=a6 o5 n6;have k7:=(k5.then s6).put (.ins T.Tally C (bF "bearers" (.ref J) (bF "weights" (.ref I) (bF "down" (.ref ld) (bF "web" (.ref p) [])))));have o7:upd H6 o (.ins T.Tally C (bF "bearers" (.ref J) (bF "weights" (.ref I) (bF "down" (.ref ld) (bF "web" (.ref p) []))))) o=some (.ins T.Tally C (bF "bearers" (.ref J) (bF "weights" (.ref I) (bF "down" (.ref ld) (bF "web" (.ref p) []))))):=ay;have cu:upd H6 o (.ins T.Tally C (bF "bearers" (.ref J) (bF "weights" (.ref I) (bF "down" (.ref ld) (bF "web" (.ref p) []))))) ld=_:=(aR ai).trans (s6 _ _ bm);have ci:upd H6 o (.ins T.Tally C (bF "bearers" (.ref J) (bF "weights" (.ref I) (bF "down" (.ref ld) (bF "web" (.ref p) []))))) I=_:=(aR au).trans (s6 _ _ a9);have co:upd H6 o (.ins T.Tally C (bF "bearers" (.ref J) (bF "weights" (.ref I) (bF "down" (.ref ld) (bF "web" (.ref p) []))))) J=_:=(aR a8).trans e6;generalize upd H6 o (.ins T.Tally C (bF "bearers" (.ref J) (bF "weights" (.ref I) (bF "down" (.ref ld) (bF "web" (.ref p) [])))))=H7 at k7 o7 cu ci co ⊢;have W3:=W.Y5 k7 ho;clear k1 k3 k5 o1 o3 o5 e2 e3 e4 bm a9 e6 s2 s4 s6 n2 n4 n6;refine⟨p,t,m,ps,B,r,rfl,W3,λ_ _=>⟨par,d,R,λla H4 n4 s4 e4=>⟨la,rfl,⟨_,ξ.of e4⟩,λL a7=>?_⟩⟩,λz=>absurd rr z⟩;have e1:=s4.free a7;refine LV (K:=K) (c:=true) (xs:=pU m r par) (λi ys σ Y=>δ H4 Y/\Y L=some (.lst ys)/\(∃kl:List Addr,ys=kl.map V.ref/\Paired (λa v=>Y a=some (.lst ((kd m B r par v).map V.int))) kl ((b6 m.toNat).take i)/\∀q∈kl,q≠L)/\∃v w,σ=[v,w,some (V.ref p)]) ⟨δ.new _ a7,ay,⟨[],rfl,.nil,by simp⟩,_,_,rfl⟩ (λi ys σ Y z=>ξ.of (z.1 _ _ e4)) ?_ ?_
 .rintro i x ys σ Y q N hN hx ⟨s5,e5,⟨kl,rfl,pk,hkq⟩,v,w,rfl⟩ nq;have il:i<m.toNat:=by
   have:=(az.mp hx).1;unfold pU at this
   rwa [aa,b7]at this
  have ex:x=Pb.front r par (i:Int):=by
   have:=zf (m:=m) (r:=r) (par:=par) (v:=(i:Int)) (by lia) (by lia);rw[show((i:Int)).toNat=i from rfl,hx]at this;exact bi this
  have qe:=s5 _ _ e4;have s6:=δ.new (.tup [V.int i,x]) nq;have ea:=s5.trans s6;have et:(b6 m.toNat).take (i+1)=(b6 m.toNat).take i++[(i:Int)]:=by rw[bK,fL il];rfl
  have fw:kl.length<=24:=by
   have:=Paired.length pk;rw[bq]at this
   lia
  walk_at "";refine⟨_,Ξ.of ay,rfl,_,_,rfl,_,_,rfl,rfl,?_⟩;refine⟨p,t,m,ps,B,i,x,rfl,W3.same (s4.trans ea),by lia,by lia,?_,λl6 H6 n6 s7 e7=>?_⟩
  .rw[ex];unfold Pb.front;split
   .exact .inl rfl
   .exact .inr ⟨_,rfl⟩
  have b1:=s6.trans s7;refine⟨b1 _ _ e5,d5 (by rw[aa];lia),hN _ _ _ ⟨(s5.trans b1).put a7 _,ay,⟨kl++[l6],by rw[aw];rfl,?_,λq hq=>?_⟩,_,_,rfl⟩⟩;have nk:l6≠L:=λz=>by rw[z,s6 _ _ e5]at n6;cases n6
  rotate_left
  .rcases aY.mp hq with h|h
   .exact hkq q h
   .rw[aI.mp h];exact λz=>by rw[z,s6 _ _ e5]at n6;cases n6
  rw[et];refine tJ (by rw[aR nk,e7,ex]) (CM (λq v hq h=>?_) pk);have e:q≠L:=λz=>hkq q hq z;rw[aR e];exact b1 _ _ h
 .rintro ys σ Y ⟨s5,e5,⟨kl,rfl,pk,hkq⟩,v,w,rfl⟩;rw[show(pU m r par).length=m.toNat by unfold pU;rw[aa,b7],dc (by rw[b7];exact ap _)]at pk;have o5:=s5 _ _ (s4 _ _ o7);have k5:=(k7.then s4).then s5;have bd:=s4.trans s5;refine⟨T.Tally,C,_,o5,T.cV,T.rA,by show 4<1000;decide,by decide,λl1 n1=>?_⟩;have cn:L≠o:=λz=>by rw[z,o5]at e5;cases e5
  have k6:=k5.put (.ins T.Tally C (bF "kids" (.ref L) (bF "bearers" (.ref J) (bF "weights" (.ref I) (bF "down" (.ref ld) (bF "web" (.ref p) []))))));have o6:upd Y o (.ins T.Tally C (bF "kids" (.ref L) (bF "bearers" (.ref J) (bF "weights" (.ref I) (bF "down" (.ref ld) (bF "web" (.ref p) [])))))) o=some (.ins T.Tally C (bF "kids" (.ref L) (bF "bearers" (.ref J) (bF "weights" (.ref I) (bF "down" (.ref ld) (bF "web" (.ref p) [])))))):=ay;have e6:upd Y o (.ins T.Tally C (bF "kids" (.ref L) (bF "bearers" (.ref J) (bF "weights" (.ref I) (bF "down" (.ref ld) (bF "web" (.ref p) [])))))) L=_:=(aR cn).trans e5;have aT:upd Y o (.ins T.Tally C (bF "kids" (.ref L) (bF "bearers" (.ref J) (bF "weights" (.ref I) (bF "down" (.ref ld) (bF "web" (.ref p) [])))))) ld=_:=(aR ai).trans (bd _ _ cu);have a0:upd Y o (.ins T.Tally C (bF "kids" (.ref L) (bF "bearers" (.ref J) (bF "weights" (.ref I) (bF "down" (.ref ld) (bF "web" (.ref p) [])))))) I=_:=(aR au).trans (bd _ _ ci);have av:upd Y o (.ins T.Tally C (bF "kids" (.ref L) (bF "bearers" (.ref J) (bF "weights" (.ref I) (bF "down" (.ref ld) (bF "web" (.ref p) [])))))) J=_:=(aR a8).trans (bd _ _ co);have a2:Paired (λa v=>upd Y o (.ins T.Tally C (bF "kids" (.ref L) (bF "bearers" (.ref J) (bF "weights" (.ref I) (bF "down" (.ref ld) (bF "web" (.ref p) [])))))) a=some (.lst ((kd m B r par v).map V.int))) kl (b6 m.toNat):=Paired.imp' (λq v h=>by rw[aR (gV h o5 (by intro z;cases z))];exact h) pk;generalize upd Y o (.ins T.Tally C (bF "kids" (.ref L) (bF "bearers" (.ref J) (bF "weights" (.ref I) (bF "down" (.ref ld) (bF "web" (.ref p) []))))))=H6 at k6 o6 e6 aT a0 av a2 n1 ⊢;have s7:=δ.new (.lst [V.ω]) n1;obtain⟨eb,cd⟩:=(W.Y5 k6 ho).ob;refine⟨T.Web,eb,_,s7 _ _ cd,T.lu,T.ϕ,_,jV _ _,?_⟩;refine⟨l1,m,[V.ω],rfl,rfl,ay,by lia,by lia,cm (by simp;lia),λO cf=>?_⟩;rw[zS];have s8:=s7.trans (δ.new (.lst (List.replicate m.toNat V.ω)) cf);have i8:upd (upd H6 l1 (.lst [V.ω])) O (.lst (List.replicate m.toNat V.ω)) O=some (.lst (List.replicate m.toNat V.ω)):=ay;have Rw:=s7.free cf;generalize upd (upd H6 l1 (.lst [V.ω])) O (.lst (List.replicate m.toNat V.ω))=H8 at s8 i8 ⊢;have o8:=s8 _ _ o6;refine⟨T.Tally,C,_,o8,T.cV,T.ϴ,by show 5<1000;decide,?_⟩;have k8:=(k6.then s8).put (.ins T.Tally C (kP p ld I J L O));have cc:O≠o:=λz=>by rw[z,o6]at Rw;cases Rw
  have U:ϖ T.Web T.Tally (upd H8 o (.ins T.Tally C (kP p ld I J L O))) o p t m ps B r par d M ld I J L O kl (List.replicate m.toNat V.ω) (λ_=>False):=⟨⟨C,ay⟩,W.Y5 k8 ho,R,et,Or,(aR ai).trans (s8 _ _ aT),(aR au).trans (s8 _ _ a0),(aR a8).trans (s8 _ _ av),(aR cn).trans (s8 _ _ e6),Paired.imp' (λq v h=>by rw[aR (gV h o6 (by intro z;cases z))];exact s8 _ _ h) a2,(aR cc).trans i8,by rw[cU],λx hx=>.inl (iE hx),λv z=>z.elim⟩
  have τ:ld≠O:=λz=>by rw[<-z,aT]at Rw;cases Rw
  have ee:I≠O:=λz=>by rw[<-z,a0]at Rw;cases Rw
  have dt:J≠O:=λz=>by rw[<-z,av]at Rw;cases Rw
  have dw:L≠O:=λz=>by rw[<-z,e6]at Rw;cases Rw
  have dr:∀q∈kl,q≠O:=λq hq z=>by
   obtain⟨v,hv⟩:=Iw a2 hq;rw[z,Rw]at hv;cases hv
  have dm:H O=none:=by
   cases e:H O with
   | none=>rfl
   | some x=>rw[k6 _ _ e cc]at Rw;cases Rw
  have k9:=k8;change ∃x eg d3,upd H8 o (.ins T.Tally C (kP p ld I J L O)) o=some (HO.ins x eg d3)/\_;obtain⟨H9,b0⟩:∃H9,H9=upd H8 o (.ins T.Tally C (kP p ld I J L O)):=⟨_,rfl⟩;refine⟨T.Tally,C,_,ay,T.cV,T.uU,_,pS p ld I J L O,ld,rfl,_,ξ.of U.hd,?_⟩;rw[<-b0]at U k9;change sf _ _ _ _ _ (upd H8 o (.ins T.Tally C (kP p ld I J L O)));rw[<-b0];clear b0 k8 i8 s8 s7 n1 a2 e6 aT a0 av o6 k6 k5 o5 o8 cd;refine qK (K:=K) (xs:=(bO m B r par d r).map V.int) (λi σ ac=>Yy o H ac/\∃(rv:List V)(v3:Option V),ϖ T.Web T.Tally ac o p t m ps B r par d M ld I J L O kl rv (λv=>v∈(bO m B r par d r).reverse.take i)/\σ=[some (V.ref o),some (V.ref p),some (V.int r),v3]) ⟨k9,List.replicate m.toNat V.ω,none,?_,rfl⟩ (λi σ ac _ ⟨_,rv,v3,z,_⟩=>ξ.of z.hd) ?_ ?_
  .exact⟨U.ob,U.web,U.rt,U.et,U.or,U.hd,U.hw,U.hb,U.hk,U.kp,U.hr,U.rl,U.rn,λv hv=>by cases hv⟩
  .rintro i x σ ac N hN hx ⟨k10,rv,v3,Wh,rfl⟩;rw[<-d9]at hx;obtain⟨v,hv,rfl⟩:=List.μ hx;have S:=(ct v).mp (dM.mp (aQ hv));have dS:∀k∈kd m B r par v,k∈(bO m B r par d r).reverse.take i:=by
    rw[et]at hv ⊢;exact Mq g R Or hv S.1 S.2
   have ef:(b6 m.toNat)[v.toNat]?=some v:=by
    rw[fL (by lia),br S.1]
   obtain⟨ϻ,Xp,Wi⟩:=tD Wh.kp ef;obtain⟨dv,d1⟩:=Wh.ob;have cl:∀k∈kd m B r par v,frK (dD m B r par d) (bV m B r par d M v) (cK B par) v k=ϝ m B r par d M k/\ZW (bV m B r par d M v) k=Ϩ m B r par d M k:=λk hk=>by
    have w:=(bw g R S.1 S.2).mp hk;have ec:((cK B par k:Nat):Int)=tup B par k:=br (by have:=(fT g R w.1.1 w.1.2 w.2.1).1;lia);unfold frK ϝ ZW Ϩ;rw[ec,w.2.2,show(dD m B r par d).getD k.toNat 0=ο m B r par d k from gM w.1.1 w.1.2,show(dD m B r par d).getD v.toNat 0=ο m B r par d v from gM S.1 S.2];exact⟨rfl,rfl⟩
   walk_at "";refine⟨o,dv,p,t,I,J,L,O,ϻ,_,m,ps,B,dD m B r par d,_,_,rv,v,kd m B r par v,bV m B r par d M v,iD m B r par d M,cK B par,ϐ m B r par d,rfl,d1,pB _ _ _ _ _ _,we _ _ _ _ _ _,vX _ _ _ _ _ _,p9 _ _ _ _ _ _,oJ _ _ _ _ _ _,Wh.web,Wh.hw,?_,Wh.hb,Wh.hk,Wh.hr,S,?_,?_,Wi,?_,?_,?_⟩
   .have:(dD m B r par d).length=m.toNat:=qw
    lia
   .exact(MO S.1).symm.trans (IE S.1 S.2)
   .rw[aA,Xp]
    rfl
   .intro k hk;have w:=(bw g R S.1 S.2).mp hk;obtain⟨k',tk,t2,t6⟩:=oh g R w.1.1 w.1.2 w.2.1;have ej:tup B par k=k':=by
     unfold tup;rw[tk]
     rfl
    have ek:((cK B par k:Nat):Int)=k':=by
     unfold cK;rw[ej];exact br (by lia)
    obtain⟨_,lp,ϱ,h1,h2,h3,h4⟩:=Wh.ϛ k (dS k hk);have XT:=jE (fr:=ϝ m B r par d M) (be:=Ϩ m B r par d M) (c:=cK B par) g R w.1.1 w.1.2;refine⟨w.1.1,w.1.2,by rw[ek,<-w.2.2];exact tk,by lia,by lia,AD g R (λu u0 u1 ur=>?_) (m.toNat-d k) w.1.1 w.1.2 (ap _),?_⟩
    .have:=fT g R u0 u1 ur;unfold cK
     lia
    .obtain⟨sr,es⟩:=vL (kd m B r par k);rw[es]at h4;cases h4 with
     | cons e he=>
       obtain⟨cs,c1,c2⟩:=e;refine⟨lp,_,_,cs,h1,h3,c1,?_⟩;have:=c2.le (b':=15000) (sJ (by have:=gj g R w.1.1 w.1.2;have:=mr g R w.1.1 w.1.2;lia));refine⟨this.ne,this.len,this.bt,λn=>(this.val n).trans ?_⟩;show _=wy m B r par d (ϝ m B r par d M) (Ϩ m B r par d M) (cK B par) k n;rw[XT]
       rfl
   .rw[gj g R S.1 S.2];exact mr g R S.1 S.2
   .intro l ϱ H11 nl s11 e11 ra;have a1:=Wh.same s11;obtain⟨ZZ,aS⟩:=a1.ob;have XS:l≠O:=λz=>by rw[z,Wh.hr]at nl;cases nl
    have ed:tL H11 (Xm (ϐ m B r par d)) (ς (ϝ m B r par d M) (Ϩ m B r par d M) (λk g=>iD m B r par d M k (Pb.τ (cK B par k) g))) ϱ (YY (kd m B r par v)):=zq (λa X1 cv ⟨cs,c1,c2⟩=>⟨cs,c1,by
     have e:=wV (fr:=frK (dD m B r par d) (bV m B r par d M v) (cK B par) v) (be:=ZW (bV m B r par d M v)) (ws:=λk g=>iD m B r par d M k (Pb.τ (cK B par k) g)) (fr':=ϝ m B r par d M) (be':=Ϩ m B r par d M) (ws':=λk g=>iD m B r par d M k (Pb.τ (cK B par k) g)) (ks:=X1) λk hk=>⟨(cl k (Ca cv k hk)).1,(cl k (Ca cv k hk)).2,rfl⟩;rw[<-e];exact c2⟩) ra
    refine⟨T.Tally,ZZ,_,aS,T.cV,T.ϴ,_,oJ _ _ _ _ _ _,xi a1.hr S.1 (by rw[a1.rl];lia) (hN _ _ ⟨?_,rv.set v.toNat (.ref l),some (V.int v),?_,rfl⟩)⟩
    .exact λb y hb nb=>by rw[aR (cq hb dm)];exact s11 _ _ (k10 b y hb nb)
    .have nv:∀u,u∈(bO m B r par d r).reverse.take i->u≠v:=λu hu z=>by
      have nd:(bO m B r par d r).reverse.Nodup:=((List.reverse_perm _).nodup_iff).mpr Zu;have il:=(az.mp hv).1;rw[z]at hu;obtain⟨j,hj⟩:=cJ hu;have jl:=(az.mp hj).1;rw[bq]at jl;rw[iA (by lia)]at hj;have:=(fS (by lia) nd).mp (hj.trans hv.symm)
      lia
     have Z:=a1.put τ ee dt dw dr S.1 S.2 nv XS e11 ed;refine⟨Z.ob,Z.web,Z.rt,Z.et,Z.or,Z.hd,Z.hw,Z.hb,Z.hk,Z.kp,Z.hr,Z.rl,Z.rn,λu hu=>Z.ϛ u ?_⟩;rw[bK,hv]at hu;rcases aY.mp hu with hu|hu
     .exact .inr hu
     .exact .inl (by simpa using hu)
  .rintro σ ac ⟨k10,rv,v3,Wh,rfl⟩;refine k M ld I J L O kl rv ac ⟨Wh.ob,Wh.web,Wh.rt,Wh.et,Wh.or,Wh.hd,Wh.hw,Wh.hb,Wh.hk,Wh.kp,Wh.hr,Wh.rl,Wh.rn,λv hv=>Wh.ϛ v ?_⟩ k10;rw[aa,<-bc,bx,dM];exact(ct v).mpr hv
def y8(T:Txt K X):Sp:=λg H Q _=>E4 λ(d:Addr)(c:hU)(m r:Int)=>g=[.int m,.ref d,.int r]/\ϧ H d c/\Good m c/\(0<=r/\r<m)/\∃a e,ζ m c r a e/\∀lo f t b,H lo=none->δ H b->b lo=some (.lst (f.map V.ref))->Μ b r a f (r::t)->Order m r a t->Q (.ref lo) b
abbrev mO:Stmt:=top 77
theorem uy:η ["many","tolls","r","order","at","place","near"] ["many","tolls","r"] (aK mO):=.of
theorem yi:YS (aK mO) "place":=.of (by kernel_rfl)
theorem zM:YS (aK mO) "near":=.of (by kernel_rfl)
theorem yn:Ϝ (aK mO) "range":=.of (by kernel_rfl)
theorem Hx(T:Txt K X)(hq:cg (Ε P w)):Ok P w K X base "_law_down" mO ["many","tolls","r"] 1 (y8 T):=λ_ _ D=>by
 refine D.F.Ϙ uy (by walk_at "v") λΑ A be s H vs Q E hr h=>?_;obtain⟨d,u,m,r,rfl,ta,g,rr,f,co,R,k⟩:=h;have hu:=sg hr;have Ο:=g.Ο;refine⟨_,(aD (Δ 3 (eD (ah (jR (ah (ε 2) (ah Ak aB))) aB))) (aD (Δ 4 aU) (aD (pA PassesOwn.never (Ϻ qd (ε 4) (W6 kF T.len (ah (ε 3) aB))) (aD (nP (Ι bL (ε 3) (ε 4)) (kM (n:=2) rfl (cz (fe (i:=5) uy.nd rfl (Or.inr yi.l)) (cz (fe (i:=6) uy.nd rfl (Or.inr zM.l)) iM)))) (aD (dq (iU PySem.F.plainAttrs_list PySem.F.slot_list_extend PySem.F.type_list_extend xo (ε 3) (ah (gZ rfl (YC ["other","place","near","tolls"] 1 [5,6,1]) (iQ yn.g T.range (ah (ε 0) aB)) (λ_ _ _ _=>(fe (i:=0) (show(["other","place","near","tolls"]:hD).Nodup from by decide +kernel) rfl (Or.inl rfl))) (λ_ _ _ _=>(yb (PW.pt (Gd (Ϻ r9 (pv 0) (pv 2)) (Dq (FW (US hu (jR (ah (pv 1) (ah (pv 0) aB))) (pv 3)))))))) (λ_ _ _ _=>(jR (ah (pv 0) (ah (pv 1) aB))))) aB))) (aO (Δ 4 (bn eP (ε 4) aU)))))) (aO (bQ (ε 3)))))),?_⟩;walk_at "s";walk_at "";refine⟨cm (by simp),λo n0=>⟨cm (by simp),λlo ZK=>?_⟩⟩;have s1:=δ.new (.tup [V.int r,V.ω]) n0;have ac:=s1.free ZK;have s2:=s1.trans (δ.new (.lst [V.ref o]) ZK);have a7:o≠lo:=λz=>by rw[<-z,ay]at ZK;cases ZK
 have W:upd (upd H o (.tup [V.int r,V.ω])) lo (.lst [V.ref o]) lo=some (.lst [V.ref o]):=ay;have f2:upd (upd H o (.tup [V.int r,V.ω])) lo (.lst [V.ref o]) o=some (.tup (vPr r f r)):=by
  rw[aR a7,ay];unfold vPr Pb.front;rw[aj rfl]
 generalize upd (upd H o (.tup [V.int r,V.ω])) lo (.lst [V.ref o])=H2 at s2 W f2 ⊢;have an:∀{t:f3}{ws:f3},ύ m u r f t ws->(r::t).length<=m.toNat:=λ{t ws} J=>by
  have:=fC (m:=m) (by lia) (bg.mpr ⟨J.nr,J.nd⟩) λv hv=>by
   rcases ax.mp hv with e|e
   .rw[e];exact rr
   .exact J.Χ v e
  lia
 refine u9 (λn I L=>E5 λ(t:f3)(y:gw)(k:Nat)(v5 v6:Option V)=>n=m.toNat-k/\k<=(r::t).length/\I=[some (.int m),some (.ref d),some (.int r),some (.ref lo),some (.int (k:Nat)),v5,v6]/\δ H L/\L lo=some (.lst (y.map V.ref))/\Μ L r f y (r::t)/\Bfs m u r f t k) m.toNat ⟨[],[o],0,_,_,rfl,bj _,rfl,s2,W,.cons f2 .nil,Bfs.start⟩ ?_;rintro n I L NW hN Xk ⟨t,y,C,v5,v6,rfl,c5,rfl,s4,U,pa,S⟩;have tl:=an S.J;have ql:y.length=(r::t).length:=Paired.length pa;walk_at "";refine⟨_,.inl (ξ.of U),?_⟩;rw[aa,ql];by_cases c:C=(r::t).length
 .rw[ag (by lia)];exact k lo y t L ac s4 U pa (S.done R (by lia))
 .rw[aj (by lia)];have al:C<(r::t).length:=by lia
  obtain⟨p,hp⟩:∃p,(r::t)[C]?=some p:=⟨_,ao al⟩;have S':=S.step g R rr.1 rr.2 hp;have bs:=an S'.J;have pr:0<=p/\p<m:=by
   rcases ax.mp (aQ hp)with e|e
   .rw[e];exact rr
   .exact S.J.Χ p e
  refine⟨NW,λc6 H' z=>?_,?_⟩
  .obtain⟨m',lt,t',j,k',a5,a6,M,W,e3⟩:=Xk _ _ z
   first|exact⟨m',lt,t',j,k',a5,a6,M,W,e3⟩|exact⟨m',lt,t',j,k',M,W,a5,a6,e3⟩
  obtain⟨qx,ab⟩:∃qx,y[C]?=some qx:=⟨_,ao (by lia)⟩;obtain⟨qp,pv,M,W,e3,e4⟩:=pa.get (i:=C) (x:=.ref qx) (by rw[aA,ab];rfl);injection M with M
  subst M;rw[hp]at e3;cases e3;refine Υ U (IW (by rw[aA,ab];rfl)) ⟨qx,rfl,_,Ξ.of e4,rfl,_,_,rfl,_,_,rfl,rfl,?_⟩;refine⟨Io U,by lia,by lia,λpc Wg=>?_⟩;have mk:∀v,v∈bR m u (Pb.front r f p) p->(0<=v/\v<m)/\v≠r/\f v=p:=λv=>(bw g R pr.1 pr.2).mp;have bd:∀i:Nat,i<m.toNat->(cN u p (i:Int)).isSome=true->V.int (i:Int)≠Pb.front r f p->(i:Int)∈bR m u (Pb.front r f p) p:=λi hi h1 h2=>by
   rw[<-AQ];unfold lg;exact bG.mpr ⟨bG.mpr ⟨dN.mpr ⟨by lia,by lia⟩,h1⟩,bh h2⟩
  have ai:∀i:Nat,i<=m.toNat->(lg u (Pb.front r f p) p i).length<=24:=λi hi=>by
   unfold lg;refine aL (cB _ _) (aL (cB _ _) ?_);rw[b7]
   lia
  have a8:∀i:Int,rK (.int i) (Pb.front r f p)=true:=λi=>by
   unfold Pb.front;by_cases z:p=r
   .rw[aj z];rfl
   .rw[ag z];rfl
  rw[<-AQ]at S' bs;have cl:lo≠pc:=λz=>by rw[<-z,U]at Wg;cases Wg
  refine oC (λi zs I B=>δ L B/\B pc=some (.lst zs)/\(∃j:List Addr,zs=j.map V.ref/\Μ B r f j (lg u (Pb.front r f p) p i))/\∃v,I=[v,some (.int p),some (Pb.front r f p),some (.ref d)]) ⟨δ.new _ Wg,ay,⟨[],rfl,.nil⟩,_,rfl⟩ ?_ ?_
  .rintro i zs I B N hN hi ⟨s5,hc,⟨j,rfl,pa'⟩,v7,rfl⟩;rw[cQ];have kl:=ai i (by lia);have bl:j.length=(lg u (Pb.front r f p) p i).length:=Paired.length pa';walk_at "";refine⟨a8 _,?_⟩;by_cases Y:V.int (i:Int)=Pb.front r f p
   .rw[ag (λz=>z Y)];exact hN _ _ _ ⟨s5,hc,⟨j,rfl,by rw[Bd (λ_ z=>z Y)];exact pa'⟩,_,rfl⟩
   .rw[aj Y];refine⟨cm (by simp),λq nq=>?_⟩;have O:=δ.new (.tup [V.int p,V.int (i:Int)]) nq;obtain⟨θ,YF,hv⟩:=(ta.same (s4.trans s5)).ex;have hg:=ϵ.t (k:=[.inl p,.inl (i:Int)]) (O _ _ YF) ay;rw[hv]at hg;refine⟨_,hg,?_⟩;by_cases Z:(cN u p (i:Int)).isSome=true
    .rw[aj (by rw[gI];exact Z)];obtain⟨_,kr,kp⟩:=mk _ (bd i hi Z Y);refine⟨cm (by simp),λq' G=>?_⟩;have s7:=O.trans (δ.new (.tup [V.int (i:Int),V.int p]) G);have am:=s7 _ _ hc;have a4:q'≠pc:=λz=>by rw[z,O _ _ hc]at G;cases G
     refine⟨am,d5 (by rw[aa];lia),hN _ _ _ ⟨(s5.trans s7).put Wg _,ay,⟨j++[q'],by rw[aw];rfl,?_⟩,_,rfl⟩⟩;rw[JV Z Y];refine Μ.snoc ?_ (Paired.imp' (λa b h=>by rw[aR (gV (s7 _ _ h) am (by intro z;cases z))];exact s7 _ _ h) pa');rw[aR a4,ay];unfold vPr Pb.front;rw[ag kr,kp]
    .rw[ag (by rw[gI];exact Z)];exact hN _ _ _ ⟨s5.trans O,O _ _ hc,⟨j,rfl,by rw[Bd (λz=>absurd z Z)];exact Μ.same O pa'⟩,_,rfl⟩
  .rintro zs I B ⟨s5,hc,⟨j,rfl,pa'⟩,v7,rfl⟩;have bl:j.length=(lg u (Pb.front r f p) p m.toNat).length:=Paired.length pa';have kl:=ai m.toNat (ap _);have af:=s5 _ _ U;rw[aF]at tl al;refine⟨lo,pc,_,_,rfl,rfl,af,hc,cm (by rw[aa,aa,ql,aF];lia),?_⟩;refine hN (m.toNat-(C+1)) _ _ (by lia) ⟨_,y++j,C+1,_,_,rfl,by rw[aF,aE];lia,rfl,(s4.trans s5).put ac _,by rw[ay,aw],?_,S'⟩;have kp:∀a b,B a=some (.tup (vPr r f b))->upd B lo (.lst (y.map V.ref++j.map V.ref)) a=some (.tup (vPr r f b)):=λa b h=>by rw[aR (gV h af (by intro z;cases z))];exact h
   exact Jf (Paired.imp' kp pa') (Paired.imp' kp (Μ.same s5 pa))
theorem LC{z:f3}{b:gw}(h:z≠[]):HO.lst (z.map V.int)≠HO.lst (b.map V.ref):=λe=>by
 injection e with e
 match z,b,h,e with
 | a::z,[],_,e=>cases e
 | a::z,q::b,_,e=>cases e
theorem uP{H:Hp}{c:Addr}{a:gw}{o:HO}(e:H c=some (.lst (a.map V.ref))):∀{d:gw}{b:List (List Int)},(∀z∈b,z≠[])->Κ H d b->Κ (upd H c o) d b
 | _,_,_,.nil=>.nil
 | _,_,hz,.cons h t=>.cons (by rw[aR (gV h e (LC (hz _ (.head _))))];exact h) (uP e (λz m=>hz z (.tail _ m)) t)
def uA(T:Txt K X):Sp:=λc H Q _=>∃(m h:Int),c=[.int m,.int h]/\1<=m/\m<=4/\0<=h/\h<=40/\∀(l:Addr)(b:gw)(a:Hp),H l=none->δ H a->a l=some (.lst (b.map V.ref))->Κ a b (lyA h (m-1).toNat)->Q (.ref l) a
abbrev kY:Stmt:=top 82
theorem uT:η ["many","held","rows","k","longer","row"] ["many","held"] (aK kY):=.of
theorem wM:YS (aK kY) "row":=.of (by kernel_rfl)
theorem pX:Ϝ (aK kY) "range":=.of (by kernel_rfl)
theorem Ds(T:Txt K X)(hq:cg (Ε P w)):Ok P w K X base "_law_layings" kY ["many","held"] 1 (uA T):=λ_ _ D=>by
 refine D.F.Ϙ uT (by walk_at "v") λΑ A a0 s H vs Q E hr h=>?_;obtain⟨m,h,rfl,m1,m4,h0,b2,k⟩:=h;refine⟨_,(aD (Δ 2 (eD (ah (eD aB) aB))) (aD (fm PassesOwn.never rfl (iQ pX.g T.range (ah (bn iI (ε 0) aU) aB)) (ϒ 3) (aD (Δ 4 (eD aB)) (aD (fm PassesOwn.never rfl (gY (ε 2)) (fe (i:=5) uT.nd rfl (Or.inr wM.l)) (aO (dq (iU PySem.F.plainAttrs_list PySem.F.slot_list_extend PySem.F.type_list_extend xo (ε 4) (ah (gZ rfl (YC ["part","row"] 1 [5]) (iQ pX.g T.range (ah (bn eP (bn iI (bY 1) (W6 (vN rfl) T.sum (ah (bY 5) aB))) aU) aB)) (λ_ _ _ _=>(fe (i:=0) (show(["part","row"]:hD).Nodup from by decide +kernel) rfl (Or.inl rfl))) (λ_ _ _ _=>jg) (λ_ _ _ _=>(bn GJ (pv 1) (eD (ah (pv 0) aB))))) aB))))) (aO (Δ 2 (ε 4)))))) (aO (bQ (gZ rfl (YC ["row","held"] 1 [1]) (gY (ε 2)) (λ_ _ _ _=>(fe (i:=0) (show(["row","held"]:hD).Nodup from by decide +kernel) rfl (Or.inl rfl))) (λ_ _ _ _=>jg) (λ_ _ _ _=>(bn GJ (pv 0) (eD (ah (bn iI (pv 1) (FA (MZ K rfl rfl) (by rfl) T.sum UM (ah (pv 0) aB))) aB))))))))),?_⟩;walk_at "s";refine cL λN1 h1=>?_;walk_at "";refine⟨by decide,λu a4=>⟨cm (by simp),λp1 Z=>h1 _ _ (cL λN2 h2=>?_)⟩⟩;have s0:=δ.new (HO.lst []) a4;have s1:=s0.trans (δ.new (HO.lst [V.ref u]) Z);have e1:upd (upd H u (HO.lst [])) p1 (HO.lst [V.ref u]) p1=some (.lst ([u].map V.ref)):=ay;have l1:Κ (upd (upd H u (HO.lst [])) p1 (HO.lst [V.ref u])) [u] (Ww h 0):=.cons (δ.new _ Z _ _ ay) .nil;have av:=s0.free Z;generalize upd (upd H u (HO.lst [])) p1 (HO.lst [V.ref u])=H1 at s1 e1 l1 ⊢;have ZV:∀k,k<=3->(Ww h k).length<=68921:=λk hk=>aL (Jk h0 k) (aL (bB (by lia) hk) (aL (fy (show h.toNat+1<=41 by lia) 3) (by decide)));walk_at "";refine⟨by lia,by lia,?_⟩;refine p8 (lo:=0) (λi f r=>δ H r/\E5 λ(J:Addr)(G:gw)(v4 v5 Y:Option V)=>H J=none/\r J=some (.lst (G.map V.ref))/\Κ r G (Ww h i)/\f=[some (V.int m),some (V.int h),some (V.ref J),v4,v5,Y]) ⟨s1,p1,[u],_,_,_,av,e1,l1,rfl⟩ ?_ ?_
 .rintro i f r N hN hi ⟨s2,J,G,v4,v5,Y,nlr,e2,l2,rfl⟩;have i3:i+1<=3:=by lia
  have pl:G.length=(Ww h i).length:=Paired.length l2;have c1:=ZV i (by lia);refine cL λM1 k1=>?_;walk_at "";refine⟨by decide,λC XS=>k1 _ _ (cL λM2 k2=>?_)⟩;have aC:=s2.free XS;have s3:=s2.trans (δ.new (HO.lst []) XS);have e3:upd r C (HO.lst []) C=some (.lst (([]:gw).map V.ref)):=ay;have S:δ r (upd r C (HO.lst [])):=δ.new (HO.lst []) XS;generalize upd r C (HO.lst [])=H3 at s3 e3 S ⊢;walk_at "";refine⟨⟨_,ξ.of (S _ _ e2)⟩,?_⟩;refine mG (K:=K) (xs:=G.map V.ref) (λj f o=>δ r o/\∃(y:gw)(Y:Option V),o C=some (.lst (y.map V.ref))/\Κ o y (((Ww h i).take j).flatMap λb=>(b6 (h-b.sum+1).toNat).map λp=>b++[p])/\f=[some (V.int m),some (V.int h),some (V.ref J),some (V.int (0+(i:Int))),some (V.ref C),Y]) ⟨S,[],_,e3,.nil,rfl⟩ (λj f o _ z=>ξ.of (z.1 _ _ e2)) ?_ ?_
  .rintro j x f o N' BB ϗ Y6 hx ⟨s4,y,Y,e4,l4,rfl⟩;obtain⟨q,b,rfl,hq,B,eq⟩:=l2.get hx;have jl:=(az.mp B).1;have rm:=(qv h0).mp (aQ B);have r0:0<=b.sum:=xE rm.2.1;have t:=s4 _ _ eq;have ql:y.length=(((Ww h i).take j).flatMap λb=>(b6 (h-b.sum+1).toNat).map λp=>b++[p]).length:=Paired.length l4;have qc:y.length+(h-b.sum+1).toNat<=68921:=by
    have e:(((Ww h i).take (j+1)).flatMap λb=>(b6 (h-b.sum+1).toNat).map λp=>b++[p]).length=y.length+(h-b.sum+1).toNat:=by
     rw[cA,B,fK,aE,ql];simp[b7]
    rw[<-e];refine aL ?_ (ZV (i+1) i3);show _<=((Ww h i).flatMap _).length;have:(Ww h i)=(Ww h i).take (j+1)++(Ww h i).drop (j+1):=(b8 ..).symm;rw[this,fK,aE,b8]
    lia
   refine ϗ _ _ ?_;walk_at "";refine⟨Io e4,b,.inl (ξ.of t),by lia,by lia,λR Wg=>?_⟩;have nz:∀z∈(((Ww h i).take j).flatMap λb=>(b6 (h-b.sum+1).toNat).map λp=>b++[p]),z≠[]:=λz hz=>by
    obtain⟨_,_,hm⟩:=dJ.mp hz;obtain⟨_,_,rfl⟩:=aP.mp hm;simp
   refine oC (λi' v f H5=>δ o H5/\H5 R=some (.lst v)/\(∃n:List Addr,v=n.map V.ref/\Κ H5 n ((b6 i').map λp=>b++[p]))/\∃L,f=[L,some (V.ref q)]) ⟨δ.new _ Wg,ay,⟨[],rfl,.nil⟩,_,rfl⟩ ?_ ?_
   .rintro i' v f H5 N5 hN5 Zq ⟨s5,e5,⟨n,rfl,l5⟩,L,rfl⟩;have cl:n.length=((b6 i').map λp=>b++[p]).length:=Paired.length l5;rw[aa,b7]at cl;walk_at "";refine⟨cm (by simp),λa1 I=>?_⟩;have M:=δ.new (HO.lst [V.int (0+(i':Int))]) I;refine⟨q,a1,_,_,rfl,rfl,M _ _ (s5 _ _ t),ay,cm (by rw[aa];simp;lia),λa2 d=>?_⟩;have W:=M.trans (δ.new (HO.lst (b.map V.int++[V.int (0+(i':Int))])) d);have e7:=W _ _ e5;refine⟨e7,d5 (by rw[aa];lia),hN5 _ _ _ ⟨(s5.trans W).put Wg _,ay,⟨n++[a2],by rw[aw];rfl,?_⟩,_,rfl⟩⟩;rw[vC,aw];have O:a2≠R:=λz=>by rw[z]at d;rw[M _ _ e5]at d;cases d
    refine Κ.snoc ?_ (uP e7 (λz hz=>by obtain⟨_,_,rfl⟩:=aP.mp hz;simp) (Κ.same W l5));rw[aR O,ay,aw,cQ]
    rfl
   .rintro v f H5 ⟨s5,e5,⟨n,rfl,l5⟩,L,rfl⟩;have cl:n.length=((b6 (h-b.sum+1).toNat).map λp=>b++[p]).length:=Paired.length l5;rw[aa,b7]at cl;have U:=s5 _ _ e4;refine⟨C,R,_,_,rfl,rfl,U,e5,cm (by rw[aa,aa];lia),Y6 _ _ ⟨(s4.trans s5).put XS _,y++n,_,by rw[ay,aw],?_,rfl⟩⟩;rw[cA,B,fK];refine Κ.app (uP U nz (Κ.same s5 l4)) ?_;show Κ _ n ([b].flatMap _);rw[List.flatMap_singleton];exact uP U (λz hz=>by obtain⟨_,_,rfl⟩:=aP.mp hz;simp) l5
  .rintro BB f o ϗ ⟨s4,y,Y,e4,l4,rfl⟩;rw[aa,pl,bx]at l4;refine ϗ _ _ (k2 _ _ ?_);walk_at "";exact hN _ _ ⟨s2.trans s4,C,y,_,_,_,aC,e4,l4,rfl⟩
 .rintro f r ⟨s2,J,G,v4,v5,Y,nlr,e2,l2,rfl⟩;have pl:G.length=(Ww h (m-1).toNat).length:=Paired.length l2;have c1:=ZV (m-1).toNat (by lia);refine h2 _ _ ?_;walk_at "";refine⟨⟨_,ξ.of e2⟩,λR Wg=>?_⟩;refine lQ (K:=K) (c:=true) (a:=J) (xs:=G.map V.ref) (λj v f o=>δ r o/\o R=some (.lst v)/\(∃n:List Addr,v=n.map V.ref/\Κ o n (((Ww h (m-1).toNat).take j).map λb=>b++[h-b.sum]))/\∃L,f=[L,some (V.int h)]) ⟨δ.new _ Wg,ay,⟨[],rfl,.nil⟩,_,rfl⟩ (λj v f o _ ⟨z,_⟩=>ξ.of (z _ _ e2)) ?_ ?_
  .rintro j x v f o N' Y6 hx ⟨s4,e4,⟨n,rfl,l4⟩,L,rfl⟩;obtain⟨q,b,rfl,hq,B,eq⟩:=l2.get hx;have jl:=(az.mp B).1;have rm:=(qv h0).mp (aQ B);have cl:n.length=(((Ww h (m-1).toNat).take j).map λb=>b++[h-b.sum]).length:=Paired.length l4;rw[aa,bq]at cl;have t:=s4 _ _ eq;walk_at "";refine⟨b,.inl (ξ.of t),cm (by simp),λa1 I=>?_⟩;have M:=δ.new (HO.lst [V.int (h-b.sum)]) I;refine⟨q,a1,_,_,rfl,rfl,M _ _ t,ay,cm (by rw[aa];simp;lia),λa2 d=>?_⟩;have W:=M.trans (δ.new (HO.lst (b.map V.int++[V.int (h-b.sum)])) d);have e7:=W _ _ e4;have O:a2≠R:=λz=>by rw[z]at d;rw[M _ _ e4]at d;cases d
   refine⟨e7,d5 (by rw[aa];lia),Y6 _ _ _ ⟨(s4.trans W).put Wg _,ay,⟨n++[a2],by rw[aw];rfl,?_⟩,_,rfl⟩⟩;rw[cA,B,aw];refine Κ.snoc ?_ (uP e7 (λz hz=>by obtain⟨_,_,rfl⟩:=aP.mp hz;simp) (Κ.same W l4));rw[aR O,ay,aw]
   rfl
  .rintro v f o ⟨s4,e4,⟨n,rfl,l4⟩,L,rfl⟩;rw[aa,pl,bx]at l4;exact k R n o (s2.free Wg) (s2.trans s4) e4 l4
def yH(T:Txt K X):Sp:=λj H Q _=>E12 λ(h lo g:Addr)(c:Bool)(i:gw)(b:hU)(t e:f3)(m r:Int)(a:f5)(d:gb)=>j=[.ref h,.ref lo,.ref g]/\ϧ H h b/\Good m b/\ζ m b r a d/\H lo=some (.lst (i.map V.ref))/\Μ H r a i (r::t)/\Order m r a t/\Ϫ K c H g (e.map V.int)/\(e.length:Int)=m/\∀l f,H l=none->δ H f->f l=some (.lst ((qz m b r a d (λv=>e.getD v.toNat 0) (Η b a)).map V.int))->Q (.ref l) f
abbrev pY:Stmt:=top 78
theorem G4:η ["tolls","order","laying","have","place","near"] ["tolls","order","laying"] (aK pY):=.of
theorem vE:Ϝ (aK pY) "reversed":=.of (by kernel_rfl)
theorem HD(T:Txt K X)(hq:cg (Ε P w)):Ok P w K X base "_law_load" pY ["tolls","order","laying"] 1 (yH T):=λ_ _ D=>by
 refine D.F.Ϙ G4 (by walk_at "v") λΑ A L s H vs Q E hr h=>?_;obtain⟨dt,lo,U,c,qs,p,t,xs,m,r,a,B,rfl,ta,g,R,ho,pa,O,ha,xl,k⟩:=h;have m1:=g.m1;have Ο:=g.Ο;have hu:=sg hr;have e:qs.length=(r::t).length:=Paired.length pa;rw[aF]at e;have lx:ξ K H U (xs.map V.int)\/Ξ K H U (xs.map V.int):=by
  cases c
  .exact .inr ha
  .exact .inl ha
 refine⟨_,(aD (Δ 3 (Za mB T.list (ah (ε 2) aB))) (aD (fm PassesOwn.never rfl (tE vE.g T.reversed (ε 1)) (kM (n:=2) rfl (cz (ϒ 4) (cz (ϒ 5) iM))) (aO (eK (FW (Rl (ε 5))) (aO (nP (bn eP (Ι bL (ε 3) (ε 5)) (bn gO (Ι bL (ε 3) (ε 4)) (IJ hu (ε 0) (jR (ah (ε 4) (ah (ε 5) aB))) (λ_ _=>rfl)))) (rp (ε 3) (ε 5) mP))) dy))) (aO (bQ (ε 3))))),?_⟩;walk_at "s";walk_at "";refine⟨_,lx,λl nl=>?_⟩;have S:=δ.new (.lst (xs.map V.int)) nl;have Z:upd H l (.lst (xs.map V.int)) l=some (.lst (xs.map V.int)):=ay;generalize upd H l (.lst (xs.map V.int))=H1 at S Z ⊢;refine⟨_,ξ.of (S _ _ ho),?_⟩;refine qK (K:=K) (xs:=qs.map V.ref) (λi o b=>δ H b/\E3 λ(d:f3)(Y I:Option V)=>b l=some (.lst (d.map V.int))/\ϙ m p r a B (λv=>xs.getD v.toNat 0) (Η p a) (t.drop (t.length-i)) d/\o=[some (V.ref dt),some (V.ref lo),some (V.ref U),some (V.ref l),Y,I]) ⟨S,xs,_,_,Z,by rw[gW,f9];exact ϙ.nil xl,rfl⟩ (λi o b _ z=>ξ.of (z.1 _ _ ho)) ?_ ?_
 .rintro i x o b N hN hx ⟨s5,d,Y,I,c5,so,rfl⟩;have il:=(az.mp hx).1;rw[bc,aa,e]at il;rw[cC (by rw[aa,e];lia),aa,e]at hx;obtain⟨q,v,rfl,hq,hv,e5⟩:=pa.get hx;have j:(r::t).reverse[i]?=some v:=by rw[cC (by rw[aF];lia),aF];exact hv
  rw[dZ]at j;have cl:=so.len;walk_at "";refine⟨_,Ξ.of (s5 _ _ e5),rfl,_,_,rfl,_,_,rfl,rfl,?_⟩;walk_at "";by_cases ci:i<t.length
  .rw[dh (by rw[bc];exact ci)]at j;obtain⟨⟨f,M⟩,ev,G⟩:=O.turn g R so j;have u:=R.up v f.1 f.2 M;obtain⟨kd,hd,d0,d1⟩:=oh g R f.1 f.2 M;have y:Pb.front r a v=V.int (a v):=(by unfold Pb.front;rw[ag M]);rw[y];have nn:¬V.int (a v)=V.ω:=(by intro z;cases z);rw[aj nn];refine Υ c5 (WD u.1.1 (by lia)) (Υ c5 (WD f.1 (by lia)) ⟨cm (by simp),λq' J=>?_⟩);have C:=δ.new (.tup [V.int v,V.int (a v)]) J;have get:ϵ (upd b q' (.tup [V.int v,V.int (a v)])) dt (V.ref q') (some (V.int kd)):=by
    obtain⟨θ,YF,W⟩:=(ta.same s5).ex;have hg:=ϵ.t (k:=[.inl v,.inl (a v)]) (C _ _ YF) ay;rw[W,hd]at hg;exact hg
   have c6:=C _ _ c5;refine⟨_,get,_,rfl,_,rfl,⟨by lia,by lia⟩,_,rfl,xi c6 u.1.1 (by rw[aa];lia) (hN _ _ ⟨(s5.trans C).put nl _,ub a (Η p a) d v,_,_,?_,G,rfl⟩)⟩;rw[ay,<-gX];unfold ub Η;rw[hd]
   rfl
  .have ei:i=t.reverse.length:=(by rw[bc];lia);rw[ei,c8 (ap _),d7]at j;cases j;have y:Pb.front r a r=V.ω:=(by unfold Pb.front;rw[aj rfl]);rw[y,ag (λz=>z rfl)];refine hN _ _ ⟨s5,d,_,_,c5,?_,rfl⟩;rw[bc]at ei;rw[show t.length-(i+1)=t.length-i by lia];exact so
 .rintro o b ⟨s5,d,Y,I,c5,so,rfl⟩;rw[aa,e,show t.length-(t.length+1)=0 by lia,kg]at so;rw[O.done g R so]at c5;walk_at "";exact k l b nl s5 c5
def sK(T:Txt K X):Sp:=λf H Q _=>E8 λ(lo:Addr)(e:gw)(c:hU)(t:f3)(m r:Int)(a:f5)(b:gb)=>f=[.ref lo]/\Good m c/\ζ m c r a b/\H lo=some (.lst (e.map V.ref))/\Μ H r a e (r::t)/\Order m r a t/\t.length+1=m.toNat/\(0<=r/\r<m)/\∀l d,H l=none->δ H d->d l=some (.lst ((bO m c r a b r).map V.int))->Q (.ref l) d
abbrev lI:Stmt:=top 80
theorem sO:η ["order","row","left","place","kids_v"] ["order"] (aK lI):=.of
theorem uz:YS (aK lI) "place":=.of (by kernel_rfl)
theorem zI(T:Txt K X)(hq:cg (Ε P w)):Ok P w K X base "_law_rows_down" lI ["order"] 1 (sK T):=λ_ _ D=>by
 refine D.F.Ϙ sO (by walk_at "v") λΑ A co s H vs Q E hr h=>?_;obtain⟨lo,qs,d,t,m,r,b,I,rfl,g,R,ho,pa,O,tl,⟨r0,r1⟩,k⟩:=h;have m1:=g.m1;have Ο:=g.Ο;have hv:=hr.units;have ql:qs.length=(r::t).length:=Paired.length pa;rw[aF]at ql;obtain⟨q0,v0,e0,f0,f1,f2⟩:=pa.get (i:=0) (x:=V.ref (qs.headD 0)) (by
  cases qs with
  | nil=>simp at ql
  | cons a l=>rfl)
 cases(show v0=r by simpa using f1.symm);refine⟨_,(aD (Δ 1 (eD aB)) (aD (Δ 2 (eD (ah (Ι jw (mQ bL (ε 0) aU (λ_ _=>rfl)) aU) aB))) (aD (pA PassesOwn.never (Ϻ (MF hv) (ε 2) (eD aB)) (aD (uH (i:=3) sO.nd rfl (Or.inr uz.l) (Ay PySem.F.plainAttrs_list PySem.F.slot_list_pop PySem.F.type_list_pop BL (ε 2))) (aD (dq (iU PySem.F.plainAttrs_list PySem.F.slot_list_append PySem.F.type_list_append fN (ε 1) (ah (bY 3) aB))) (aD (Δ 4 (W6 yX T.sorted (ah (gZ rfl (YC ["pair","place"] 1 [3]) (gY (ε 0)) (λ_ _ _ _=>(fe (i:=0) (show(["pair","place"]:hD).Nodup from by decide +kernel) rfl (Or.inl rfl))) (λ_ _ _ _=>(yb (Ϻ jU (Ι (Cg K rfl) (pv 0) aU) (pv 1)))) (λ_ _ _ _=>(Ι (Cg K rfl) (pv 0) aU))) aB))) (aO (dq (iU PySem.F.plainAttrs_list PySem.F.slot_list_extend PySem.F.type_list_extend xo (ε 2) (ah (LM (ε 4) (Bj xK aU)) aB)))))))) (aO (bQ (ε 1)))))),?_⟩;walk_at "s";refine cL λN1 h1=>?_;walk_at "";refine⟨by decide,λo n3=>h1 _ _ (cL λN2 h2=>?_)⟩;have s3:=δ.new (.lst []) n3;have e3:upd H o (.lst []) o=some (.lst (([]:f3).map V.int)):=ay;generalize upd H o (.lst [])=H3 at s3 e3 ⊢;walk_at "";refine Υ (s3 _ _ ho) (cT (by decide) (v:=V.ref q0) (by rw[show(0:Int).toNat=0 from rfl,aA,f0];rfl)) (W2 (s3 _ _ f2) rfl ⟨cm (by simp),λe n4=>h2 _ _ (cL λN3 h3=>?_)⟩);have au:H e=none:=s3.free n4;have ad:o≠e:=λz=>by rw[<-z,e3]at n4;cases n4
 have s4:=s3.trans (δ.new (.lst [V.int r]) n4);have a3:=δ.new (.lst [V.int r]) n4 _ _ e3;have a8:upd H3 e (.lst [V.int r]) e=some (.lst ([r].map V.int)):=ay;generalize upd H3 e (.lst [V.int r])=H4 at s4 a3 a8 ⊢;walk_at "";refine B4 (λn S H5=>E5 λ(M ws f:f3)(v4 v5:Option V)=>n=2*(m.toNat-M.length)+ws.length/\S=[some (.ref lo),some (.ref o),some (.ref e),v4,v5]/\δ H H5/\H5 o=some (.lst (f.map V.int))/\H5 e=some (.lst (ws.map V.int))/\ύ m d r b M ws/\(f++ws).Perm (r::M)/\f++ws.reverse.flatMap (bO m d r b I)=bO m d r b I r) (2*m.toNat+1) ⟨[],[r],[],_,_,rfl,rfl,s4,a3,a8,ύ.start,iJ _,by simp⟩ ?_;rintro n S H5 NW BB ϗ hN Xk ⟨M,ws,f,v4,v5,rfl,rfl,s5,cr,h4,J,pe,ep⟩;refine ϗ _ _ _ ?_;have rk:∀w∈r::M,0<=w/\w<m:=λw hw=>by
  rcases ax.mp hw with rfl|z
  .exact⟨r0,r1⟩
  .exact J.Χ w z
 have nk:(r::M).Nodup:=bg.mpr ⟨J.nr,J.nd⟩;have kl:=fC (m:=m) (by lia) nk rk;have dS:=fC (m:=m) (by lia) J.nd J.Χ;have Y:=pe.length_eq;rw[aE]at Y;rw[aF]at kl Y;walk_at "";refine⟨by decide,λl5 n5=>RJ (ys:=[]) (δ.new _ n5 _ _ h4) ay ⟨_,rfl,?_⟩⟩;have ae:=s5.trans (δ.new (.lst []) n5);have al:=δ.new (.lst []) n5 _ _ cr;have G:=δ.new (.lst []) n5 _ _ h4;generalize upd H5 l5 (.lst [])=C at ae al G ⊢;rcases eY ws with rfl|⟨ws',q,rfl⟩
 .rw[ag (by simp)];rw[List.reverse_nil,List.flatMap_nil,bH]at ep;subst ep;refine h3 _ _ ?_;walk_at "";exact k o C n3 ae al
 .rw[eX]at J G hN Xk pe ep Y ⊢;rw[aj (by simp)];have hq:q∈ws'++[q]:=aW _ (aI.mpr rfl);have pr:=J.at_ r0 r1 hq;have N:=J.step g R r0 r1 (p:=q) (ws':=ws') (hJ q ws');refine⟨NW,λec H' z=>?_,?_⟩
  .obtain⟨m',lt,X1,XR,pl',a5,a6,z1,z2⟩:=Xk _ _ z
   first|exact⟨m',lt,X1,XR,pl',a5,a6,z1,z2⟩|exact⟨m',lt,X1,XR,z1,pl',a5,a6,z2⟩
  rw[aw,aq,d6]at G;refine⟨Io G,Lh G ?_⟩;have s6:δ H (upd C e (.lst (ws'.map V.int))):=ae.put au _;have ai:upd C e (.lst (ws'.map V.int)) o=some (.lst (f.map V.int)):=by rw[aR ad];exact al
  have be:upd C e (.lst (ws'.map V.int)) e=some (.lst (ws'.map V.int)):=ay;generalize upd C e (.lst (ws'.map V.int))=H6 at s6 ai be ⊢;refine⟨Io ai,o9 ai (d5 (by rw[aa];lia)) ?_⟩;have s7:δ H (upd H6 o (.lst (f.map V.int++[V.int q]))):=s6.put n3 _;have ZI:upd H6 o (.lst (f.map V.int++[V.int q])) o=some (.lst ((f++[q]).map V.int)):=by rw[ay,aw];rfl
  have a2:upd H6 o (.lst (f.map V.int++[V.int q])) e=some (.lst (ws'.map V.int)):=by rw[aR ad.symm];exact be
  generalize upd H6 o (.lst (f.map V.int++[V.int q]))=H7 at s7 ZI a2 ⊢;refine⟨⟨_,ξ.of (s7 _ _ ho)⟩,λpk aC=>?_⟩;refine lQ (K:=K) (c:=true) (a:=lo) (xs:=qs.map V.ref) (λj zs S H8=>δ H7 H8/\H8 pk=some (.lst zs)/\zs=(((r::t).take j).filter λc=>decide (c≠r/\b c=q)).map V.int/\∃v0,S=[v0,some (V.int q)]) ⟨δ.new _ aC,ay,rfl,_,rfl⟩ (λj zs S H8 _ ⟨z,_⟩=>ξ.of (z _ _ (s7 _ _ ho))) ?_ ?_
  .rintro j y zs S H8 N' Y6 hj ⟨s8,e8,rfl,v0,rfl⟩;obtain⟨q',u,rfl,ed,L,e7⟩:=pa.get hj;have kl:(((r::t).take j).filter λc=>decide (c≠r/\b c=q)).length<=j:=aL (cB ..) (by rw[bq];lia);have jl:=(az.mp L).1;rw[aF]at jl;have e9:=s8 _ _ (s7 _ _ e7);walk_at "";refine W2 e9 (v:=Pb.front r b u) rfl ?_;by_cases cu:u=r
   .have fv:Pb.front r b u=V.ω:=(by unfold Pb.front;rw[aj cu]);rw[fv];refine⟨by simp[rK],?_⟩;rw[ag (by intro z;cases z)];exact Y6 _ _ _ ⟨s8,e8,by rw[IC L (bA λz=>z.1 cu)],_,rfl⟩
   .have fv:Pb.front r b u=V.int (b u):=(by unfold Pb.front;rw[ag cu]);rw[fv];refine⟨by simp[rK],?_⟩;by_cases cp:b u=q
    .rw[aj (by rw[cp])];refine W2 e9 rfl ⟨e8,d5 (by rw[aa];lia),Y6 _ _ _ ⟨s8.put aC _,ay,by rw[Ur L (bh ⟨cu,cp⟩),aw];rfl,_,rfl⟩⟩
    .rw[ag (by intro z;injection z;contradiction)];exact Y6 _ _ _ ⟨s8,e8,by rw[IC L (bA λz=>cp z.2)],_,rfl⟩
  .rintro zs S H8 ⟨s8,e8,ez8,v0,rfl⟩;rw[aa,ql,show t.length+1=(r::t).length from rfl,bx]at ez8;subst ez8;have ci:((r::t).filter λc=>decide (c≠r/\b c=q)).Nodup:=O.nd.filter _;have mk:∀u,u∈((r::t).filter λc=>decide (c≠r/\b c=q))↔u∈kd m d r b q:=λu=>by
    rw[bw g R pr.1 pr.2,bG,fJ];exact⟨λh=>⟨O.Χ u ((ax.mp h.1).resolve_left h.2.1),h.2⟩,λh=>⟨ax.mpr (O.all u h.1.1 h.1.2),h.2⟩⟩
   have dV:((r::t).filter λc=>decide (c≠r/\b c=q)).length<=t.length+1:=cB ..;refine⟨pk,rfl,_,ξ.of e8,by lia,λlz zs Z pz sz=>?_⟩;have ez:zs=kd m d r b q:=ua (pz.trans (gK ci nZ mk)) sz ((y6 m d q).filter _);subst ez;have s9:=s7.trans (s8.trans (δ.new (.lst ((kd m d r b q).map V.int)) Z));have av:=δ.new (.lst ((kd m d r b q).map V.int)) Z _ _ (s8 _ _ ZI);have U:=δ.new (.lst ((kd m d r b q).map V.int)) Z _ _ (s8 _ _ a2);have e9:upd H8 lz (.lst ((kd m d r b q).map V.int)) lz=some (.lst ((kd m d r b q).map V.int)):=ay;generalize upd H8 lz (.lst ((kd m d r b q).map V.int))=H9 at s9 av U e9 ⊢;have pq:bO m d r b I q=q::(kd m d r b q).flatMap (bO m d r b I):=fM g R pr.1 pr.2;have N:ύ m d r b (M++kd m d r b q) (ws'++kd m d r b q):=N;generalize kd m d r b q=B at e9 N pq ⊢;have ca:=fC (m:=m) (by lia) N.nd N.Χ;rw[aE]at ca;have ct:=fC (m:=m) (by lia) N.wnd λw hw=>N.at_ r0 r1 hw;rw[aE]at ct;refine⟨Io U,?_⟩;unfold TK;walk_at "";refine⟨_,ξ.of e9,λlv W=>?_⟩;rw[<-d9];have a0:=s9.trans (δ.new (.lst (B.reverse.map V.int)) W);have an:=δ.new (.lst (B.reverse.map V.int)) W _ _ av;have a9:=δ.new (.lst (B.reverse.map V.int)) W _ _ U;have a4:upd H9 lv (.lst (B.reverse.map V.int)) lv=some (.lst (B.reverse.map V.int)):=ay;generalize upd H9 lv (.lst (B.reverse.map V.int))=dA at a0 an a9 a4 ⊢;refine⟨e,lv,_,_,rfl,rfl,a9,a4,cm (by rw[aa,aa,bc];lia),hN _ _ _ ?_ ⟨M++B,ws'++B.reverse,f++[q],_,_,rfl,rfl,a0.put au _,?_,?_,N.perm (gU _ B.reverse_perm.symm),?_,?_⟩⟩
   .rw[aE,aE,aE,bc];simp only[aF,dW]
    lia
   .rw[aR ad];exact an
   .rw[ay,<-aw]
   .have p1:(f++[q]++(ws'++B.reverse)).Perm (f++(ws'++[q])++B):=by
     rw[bX,bX];refine gU _ ?_;rw[<-bX];exact List.Perm.append (ms) B.reverse_perm
    exact p1.trans (mw _ pe)
   .rw[<-ep,ic,ic,jt,lS,lZ,bC,pq,fK];simp
theorem GF{d e:Type}{R:d->e->Prop}:∀{l:List d},(∀a∈l,∃b,R a b)->∃c,Paired R l c
 | [],_=>⟨[],.nil⟩
 | a::l,h=>by
   obtain⟨b,f⟩:=h a (.head _);obtain⟨c,i⟩:=GF (l:=l) λx g=>h x (.tail _ g);exact⟨b::c,.cons f i⟩
theorem zu{d c:Type}{R:d->c->Prop}:∀{l:List d}{e:List c},Paired R l e->∀{b:c},b∈e->∃a∈l,R a b
 | _,_,.cons h t,b,hb=>by
   rcases ax.mp hb with rfl|hb
   .exact⟨_,.head _,h⟩
   .obtain⟨a,ha,hr⟩:=zu t hb;exact⟨a,.tail _ ha,hr⟩
theorem vd{c d:Type}{R:c->d->Prop}:∀{l:List c}{e:List d},Paired R l e->∀{a:c},a∈l->∃b∈e,R a b
 | _,_,.cons h t,b,hb=>by
   rcases ax.mp hb with rfl|hb
   .exact⟨_,.head _,h⟩
   .obtain⟨a,ha,hr⟩:=vd t hb;exact⟨a,.tail _ ha,hr⟩
theorem vG{c d g:Type}{R:c->d->Prop}{f:c->g}{h:d->g}(e:∀a b,R a b->f a=h b):∀{l:List c}{i:List d},Paired R l i->l.map f=i.map h
 | _,_,.nil=>rfl
 | _,_,.cons x t=>by rw[aq,aq,e _ _ x,vG e t]
theorem Gg{d f g:Type}{R:d->f->Prop}{S:d->g->Prop}{U:g->f->Prop}(e:∀a b c,R a b->S a c->U c b):∀{l:List d}{i:List f}{h:List g},Paired R l i->Paired S l h->Paired U h i
 | _,_,_,.nil,.nil=>.nil
 | _,_,_,.cons x t,.cons y u=>.cons (e _ _ _ x y) (Gg e t u)
def An(T:Txt K X):Sp:=λp H Q _=>E11 λ(k lo:Addr)(n:gw)(e:hU)(t:f3)(m r w h:Int)(c:f5)(d:gb)=>p=[.int m,.ref k,.ref lo,.int w,.int h]/\ϧ H k e/\Good m e/\ζ m e r c d/\H lo=some (.lst (n.map V.ref))/\Μ H r c n (r::t)/\Order m r c t/\t.length+1=m.toNat/\(0<=r/\r<m)/\m<=4/\0<=h/\h<=40/\h=gE m e r c (dD m e r c d) w/\(∀f j,YD m e r c d w f->YD m e r c d w j->XO m e r c d f=XO m e r c d j->f=j)/\(∀g:List (List Int),g.Nodup->(∀f∈g,YD m e r c d w f)->g.length<64)/\∀(l:Addr)(o:gw)(g:List (List Int))(i:Hp),H l=none->δ H i->i l=some (.lst (o.map V.ref))->Κ i o g->(∀f,f∈g↔YD m e r c d w f)->(g.map (XO m e r c d)).Pairwise (λa b=>PySem.SeqAt.Θ a b=true)->Q (.ref l) i
abbrev rg:Stmt:=top 83
theorem AJ:η ["many","tolls","order","wanted","held","row","due","laying","load"] ["many","tolls","order","wanted","held"] (aK rg):=.of
theorem BQ:YS (aK rg) "load":=.of (by kernel_rfl)
theorem Kk(T:Txt K X)(hq:cg (Ε P w))(rE:Cb P w K X base "_law_layings" kY ["many","held"] 1 (uA T))(vh:Cb P w K X base "_law_load" pY ["tolls","order","laying"] 1 (yH T))(pR:Cb P w K X base "_law_rows_down" lI ["order"] 1 (sK T)):Ok P w K X base "_law_due" rg ["many","tolls","order","wanted","held"] 2 (An T):=λ_ _ D=>by
 refine D.F.Ϙ AJ (by walk_at "v") λΑ A c4 s H vs Q E hr h=>?_;obtain⟨dt,lo,qs,o,t,m,r,w,h,f,n,rfl,ta,g,R,ho,pa,O,cx,rr,m4,h0,cS,eh,bl,aC,k⟩:=h;have hv:=hr.units;have m1:=g.m1;refine⟨_,(aD (Δ 5 (Ν pR hr hq (ah (ε 2) aB))) (aD (Δ 6 (eD aB)) (aD (fm PassesOwn.never rfl (gY (Ν rE hr hq (ah (ε 0) (ah (ε 4) aB)))) (ϒ 7) (aD (uH (i:=8) AJ.nd rfl (Or.inr BQ.l) (Ν vh hr hq (ah (ε 1) (ah (ε 2) (ah (ε 7) aB))))) (aO (eK (Ϻ qd (Ι bL (bY 8) (mQ jw (mQ bL (ε 2) aU (λ_ _=>rfl)) aU (λ_ _=>rfl))) (ε 3)) (aO (dq (iU PySem.F.plainAttrs_list PySem.F.slot_list_append PySem.F.type_list_append fN (ε 6) (ah (jR (ah (gZ rfl (YC ["place","load"] 1 [8]) (gY (ε 5)) (λ_ _ _ _=>(fe (i:=0) (show(["place","load"]:hD).Nodup from by decide +kernel) rfl (Or.inl rfl))) (λ_ _ _ _=>jg) (λ_ _ _ _=>(Ι (oZ K rfl) (pv 1) (pv 0)))) (ah (ε 7) aB))) aB)))) dy)))) (aO (bQ (gZ rfl (tx (Nc:=["pair"]) 1 (by decide +kernel) (by decide +kernel) rfl (by decide +kernel) rfl) (gY (W6 (F5 hv) T.sorted (ah (ε 6) aB))) (λ_ _ _ _=>(fe (i:=0) (show(["pair"]:hD).Nodup from by decide +kernel) rfl (Or.inl rfl))) (λ_ _ _ _=>jg) (λ_ _ _ _=>(Ι (Cg K rfl) (pv 0) aU)))))))),?_⟩;walk_at "s";refine cL λN1 h1=>?_;walk_at "";refine⟨lo,qs,o,t,m,r,f,n,rfl,g,R,ho,pa,O,cx,rr,λlr H1 ed s1 er=>h1 _ _ (cL λN2 h2=>?_)⟩;walk_at "";refine⟨by decide,λld af=>h2 _ _ (cL λN3 h3=>?_)⟩;have co:=s1.free af;have s2:=δ.new (HO.lst []) af;have e2:upd H1 ld (HO.lst []) ld=some (.lst []):=ay;have ej:lr≠ld:=λz=>by subst z;rw[af]at er;cases er
 have ZK:lo≠ld:=λz=>by subst z;rw[co]at ho;cases ho
 have YG:=s1.trans s2;have c6:=s2 _ _ er;generalize upd H1 ld (HO.lst [])=H2 at s2 e2 YG c6 ⊢;walk_at "";refine⟨m,h,rfl,m1,m4,h0,cS,λlL ps H3 dk s3 eL au=>?_⟩;refine⟨lL,rfl,⟨_,ξ.of eL⟩,?_⟩;have Y3:=YG.trans s3;have e3:=s3 _ _ e2;have c3:lL≠ld:=λz=>by subst z;rw[dk]at e2;cases e2
 have a5:∀{p:Addr}{xs:f3},xs∈lyA h (m-1).toNat->H3 p=some (.lst (xs.map V.int))->p≠ld:=λ{p xs} C hp z=>by
  have hl:=((Cr h0).mp C).1;rw[z,e3]at hp;injection hp with hp
  injection hp with hp
  rw[mZ.mp hp.symm]at hl;cases hl
 obtain⟨Pd,an⟩:∃Pd:List Int->Bool,∀xs,Pd xs=decide (Φ m o r f n (λv=>xs.getD v.toNat 0) (Η o f) r<w):=⟨_,λ_=>rfl⟩;have XT:∀xs,xs∈(lyA h (m-1).toNat).filter Pd↔YD m o r f n w xs:=λxs=>by
  rw[bG,Cr h0,an,fJ,eh];exact⟨λ⟨⟨a,b,c⟩,d⟩=>⟨by lia,b,c,d⟩,λ⟨a,b,c,d⟩=>⟨⟨by lia,b,c⟩,d⟩⟩
 have nd:=Me h (m-1).toNat;have a9:∀xs∈lyA h (m-1).toNat,(xs.length:Int)=m:=λxs C=>by have:=((Cr h0).mp C).1;lia
 generalize lyA h (m-1).toNat=L at au a5 XT nd a9 ⊢;have pr:∀u∈bO m o r f n r,0<=u/\u<m:=λu hu=>((ou g R _ r rr.1 rr.2).2 u hu).1;have pL:=zG g R rr.1 rr.2;have cr:∀i,((L.take i).filter Pd).length<64:=λi=>aC _ ((nd.sublist (List.take_sublist _ _)).sublist List.filter_sublist) λxs C=>(XT xs).mp (bG.mpr ⟨fU (bG.mp C).1,(bG.mp C).2⟩);obtain⟨q0,v0,e0,f0,f1,f2⟩:=pa.get (i:=0) (x:=V.ref (qs.headD 0)) (by
  have ql:qs.length=(r::t).length:=Paired.length pa;cases qs with
  | nil=>simp at ql
  | cons a l=>rfl)
 cases(show v0=r by simpa using f1.symm);have ct:∀{H':Hp},δ H H'->∀{Q':VK},Q' (V.ref q0) H'->zg K (.ref lo) (.int 0) H' Q':=λ{_} s' {_} q=>Υ (s' _ _ ho) (cT (by decide) (v:=V.ref q0) (by rw[show(0:Int).toNat=0 from rfl,aA,f0];rfl)) q;refine mG (K:=K) (xs:=ps.map V.ref) (λi G Z=>δ H1 Z/\Yy ld H3 Z/\E3 λ(S:List Pz)(v7 v8:Option V)=>Z ld=some (.lst (S.map λz=>V.ref z.1))/\(∀z∈S,Z z.1=some (.tup [.ref z.2.1,z.2.2.1])/\(z.2.1≠ld/\Z z.2.1=some (.lst (z.2.2.2.map V.int)))/\z.2.2.2.length=(bO m o r f n r).length)/\Paired (λ(z:Pz) xs=>z.2.2.2=XO m o r f n xs/\∃p,z.2.2.1=V.ref p/\p≠ld/\H3 p=some (.lst (xs.map V.int))) S ((L.take i).filter Pd)/\G=[some (V.int m),some (V.ref dt),some (V.ref lo),some (V.int w),some (V.int h),some (V.ref lr),some (V.ref ld),v7,v8]) ⟨s2.trans s3,Yy.refl,[],_,_,e3,λz M=>(by cases M),.nil,rfl⟩ (λi G Z _ z=>ξ.of (z.2.1 _ _ eL c3)) ?_ ?_
 .rintro i x G Z N BB ϗ hN hi ⟨s4,k4,S,v7,v8,e4,M,pz,rfl⟩;obtain⟨q,xs,rfl,g1,g2,g3⟩:=au.get hi;have et:L.take (i+1)=L.take i++[xs]:=by rw[bK,g2];rfl
  have xm:=aQ g2;have nq:=a5 xm g3;have g4:=k4 _ _ g3 nq;have Y4:=s1.trans s4;have zl:S.length<64:=by rw[Paired.length pz];exact cr i
  refine ϗ _ _ (cL λM1 k1=>?_);walk_at "";refine⟨dt,lo,q,true,qs,o,t,xs,m,r,f,n,rfl,ta.same Y4,g,R,Y4 _ _ ho,pa.same Y4,O,ξ.of g4,a9 _ xm,λll H5 XS J el=>k1 _ _ ?_⟩;have U:=Y4.trans J;have e5:=J _ _ e4;walk_at "";refine ct U (W2 (U _ _ f2) rfl (Υ el (WD rr.1 (by unfold qz;rw[aa,b7];lia)) ?_));rw[qD rr.1 rr.2];refine⟨_,rfl,?_⟩;have k5:=k4.then J;have bS:∀{H':Hp},δ H5 H'->∀z∈S,H' z.1=some (.tup [.ref z.2.1,z.2.2.1])/\(z.2.1≠ld/\H' z.2.1=some (.lst (z.2.2.2.map V.int)))/\z.2.2.2.length=(bO m o r f n r).length:=λ{H'} s' z hm=>⟨s' _ _ (J _ _ (M z hm).1),⟨(M z hm).2.1.1,s' _ _ (J _ _ (M z hm).2.1.2)⟩,(M z hm).2.2⟩;by_cases c:Φ m o r f n (λv=>xs.getD v.toNat 0) (Η o f) r<w
  .rw[aj c];have ef:(L.take (i+1)).filter Pd=(L.take i).filter Pd++[xs]:=(by rw[et,b4,hV,an,aj (bh c)];rfl);have a2:=s4.trans J _ _ er;refine⟨Io e5,⟨_,ξ.of a2⟩,λW Y7=>?_⟩;refine lQ (K:=K) (c:=true) (a:=lr) (xs:=(bO m o r f n r).map V.int) (λj cs G I=>δ H5 I/\I W=some (.lst cs)/\cs=(((bO m o r f n r).take j).map (Φ m o r f n (λv=>xs.getD v.toNat 0) (Η o f))).map V.int/\∃v0,G=[v0,some (V.ref ll)]) ⟨δ.new _ Y7,ay,rfl,_,rfl⟩ (λj S G I _ ⟨z,_⟩=>ξ.of (z _ _ a2)) ?_ ?_
   .rintro j y cs G I N' Y6 hj ⟨s6,e6,rfl,v0,rfl⟩;obtain⟨u,hu,rfl⟩:=List.μ hj;have um:=pr u (aQ hu);walk_at "";refine Υ (s6 _ _ el) (WD um.1 (by unfold qz;rw[aa,b7];lia)) ?_;rw[qD um.1 um.2];refine⟨e6,d5 (by rw[aa,aa,bq];lia),Y6 _ _ _ ⟨s6.put Y7 _,ay,by rw[cA,hu,aw,aw];rfl,_,rfl⟩⟩
   .rintro cs G I ⟨s6,e6,rfl,v0,rfl⟩;rw[aa,bx]at e6;refine⟨cm (by simp),λtp bm=>?_⟩;have s7:=s6.trans (δ.new (HO.tup [V.ref W,V.ref q]) bm);have e7:upd I tp (HO.tup [V.ref W,V.ref q]) tp=some (.tup [V.ref W,V.ref q]):=ay;have bk:=δ.new (HO.tup [V.ref W,V.ref q]) bm _ _ e6;generalize upd I tp (HO.tup [V.ref W,V.ref q])=H7 at s7 e7 bk ⊢;have be:=s7 _ _ e5;have a4:W≠ld:=λz=>by subst z;rw[Y7]at e5;cases e5
    have a7:∀{a:Addr}{vs:List V},H7 a=some (.tup vs)->a≠ld:=λh=>gV h be (by intro z;cases z);refine o9 be (d5 (by rw[aa];lia)) (hN _ _ ⟨((s4.trans J).trans s7).put af _,(k5.then s7).put _,S++[(tp,W,V.ref q,XO m o r f n xs)],_,_,by rw[ay,aw];rfl,λz hm=>?_,by rw[ef];exact tJ ⟨rfl,q,rfl,nq,g3⟩ pz,rfl⟩);rcases aY.mp hm with hm|hm
    .obtain⟨a,⟨b,c'⟩,d⟩:=bS s7 z hm;exact⟨by rw[aR (a7 a)];exact a,⟨b,by rw[aR b];exact c'⟩,d⟩
    .cases aI.mp hm;exact⟨by rw[aR (a7 e7)];exact e7,⟨a4,by rw[aR a4];exact bk⟩,by unfold XO;rw[aa]⟩
  .rw[ag c];have ef:(L.take (i+1)).filter Pd=(L.take i).filter Pd:=(by rw[et,b4,hV,an,ag (by simpa using c),jH,bH]);exact hN _ _ ⟨s4.trans J,k5,S,_,_,e5,bS (δ.refl _),by rw[ef];exact pz,rfl⟩
 .rintro B G Z hB ⟨s4,k4,S,v7,v8,e4,M,pz,rfl⟩;rw[aa,Paired.length au,bx]at pz;refine hB _ _ (h3 _ _ ?_);walk_at "";have Y4:=s1.trans s4;have dd:(S.map λx=>x.2.2.2).Nodup:=by
   rw[vG (h:=XO m o r f n) (λa b h=>h.1) pz];show List.Pairwise _ (List.map _ _);rw[fP];refine List.Pairwise.imp_of_mem (λ{a b} ha hb ne e=>ne (bl a b ((XT a).mp ha) ((XT b).mp hb) e)) (nd.sublist List.filter_sublist)
  refine⟨S,e4,_,λz hm=>⟨(M z hm).1,(M z hm).2.1.2,(M z hm).2.2⟩,by rw[Paired.length pz];exact aC _ (nd.sublist List.filter_sublist) λxs C=>(XT xs).mp C,dd,λl Y nl pm a8=>?_⟩;have J:=δ.new (HO.lst (Y.map λz=>V.ref z.1)) nl;have e5:upd Z l (HO.lst (Y.map λz=>V.ref z.1)) l=some (.lst (Y.map λz=>V.ref z.1)):=ay;have k5:=k4.then J;generalize upd Z l (HO.lst (Y.map λz=>V.ref z.1))=H5 at J e5 k5 ⊢;have U:=Y4.trans J;have hy:∀z∈Y,H5 z.1=some (.tup [.ref z.2.1,z.2.2.1]):=λz hm=>J _ _ (M z (pm.mem_iff.mp hm)).1;obtain⟨ds,pd⟩:=GF (l:=Y) (R:=λz xs=>xs∈L.filter Pd/\z.2.2.2=XO m o r f n xs/\∃p,z.2.2.1=V.ref p/\p≠ld/\H3 p=some (.lst (xs.map V.int))) λz hm=>by
   obtain⟨b,hb,hr⟩:=vd pz (pm.mem_iff.mp hm);exact⟨b,hb,hr⟩
  obtain⟨a3,pp⟩:=GF (l:=Y) (R:=λz p=>z.2.2.1=V.ref p) λz hm=>by
   obtain⟨b,_,_,_,p,hp,_⟩:=vd pd hm;exact⟨p,hp⟩
  have ep:Y.map (λz=>z.2.2.1)=a3.map V.ref:=vG (λa b h=>h) pp;have yl:Y.length<64:=by rw[pm.length_eq,Paired.length pz];exact aC _ (nd.sublist List.filter_sublist) λxs C=>(XT xs).mp C
  refine⟨⟨_,ξ.of e5⟩,λW Y7=>?_⟩;refine lQ (K:=K) (c:=true) (a:=l) (xs:=Y.map λz=>V.ref z.1) (λj cs G I=>δ H5 I/\I W=some (.lst cs)/\cs=(Y.take j).map (λz=>z.2.2.1)/\∃v0,G=[v0]) ⟨δ.new _ Y7,ay,rfl,_,rfl⟩ (λj cs G I _ ⟨z,_⟩=>ξ.of (z _ _ e5)) ?_ ?_
  .rintro j y cs G I N' Y6 hj ⟨s6,e6,rfl,v0,rfl⟩;obtain⟨z,hu,rfl⟩:=List.μ hj;have zm:=aQ hu;walk_at "";refine W2 (s6 _ _ (hy z zm)) rfl ⟨e6,d5 (by rw[aa,bq];lia),Y6 _ _ _ ⟨s6.put Y7 _,ay,by rw[cA,hu,aw];rfl,_,rfl⟩⟩
  .rintro cs G I ⟨s6,e6,rfl,v0,rfl⟩;rw[aa,bx,ep]at e6;have cv:∀xs,xs∈ds↔YD m o r f n w xs:=λxs=>by
    constructor
    .intro C;obtain⟨z,_,M,_⟩:=zu pd C;exact(XT xs).mp M
    .intro C;obtain⟨z,zm,e,_⟩:=zu pz ((XT xs).mpr C);obtain⟨y,ym,hy,e',_⟩:=vd pd (pm.mem_iff.mpr zm);rw[bl xs y C ((XT y).mp hy) (e.symm.trans e')];exact ym
   refine k W a3 ds I (U.free Y7) (U.trans s6) e6 ?_ cv ?_
   .refine Gg (λz xs p C hp=>?_) pd pp;obtain⟨_,_,p',e1,e2,e3⟩:=C;rw[hp]at e1;cases e1;exact s6 _ _ (k5 _ _ e3 e2)
   .rw[vG (h:=XO m o r f n) (λa b h=>h.2.1) pd]at a8;exact a8
def yW(T:Txt K X):Sp:=λb H Q _=>E3 λ(a:Addr)(c:f3)(k:Int)=>b=[.ref a,.int k]/\ξ K H a (c.map V.int)/\0<=k/\∀v,Q (.int v) H
abbrev rR:Stmt:=top 71
theorem HE:η ["script","k"] ["script","k"] (aK rR):=.of
theorem G1(T:Txt K X)(l:cg (Ε P w)):Ok P w K X base "_law_cell" rR ["script","k"] 1 (yW T):=λ_ _ D=>by
 refine D.F.Ϙ HE (by walk_at "v") λm A d s H n Q E j h=>?_;obtain⟨a,b,i,rfl,e,f,k⟩:=h;refine⟨_,(aD (eK (Ϻ qd (ε 1) (W6 kF T.len (ah (ε 0) aB))) (aO (bQ (Ι bL (ε 0) (ε 1)))) dy) (aO (bQ aU))),?_⟩;walk_at "s";walk_at "";refine⟨_,.inl e,?_⟩;rw[aa];by_cases c:i<(b.length:Int)
 .rw[aj c];have g:i.toNat<b.length:=by lia
  exact ixS e (cT f (v:=.int b[i.toNat]) (by rw[aA,ao g];rfl)) (k _)
 .rw[ag c];exact k 0
theorem PM(c k:Int)(l:0<=k)(m:k<=1000):∃a b d:Int,(c%998244353+7919*k+11)*48271%2147483647=a/\a*a%2147483629=b/\(b+104729*k+7)*b%1000000007=d/\WL 7919 k/\WL (c%998244353+7919*k+11) 48271/\WL a a/\WL 104729 k/\WL (b+104729*k+7) b/\WL d 16807/\0<=d*16807%2147483647/8/\d*16807%2147483647/8<=2147483647:=by
 have e:∀(x n:Int),0<n->0<=x%n/\x%n<n:=λx n h=>⟨dH x (Int.ne_of_gt h),cR x h⟩;refine⟨_,_,_,rfl,rfl,rfl,?_⟩;have g:=e ((c%998244353+7919*k+11)*48271) 2147483647 (by decide);generalize (c%998244353+7919*k+11)*48271%2147483647=a at g ⊢;have i:=e (a*a) 2147483629 (by decide);generalize a*a%2147483629=b at i ⊢;have f:=e ((b+104729*k+7)*b) 1000000007 (by decide);generalize (b+104729*k+7)*b%1000000007=d at f ⊢;have j:=e (d*16807) 2147483647 (by decide);exact⟨.inl ⟨by decide,by decide⟩,.inr ⟨by decide,by decide⟩,.inl ⟨by lia,by lia⟩,.inl ⟨by decide,by decide⟩,.inr ⟨by lia,by lia⟩,.inr ⟨by decide,by decide⟩,by lia,by lia⟩
def wK(T:Txt K X):Sp:=λa H Q _=>∃(c k:Int),a=[.int c,.int k]/\0<=k/\k<=1000/\∀v,0<=v->v<=2147483647->Q (.int v) H
abbrev qQ:Stmt:=top 72
theorem Gx:η ["cell","k","m"] ["cell","k"] (aK qQ):=.of
theorem GH(T:Txt K X)(y:cg (Ε P w)):Ok P w K X base "_law_mixed" qQ ["cell","k"] 1 (wK T):=λ_ _ D=>by
 refine D.F.Ϙ Gx (by walk_at "v") λz A e s H B Q E x h=>?_;obtain⟨c,i,rfl,l,q,k⟩:=h;obtain⟨a,b,d,p,r,m,g,n,f,t,u,o,j,v⟩:=PM c i l q;refine⟨_,(aD (Δ 2 (bn fQ (bn me (bn eP (bn eP (bn fQ (ε 0) aU) (bn me aU (ε 1))) aU) aU) aU)) (aD (Δ 2 (bn fQ (bn me (ε 2) (ε 2)) aU)) (aD (Δ 2 (bn fQ (bn me (bn eP (bn eP (ε 2) (bn me aU (ε 1))) aU) (ε 2)) aU)) (aO (bQ (bn gO (bn fQ (bn me (ε 2) aU) aU) aU)))))),?_⟩;walk_at "s";walk_at "";rw[p,r,m];exact⟨by decide,g,n,by decide,f,by decide,t,u,by decide,o,by decide,⟨by decide,by decide⟩,k _ j v⟩
def uN(T:Txt K X):Sp:=λd H Q _=>E3 λ(a:Addr)(e:f3)(m:Int)=>d=[.ref a,.int m]/\ξ K H a (e.map V.int)/\0<=m/\m<=800/\∀(l:Addr)(c:f3)(b:Hp),H l=none->δ H b->b l=some (.lst (c.map V.int))->(c.length:Int)=m->Q (.ref l) b
abbrev mW:Stmt:=top 73
theorem Dg:η ["script","many","rest","numbers","k"] ["script","many"] (aK mW):=.of
theorem vQ:Ϝ (aK mW) "range":=.of (by kernel_rfl)
theorem Cm(T:Txt K X)(n:cg (Ε P w))(u:Cb P w K X base "_law_cell" rR ["script","k"] 1 (yW T))(v:Cb P w K X base "_law_mixed" qQ ["cell","k"] 1 (wK T)):Ok P w K X base "_law_numbers" mW ["script","many"] 2 (uN T):=λ_ _ D=>by
 refine D.F.Ϙ Dg (by walk_at "v") λJ A p s H L Q E j h=>?_;obtain⟨a,r,m,rfl,t,M,I,k⟩:=h;refine⟨_,(aD (Δ 2 (Ν u j n (ah (ε 0) (ah aU aB)))) (aD (Δ 3 (eD aB)) (aD (fm PassesOwn.never rfl (iQ vQ.g T.range (ah (ε 1) aB)) (ϒ 4) (aO (eK (Ϻ jU (bn fQ (Ν u j n (ah (ε 0) (ah aU aB))) aU) aU) (aD (dq (iU PySem.F.plainAttrs_list PySem.F.slot_list_append PySem.F.type_list_append fN (ε 3) (ah (bn fQ (ε 2) (bn Nf aU aU)) aB))) (aO (Δ 2 (bn F6 (ε 2) (bn Nf aU aU))))) (aO (dq (iU PySem.F.plainAttrs_list PySem.F.slot_list_append PySem.F.type_list_append fN (ε 3) (ah (bn eP (bn me (Ν v j n (ah (ε 2) (ah (ε 4) aB))) aU) (Ν v j n (ah (ε 2) (ah (bn eP (ε 4) aU) aB)))) aB))))))) (aO (bQ (ε 3)))))),?_⟩;walk_at "s";walk_at "";refine⟨a,r,1,rfl,t,by decide,λrest=>⟨by decide,λl nl=>⟨by lia,by lia,?_⟩⟩⟩;refine p8 (λi o d=>δ H d/\E3 λ(rest:Int)(b:f3)(q:Option V)=>d l=some (.lst (b.map V.int))/\b.length=i/\o=[some (.ref a),some (.int m),some (.int rest),some (.ref l),q]) ⟨δ.new _ nl,rest,[],_,ay,rfl,rfl⟩ ?_ ?_
 .rintro i o d N hN hi ⟨s2,rest,b,q,e2,xl,rfl⟩;rw[cQ];have B:=δ.seq s2 t;have f:∀(z rest:Int),N [some (V.ref a),some (V.int m),some (V.int rest),some (V.ref l),some (V.int (i:Int))] (upd d l (.lst (b.map V.int++[V.int z]))):=λz rest=>
   hN _ _ ⟨s2.put nl _,rest,b++[z],_,by rw[ay,aw];rfl,by rw[aE,xl];rfl,rfl⟩
  walk_at "";refine⟨a,r,0,rfl,B,by decide,λc=>⟨c,rfl,by decide,?_⟩⟩;have e:UG 10 20:=⟨by decide,by decide,by decide⟩;by_cases z:c%2=0
  .rw[aj z];exact⟨Io e2,e,by decide +kernel,o9 e2 (d5 (by rw[aa];lia)) ⟨e,⟨by decide +kernel,by decide +kernel⟩,f _ _⟩⟩
  .rw[ag z];exact⟨Io e2,rest,(i:Int),rfl,by lia,by lia,λx G C=>⟨x,rfl,.inr ⟨by decide,by decide⟩,rest,(i:Int)+100,rfl,by lia,by lia,λy _ _=>⟨y,rfl,o9 e2 (d5 (by rw[aa];lia)) (f _ _)⟩⟩⟩
 .rintro o d ⟨s2,rest,b,q,e2,xl,rfl⟩;walk_at "";exact k l b d nl s2 e2 (by lia)
def yJ(T:Txt K X):Sp:=λa H Q _=>∃(c:Int),a=[.int c]/\∀t,2<=t->t<=1000000->Q (.int t) H
abbrev se:Stmt:=top 74
theorem G3:η ["rest"] ["rest"] (aK se):=.of
theorem HQ(T:Txt K X)(e:cg (Ε P w)):Ok P w K X base "_law_toll" se ["rest"] 1 (yJ T):=λ_ _ D=>by
 refine D.F.Ϙ G3 (by walk_at "v") λg A a s H i Q E d h=>?_;obtain⟨c,rfl,k⟩:=h;refine⟨_,(aD (eK (Ϻ jU (bn fQ (ε 0) aU) aU) (aO (bQ (bn eP aU (bn fQ (bn gO (ε 0) aU) aU)))) dy) (aO (bQ (bn eP aU (bn fQ (bn gO (ε 0) aU) aU))))),?_⟩;walk_at "s";walk_at "";have f:=dH (c/8) (show(999999:Int)≠0 by decide);have j:=cR (c/8) (show(0:Int)<999999 by decide);have l:=dH (c/8) (show(3:Int)≠0 by decide);have b:=cR (c/8) (show(0:Int)<3 by decide);refine⟨by decide,?_⟩;by_cases z:c%8=0
 .rw[aj z];exact⟨⟨by decide,by decide⟩,by decide,k _ (by lia) (by lia)⟩
 .rw[ag z];exact⟨⟨by decide,by decide⟩,by decide,k _ (by lia) (by lia)⟩
theorem P1{c:Prop}[Decidable c]{A B:Prop}{P:Int->Prop}(m1 m2:Int)(hB:P m2->B)(hA:P m1->A)(h:∀m,((c/\m=m1)\/(¬c/\m=m2))->P m):if c then A else B:=by
 by_cases z:c
 .rw[aj z];exact hA (h _ (.inl ⟨z,rfl⟩))
 .rw[ag z];exact hB (h _ (.inr ⟨z,rfl⟩))
def Bz(T:Txt K X):Sp:=λg H Q _=>∃(a:Addr)(c:f3),g=[.ref a]/\H a=some (.lst (c.map V.int))/\25<=c.length/\c.length<=1000/\∀(t l:Addr)(m:Int)(f:gw)(e:hU)(d:Hp),H t=none->H l=none->δ H d->d t=some (.tup [.int m,.ref l])->d l=some (.lst (f.map V.ref))->ν d f e->Good m e->((c.getD 0 0/7%10=9/\m=8+c.getD 0 0/70%17)\/(¬c.getD 0 0/7%10=9/\m=1+c.getD 0 0%7))->(c.getD 0 0/1190%4=1->∃z,∀x∈e,x.a=z\/x.b=z)->Q (.ref t) d
abbrev rj:Stmt:=top 75
theorem KN:η ["numbers","head","many","names","k","roads","rest","near","there","back","road"] ["numbers"] (aK rj):=.of
theorem sW:Ϝ (aK rj) "range":=.of (by kernel_rfl)
theorem JC(T:Txt K X)(hq:cg (Ε P w))(sh:Cb P w K X base "_law_toll" se ["rest"] 1 (yJ T)):Ok P w K X base "_law_web" rj ["numbers"] 2 (Bz T):=λ_ _ D=>by
 refine D.F.Ϙ KN (by walk_at "v") λΑ A a8 s H vs Q E hr h=>?_;obtain⟨a,C,rfl,ha,c0,n1,k⟩:=h;refine⟨_,(aD (Δ 1 (Ι bL (ε 0) aU)) (aD (Δ 2 (bn eP aU (bn fQ (ε 1) aU))) (aD (eK (Ϻ jU (bn fQ (bn gO (ε 1) aU) aU) aU) (aO (Δ 2 (bn eP aU (bn fQ (bn gO (ε 1) aU) aU)))) dy) (aD (Δ 3 (eD aB)) (aD (fm PassesOwn.never rfl (iQ sW.g T.range (ah (ε 2) aB)) (ϒ 4) (aO (dq (iU PySem.F.plainAttrs_list iz PySem.F.type_list_insert Dy (ε 3) (ah (bn fQ (Ι bL (ε 0) (bn eP (ε 4) aU)) (bn eP (ε 4) aU)) (ah (ε 4) aB)))))) (aD (Δ 5 (eD aB)) (aD (fm PassesOwn.never rfl (Mv sW.g T.range (ah aU (ah (ε 2) aB))) (ϒ 4) (aD (Δ 6 (bn gO (Ι bL (ε 0) (bn eP (ε 4) aU)) (bn eP (ε 4) aU))) (aD (Δ 7 (mQ bL (eD (ah (bn iI (ε 4) aU) (ah aU (ah (bn fQ (ε 6) (ε 4)) (ah (bn fQ (ε 6) (ε 4)) aB))))) (bn fQ (bn gO (ε 1) aU) aU) (λ_ _=>rfl))) (aD (Δ 6 (bn gO (ε 6) (ε 4))) (aD (Δ 8 (Ν sh hr hq (ah (ε 6) aB))) (aD (Δ 9 (Ν sh hr hq (ah (bn gO (ε 6) aU) aB))) (aD (eK (Ϻ jU (bn fQ (bn gO (ε 1) aU) aU) aU) (aO (Δ 9 (ε 8))) dy) (aD (Δ 6 (bn gO (bn gO (ε 6) aU) aU)) (aD (Δ 10 (jR (ah (Ι bL (ε 3) (ε 7)) (ah (Ι bL (ε 3) (ε 4)) (ah (ε 8) (ah (ε 9) aB)))))) (aD (eK (Ϻ jU (bn fQ (ε 6) aU) aU) (aO (Δ 10 (jR (ah (Ι bL (ε 3) (ε 4)) (ah (Ι bL (ε 3) (ε 7)) (ah (ε 9) (ah (ε 8) aB))))))) dy) (aO (dq (iU PySem.F.plainAttrs_list iz PySem.F.type_list_insert Dy (ε 5) (ah (bn fQ (bn gO (ε 6) aU) (bn eP (W6 kF T.len (ah (ε 5) aB)) aU)) (ah (ε 10) aB))))))))))))))) (aO (bQ (jR (ah (ε 2) (ah (ε 5) aB)))))))))))),?_⟩;walk_at "s";have Y:∀(x n:Int),0<n->0<=x%n/\x%n<n:=λx n h=>⟨dH x (Int.ne_of_gt h),cR x h⟩;walk_at "";refine Υ ha (WD (by decide) (by lia)) ?_;change ∀(t l:Addr)(m:Int)(o:gw)(u:hU)(H':Hp),H t=none->H l=none->δ H H'->H' t=some (.tup [.int m,.ref l])->H' l=some (.lst (o.map V.ref))->ν H' o u->Good m u->((C.getD (0:Int).toNat 0/7%10=9/\m=8+C.getD (0:Int).toNat 0/70%17)\/(¬C.getD (0:Int).toNat 0/7%10=9/\m=1+C.getD (0:Int).toNat 0%7))->(C.getD (0:Int).toNat 0/1190%4=1->∃z,∀x∈u,x.a=z\/x.b=z)->Q (.ref t) H' at k;generalize C.getD (0:Int).toNat 0=c at k ⊢;refine⟨_,rfl,by decide,_,rfl,⟨by decide,by decide⟩,by decide,?_⟩;have h1:=Y c 7 (by decide);have h2:=Y (c/70) 17 (by decide);have h3:=Y (c/1190) 4 (by decide);apply P1 (8+c/70%17) (1+c%7)
 .generalize 1+c%7=m;intro h;exact h
 .exact λh=>⟨_,rfl,⟨by decide,by decide⟩,by decide,h⟩
 intro m hm;have m1:1<=m:=by lia
 have Ο:m<=24:=by lia
 refine⟨by decide,λU ad=>⟨by lia,by lia,?_⟩⟩;refine p8 (λi M H2=>δ H H2/\(∃f,H2 U=some (.lst (f.map V.int))/\ϔ i f)/\∃v,M=[some (V.ref a),some (V.int c),some (V.int m),some (V.ref U),v,none,none,none,none,none,none]) ⟨δ.new _ ad,⟨[],ay,.nil⟩,_,rfl⟩ ?_ ?_
 .rintro i M H2 N hN hi ⟨s2,⟨f,e2,L⟩,v,rfl⟩;rw[cQ];have ll:=L.len;walk_at "";refine⟨Io e2,Υ (s2 _ _ ha) (WD (by lia) (by lia)) ⟨_,rfl,by lia,?_⟩⟩;have q:=Y (C.getD ((i:Int)+1).toNat 0) ((i:Int)+1) (by lia);generalize C.getD ((i:Int)+1).toNat 0%((i:Int)+1)=w at q ⊢;refine Sr e2 q.1 (by rw[aa];lia) (d5 (by rw[aa];lia)) ?_;refine hN _ _ ⟨s2.put ad _,⟨_,?_,L.put w.toNat (by lia)⟩,_,rfl⟩;rw[ay,aw,aq,mT,jZ]
 .rintro M H2 ⟨s2,⟨ls,e2,L⟩,v,rfl⟩;walk_at "";have L':ϔ m.toNat ls:=L;have ll:=L'.len;refine⟨by decide,λlo ZK=>⟨1,m,⟨rfl,rfl⟩,⟨by decide,by decide,by lia,by lia⟩,?_⟩⟩;have ae:=s2.free ZK;have XS:U≠lo:=λz=>by rw[<-z,e2]at ZK;cases ZK
  refine p8 (λi M J=>E9 λ(o:gw)(u:hU)(j:List Row)(v4 v6 v7 v8 v9 G:Option V)=>M=[some (V.ref a),some (V.int c),some (V.int m),some (V.ref U),v4,some (V.ref lo),v6,v7,v8,v9,G]/\δ H J/\J U=some (.lst (ls.map V.int))/\J lo=some (.lst (o.map V.ref))/\ν J o u/\Rows i j/\Put ls j u/\(c/1190%4=1->∀x∈u,x.a=ls.getD 0 0\/x.b=ls.getD 0 0)) ⟨[],[],[],_,_,_,_,_,_,rfl,s2.trans (δ.new _ ZK),δ.new _ ZK _ _ e2,ay,.nil,⟨rfl,λi r h=>by cases h⟩,Put.nil _,λ_ x hx=>by cases hx⟩ ?_ ?_
  .rintro i M J N hN hi ⟨o,u,j,v4,v6,v7,v8,v9,G,rfl,s3,l3,o3,ro3,R,P,hst⟩;have k0:(1:Int)<=1+(i:Int):=(by lia);have k1:1+(i:Int)<m:=(by lia);generalize hk:(1:Int)+(i:Int)=e at k0 k1 ⊢;have cv:o.length=u.length:=Paired.length ro3;have rl:=R.len;have pl:=P.len;refine cL λM1 j1=>?_;walk_at "";refine Υ (s3 _ _ ha) (WD (by lia) (by lia)) ⟨_,rfl,⟨by lia,by lia⟩,j1 _ _ (cL λM2 j2=>?_)⟩;clear j1;generalize C.getD (e+1).toNat 0/(e+1)=w;have hg:=Y w e (by lia);obtain⟨un,O,u0,u1⟩:∃un:Int,ϲ [V.int (e-1),V.int 0,V.int (w%e),V.int (w%e)] (c/1190%4)=some (.int un)/\0<=un/\un<e:=by
    rcases(show c/1190%4=0\/c/1190%4=1\/c/1190%4=2\/c/1190%4=3 by lia)with z|z|z|z
    .exact⟨_,by rw[z];rfl,by lia,by lia⟩
    .exact⟨_,by rw[z];rfl,by lia,by lia⟩
    .exact⟨_,by rw[z];rfl,hg.1,hg.2⟩
    .exact⟨_,by rw[z];rfl,hg.1,hg.2⟩
   walk_at "";refine⟨by lia,by lia,cm (by simp),λq1 bs=>⟨⟨by decide,by decide⟩,by decide,?_⟩⟩;have s4:=δ.new (.lst [.int (e-1),.int 0,.int (w%e),.int (w%e)]) bs;refine Υ ay O (j2 _ _ (cL λM3 j3=>?_));generalize upd J q1 (.lst [.int (e-1),.int 0,.int (w%e),.int (w%e)])=H4 at s4 ⊢;clear j2;walk_at "";refine⟨⟨by lia,by lia⟩,j3 _ _ (cL λM4 j4=>?_)⟩;clear j3;walk_at "";refine⟨_,rfl,λW t0 t1=>j4 _ _ (cL λM5 j5=>?_)⟩;clear j4;walk_at "";refine⟨⟨by decide,by decide⟩,_,rfl,λB b0 b1=>j5 _ _ (cL λM6 j6=>?_)⟩;clear j5;have gk:ϲ (ls.map V.int) e=some (.int (ls.getD e.toNat 0)):=cT (by lia) (by rw[aA,sB L' (by lia)];rfl);have gu:ϲ (ls.map V.int) un=some (.int (ls.getD un.toNat 0)):=cT u0 (by rw[aA,sB L' (by lia)];rfl);have l4:=s4 _ _ l3;have ac:∀B:Int,2<=B->B<=1000000->M6 [some (V.ref a),some (V.int c),some (V.int m),some (V.ref U),some (V.int e),some (V.ref lo),some (V.int (w/e)),some (V.int un),some (V.int W),some (V.int B),G] H4:=λB b0 b1=>by
    refine j6 _ _ (cL λM7 j7=>?_);walk_at "";refine⟨⟨by decide,by decide⟩,⟨by decide,by decide⟩,j7 _ _ (cL λM8 j8=>?_)⟩;generalize w/e/7999992/7999992=rest;clear j6 j7;walk_at "";have ai:∀(x y z:Int),2<=x->x<=1000000->2<=y->y<=1000000->Yu ⟨e,un,x,y,z,0⟩:=λx y z a b c d=>⟨u0,u1,a,b,c,d,ce _,by show(0:Int)<e;lia⟩;have e1:∀x y:Int,lG (mX ls ⟨e,un,x,y,1,0⟩)=[V.int (ls.getD un.toNat 0),V.int (ls.getD e.toNat 0),V.int x,V.int y]:=λx y=>by unfold mX;rw[aj rfl];rfl
    have bp:∀x y:Int,lG (mX ls ⟨e,un,x,y,0,0⟩)=[V.int (ls.getD e.toNat 0),V.int (ls.getD un.toNat 0),V.int x,V.int y]:=λx y=>by unfold mX;rw[ag (show ¬(0:Int)=1 by decide)];rfl
    refine Υ l4 gu (Υ l4 gk ⟨cm (by simp),λq2 a2=>j8 _ _ (cL λM9 j9=>?_)⟩);have S:=s4.trans (δ.new (.tup [V.int (ls.getD un.toNat 0),V.int (ls.getD e.toNat 0),V.int W,V.int B]) a2);have l5:=S _ _ l3;have put:∀(Z:Hp)(q:Addr)(f:Row),δ J Z->f.k=e->f.un=un->Yu f->Z q=some (.tup (lG (mX ls f)))->M9 [some (V.ref a),some (V.int c),some (V.int m),some (V.ref U),some (V.int e),some (V.ref lo),some (V.int rest),some (V.int un),some (V.int W),some (V.int B),some (V.ref q)] Z:=by
     intro Z q f s7 rk ru a0 hq;refine j9 _ _ ?_;walk_at "";have o7:=s7 _ _ o3;have pe:=Y (rest/2) (((o.map V.ref).length:Int)+1) (by lia);refine⟨Io o7,⟨by decide,by decide⟩,o.map V.ref,.inl (ξ.of o7),by lia,Sr o7 pe.1 (by lia) (d5 (by rw[aa];lia)) ?_⟩;generalize (rest/2%(((o.map V.ref).length:Int)+1)).toNat=n;have I:∀{zs:List V}{q:Addr}{r':Road},Z q=some (.tup (lG r'))->upd Z lo (.lst zs) q=some (.tup (lG r')):=λ{zs q r'} h=>by rw[aR (gV h o7 (by intro z;cases z))];exact h
     refine hN _ _ ⟨o.take n++q::o.drop n,u.take n++mX ls f::u.drop n,j++[f],_,_,_,_,_,_,rfl,(s3.trans s7).put ae _,by rw[aR XS];exact s7 _ _ l3,by rw[ay,aw,aq,mT,jZ],?_,Lx R (by lia) a0,P.step f n,λz x hx=>?_⟩
     rotate_left
     .have ajP:un=0:=by
       rw[z]at O;have:V.int 0=V.int un:=bi O;injection this with this
       exact this.symm
      rcases aY.mp hx with hx|hx
      .exact hst z x (fU hx)
      .rcases ax.mp hx with rfl|hx
       .unfold mX;rw[ru,ajP];split
        .exact .inl rfl
        .exact .inr rfl
       .exact hst z x (b5 hx)
     exact Tj n (Paired.imp' (λp r h=>I h) (ν.same s7 ro3)) (I hq)
    walk_at "";refine⟨by decide,?_⟩;by_cases y2:rest%2=1
    .rw[aj y2];exact Υ l5 gk (Υ l5 gu ⟨cm (by simp),λq3 bl=>put _ q3 ⟨e,un,B,W,0,0⟩ (S.trans (δ.new _ bl)) rfl rfl (ai _ _ _ b0 b1 t0 t1) (by rw[ay,bp])⟩)
    .rw[ag y2];exact put _ q2 ⟨e,un,W,B,1,0⟩ S rfl rfl (ai _ _ _ t0 t1 b0 b1) (by rw[ay,e1])
   walk_at "";refine⟨⟨by decide,by decide⟩,by decide,?_⟩;by_cases y1:c/4760%3=0
   .rw[aj y1];exact ac W t0 t1
   .rw[ag y1];exact ac B b0 b1
  .rintro M J ⟨o,u,j,v4,v6,v7,v8,v9,G,rfl,s3,l3,o3,ro3,R,P,hst⟩;have g:=RX (n:=m.toNat) (by lia) (by lia) L' (by rw[show m.toNat-1=(m-1).toNat by lia];exact R) P;rw[br (by lia)]at g;walk_at "";refine⟨cm (by simp),λt nt=>?_⟩;have S:=δ.new (.tup [.int m,.ref lo]) nt;exact k t lo m o u _ (s3.free nt) ae (s3.trans S) ay (S _ _ o3) (ν.same S ro3) g hm λz=>⟨_,hst z⟩
def smR(b:Int)(x:Road):Road:=⟨x.a,x.b,2+x.t%2*b,2+x.u%2*b⟩
theorem OP{m b:Int}{c:hU}(g:Good m c)(b0:0<=b)(b1:b<=1):Good m (c.map (smR b))/\∀x∈c.map (smR b),x.t<=2+b/\x.u<=2+b:=by
 have e:∀z:Int,0<=z%2*b/\z%2*b<=b:=λz=>by
  have f:=dH z (show(2:Int)≠0 by decide);have h:=cR z (show(0:Int)<2 by decide);refine⟨cX f b0,?_⟩;have:=bu (show z%2<=1 by lia) b0
  lia
 refine⟨⟨g.m1,g.Ο,by rw[aa];exact g.len,λx d=>?_,λS j i=>g.jn S j λy a=>i (smR b y) (aP.mpr ⟨y,a,rfl⟩)⟩,λx d=>?_⟩
 .obtain⟨y,a,rfl⟩:=aP.mp d;have o:=g.ok y a;have f:=e y.t;have h:=e y.u;exact⟨o.a0,o.a1,o.b0,o.b1,o.ne,by show 2<=2+_;lia,by show 2+_<=1000000;lia,by show 2<=2+_;lia,by show 2+_<=1000000;lia⟩
 .obtain⟨y,a,rfl⟩:=aP.mp d;have f:=e y.t;have h:=e y.u;exact⟨by show 2+_<=2+b;lia,by show 2+_<=2+b;lia⟩
theorem Fe{H:Hp}{q:Addr}{x:Road}(e:H q=some (.tup (lG x))):∀{b:gw}{a:hU},ν H b a->ν H (b++[q]) (a++[x])
 | _,_,.nil=>.cons e .nil
 | _,_,.cons y ys=>.cons y (Fe e ys)
def wO(T:Txt K X):Sp:=λf H Q _=>E3 λ(a:Addr)(n:Int)(d:f3)=>f=[.ref a]/\H a=some (.lst ((n::d).map V.int))/\25<=d.length/\d.length<=999/\∀(t l:Addr)(m:Int)(e:gw)(c:hU)(b:Hp),H t=none->H l=none->δ H b->b t=some (.tup [.int m,.ref l])->b l=some (.lst (e.map V.ref))->ν b e c->Good m c->m<=4->(∀x∈c,x.t<=3/\x.u<=3/\(m=4->x.t<=2/\x.u<=2))->Q (.ref t) b
abbrev qX:Stmt:=top 81
theorem GI:η ["numbers","head","many","roads","told","one","other","there","back"] ["numbers"] (aK qX):=.of
theorem FG(T:Txt K X)(hq:cg (Ε P w))(wS:Cb P w K X base "_law_web" rj ["numbers"] 2 (Bz T)):Ok P w K X base "_law_small" qX ["numbers"] 3 (wO T):=λ_ _ D=>by
 refine D.F.Ϙ GI (by walk_at "v") λΑ A a1 s H vs Q E hr h=>?_;obtain⟨a,n,f,rfl,ha,cn,n1,k⟩:=h;refine⟨_,(aD (Δ 1 (bn eP (bn fQ (Ι bL (ε 0) aU) aU) (bn me (bn fQ (bn gO (Ι bL (ε 0) aU) aU) aU) aU))) (aD (nP (Ν wS hr hq (ah (bn GJ (eD (ah (ε 1) aB)) (Gb IQ (ε 0) (IZ aU) Ii)) aB)) (kM (n:=2) rfl (cz (ϒ 2) (cz (ϒ 3) iM)))) (aD (Δ 4 (eD aB)) (aD (fm PassesOwn.never rfl (gY (ε 3)) (kM (n:=4) rfl (cz (ϒ 5) (cz (ϒ 6) (cz (ϒ 7) (cz (ϒ 8) iM))))) (aO (dq (iU PySem.F.plainAttrs_list PySem.F.slot_list_append PySem.F.type_list_append fN (ε 4) (ah (jR (ah (ε 5) (ah (ε 6) (ah (bn eP aU (bn me (bn fQ (ε 7) aU) (Za xa T.int (ah (m6 qd (ε 2) aU (m5 _)) aB)))) (ah (bn eP aU (bn me (bn fQ (ε 8) aU) (Za xa T.int (ah (m6 qd (ε 2) aU (m5 _)) aB)))) aB))))) aB))))) (aO (bQ (jR (ah (ε 2) (ah (ε 4) aB))))))))),?_⟩;walk_at "s";refine cL λN1 W=>?_;walk_at "";have g0:=WD (xs:=n::f) (i:=0) (by decide) (by rw[aF];lia);refine Υ ha g0 ⟨_,rfl,by decide,Υ ha g0 ⟨_,rfl,⟨by decide,by decide⟩,by decide,.inr ⟨by decide,by decide⟩,W _ _ (cL λN2 h2=>?_)⟩⟩;have c0:=dH ((n::f).getD (Int.toNat 0) 0) (show(4:Int)≠0 by decide);have c1:=cR ((n::f).getD (Int.toNat 0) 0) (show(0:Int)<4 by decide);generalize (n::f).getD (Int.toNat 0) 0%4=c at c0 c1 ⊢;generalize (n::f).getD (Int.toNat 0) 0/4%12=d;unfold tSl Kg Xe;walk_at "";refine⟨cm (by simp),λp np=>?_⟩;obtain⟨e,af⟩:∃e,e=c+d*1190:=⟨_,rfl⟩;rw[<-af];have s1:=δ.new (HO.lst [V.int e]) np;have e1:upd H p (HO.lst [V.int e]) p=some (.lst [V.int e]):=ay;generalize upd H p (HO.lst [V.int e])=H1 at s1 e1 ⊢;refine⟨a,_,rfl,ξ.of (s1 _ _ ha),λl2 n2=>?_⟩;rw[Lj _ (by decide)];have s2:=δ.new (HO.lst (((n::f).map V.int).drop (1:Int).toNat)) n2;have e2:upd H1 l2 (HO.lst (((n::f).map V.int).drop (1:Int).toNat)) l2=some (.lst (f.map V.int)):=ay;have J:=s2 _ _ e1;generalize upd H1 l2 (HO.lst (((n::f).map V.int).drop (1:Int).toNat))=H2 at s2 e2 J ⊢;refine VY J e2 (cm (by rw[aa];show 1+f.length<=_;lia)) λZ n3=>?_;have Y3:=(s1.trans s2).trans (δ.new (HO.lst ([V.int e]++f.map V.int)) n3);have Y:upd H2 Z (HO.lst ([V.int e]++f.map V.int)) Z=some (.lst ((e::f).map V.int)):=ay;generalize upd H2 Z (HO.lst ([V.int e]++f.map V.int))=H3 at Y3 Y ⊢;refine⟨Z,e::f,rfl,Y,by rw[aF];lia,by rw[aF];lia,λt l m ps S H4 nt nl s4 et el ro g hm _=>?_⟩;have em:m=1+c:=by
  have hm:(e/7%10=9/\m=8+e/70%17)\/(¬e/7%10=9/\m=1+e%7):=hm
  lia
 have m4:m<=4:=by lia
 have Y4:=Y3.trans s4;refine⟨t,rfl,_,Ξ.of et,rfl,_,_,rfl,_,_,rfl,rfl,h2 _ _ (cL λN3 h3=>?_)⟩;walk_at "";refine⟨by decide,λlt u=>h3 _ _ (cL λN4 h4=>?_)⟩;have O:=Y4.free u;obtain⟨b,eb⟩:∃b:Int,b=if m<4 then 1 else 0:=⟨_,rfl⟩;have b0:0<=b:=by rw[eb];split<;>lia
 have b1:b<=1:=by rw[eb];split<;>lia
 walk_at "";have b2:H4 lt=none:=u;have s5:=δ.new (.lst []) u;have G:=s5 _ _ el;have C:=ν.same s5 ro;have R:upd H4 lt (HO.lst []) lt=some (.lst []):=ay;have M:=Y4.trans s5;generalize upd H4 lt (HO.lst [])=H5 at s5 G C R M ⊢;have rl:=C.length;have ml:ps.length<=24:=by have:=g.len;lia
 refine⟨⟨_,ξ.of G⟩,?_⟩;refine mG (K:=K) (xs:=ps.map V.ref) (λi U o=>δ H o/\o l=some (.lst (ps.map V.ref))/\ν o ps S/\E5 λ(I:gw)(v5 v6 v7 v8:Option V)=>o lt=some (.lst (I.map V.ref))/\ν o I ((S.take i).map (smR b))/\U=[some (V.ref a),some (V.int e),some (V.int m),some (V.ref l),some (V.ref lt),v5,v6,v7,v8]) ⟨M,G,C,[],_,_,_,_,R,.nil,rfl⟩ (λi U o _ z=>ξ.of z.2.1) ?_ ?_
 .rintro i x U o N BB ϗ hN6 hi ⟨s6,el6,ro6,I,v5,v6,v7,v8,es6,ro7,rfl⟩;obtain⟨q,x,rfl,e1,e2,Y⟩:=ro6.get hi;have et:S.take (i+1)=S.take i++[x]:=by rw[bK,e2];rfl
  have ql:I.length<=24:=by
   have W:=ro7.length;rw[aa,bq]at W
   lia
  refine ϗ _ _ ?_;walk_at "";refine⟨_,Ξ.of Y,rfl,_,_,rfl,_,_,rfl,_,_,rfl,_,_,rfl,rfl,Io es6,_,rfl,by decide,.inr ?_⟩;rw[<-eb];have cb:∀z:Int,WL (z%2) b:=λz=>.inr ⟨by lia,by lia⟩;refine⟨cb _,_,rfl,by decide,.inr ⟨cb _,cm (by simp),λq2 an=>?_⟩⟩;have j:=δ.new (.tup (lG (smR b x))) an;refine o9 (j _ _ es6) (d5 (by rw[aa];lia)) ?_;have v:∀{q:Addr}{y:Road},upd o q2 (HO.tup (lG (smR b x))) q=some (.tup (lG y))->∀zs,upd (upd o q2 (HO.tup (lG (smR b x)))) lt (.lst zs) q=some (.tup (lG y)):=λ{q y} h zs=>by rw[aR (gV h (j _ _ es6) (by intro z;cases z))];exact h
  have XS:l≠lt:=λz=>by subst z;rw[u]at el;cases el
  refine hN6 _ _ ⟨(s6.trans j).put O _,by rw[aR XS];exact j _ _ el6,Paired.imp' (λp r h=>v h _) (ν.same j ro6),I++[q2],_,_,_,_,by rw[ay,aw];rfl,?_,rfl⟩;rw[et,aw];exact Fe (v ay _) (Paired.imp' (λp r h=>v h _) (ν.same j ro7))
 .rintro B U o hB ⟨s6,el6,ro6,I,v5,v6,v7,v8,es6,ro7,rfl⟩;refine hB _ _ (h4 _ _ ?_);walk_at "";refine⟨cm (by simp),λt5 L=>?_⟩;have j:=δ.new (.tup [V.int m,V.ref lt]) L;rw[aa,rl,bx]at ro7;obtain⟨g2,gt⟩:=OP g b0 b1;refine k t5 lt m I _ _ (s6.free L) O (s6.trans j) ay (j _ _ es6) (ν.same j ro7) g2 m4 λy hy=>?_;have W:=gt y hy;refine⟨by lia,by lia,λz=>?_⟩;rw[ag (by lia)]at eb;exact⟨by lia,by lia⟩
def xf(T:Txt K X):Sp:=λa H Q _=>∃i:Int,a=[.int i]/\Q (.bl true) H
abbrev ng:Stmt:=top 79
theorem Gi:η ["found"] ["found"] (aK ng):=.of
theorem pj:Ϝ (aK ng) "int":=.of (by kernel_rfl)
theorem oH:Ϝ (aK ng) "bool":=.of (by kernel_rfl)
theorem GD(T:Txt K X)(j:cg (Ε P w)):Ok P w K X base "_law_whole" ng ["found"] 1 (xf T):=λ_ _ D=>by
 refine D.F.Ϙ Gi (by walk_at "v") λc A a s H e Q E f h=>?_;obtain⟨i,rfl,k⟩:=h;refine⟨_,(aO (bQ (AX (W6 uh T.isinstance (ah (ε 0) (ah (Cn (v:=.ty "int") pj.g T.int T3 rfl (hn:=pj.n) (hd:=pj.d)) aB))) (AI (UI (W6 uh T.isinstance (ah (ε 0) (ah (Cn (v:=.ty "bool") oH.g T.bool RD rfl (hn:=oH.n) (hd:=oH.d)) aB)))))))),?_⟩;walk_at "s";walk_at "";refine⟨_,_,_,true,rfl,.int i,λb h=>by cases h;rfl,_,rfl,?_⟩;rw[aj rfl];refine⟨_,_,_,false,rfl,.int i,λb h=>by cases h;rfl,_,rfl,?_⟩;exact k
def qg(T:Txt K X):Sp:=λb H Q E=>E7 λ(p t:Addr)(m:Int)(c:gw)(a:hU)(r x:Int)=>b=[.ref p,.int r,.int x]/\χ T.Web H p m t c a/\(0<=r->r<m->1<=x->Q .ω H)/\(¬(0<=r/\r<m)->E (.ref T.NoPlace) none H)/\(0<=r->r<m->x<1->E (.ref T.BadWish) none H)
abbrev kt:Stmt:=top 38
theorem BR:η ["web","r","wanted"] ["web","r","wanted"] (aK kt):=.of
theorem oF:Ϝ (aK kt) "BadWish":=.of (by kernel_rfl)
theorem Bs(T:Txt K X)(o:cg (Ε P w))(i:jm P w base T):Ok P w K X base "check_wanted" kt ["web","r","wanted"] 3 (qg T):=λ_ _ D=>by
 refine D.F.W4 BR (by walk_at "v") λq A a s H u Q E j h=>?_;obtain⟨p,t,m,n,f,r,x,rfl,W,k,e,l⟩:=h;refine⟨_,(aD (dq (ϡ i j dR (ah (ε 0) (ah (ε 1) aB)))) (aO (eK (Ϻ qd (ε 2) aU) (aO (oY T.xk rfl qG oF.g T.Mz (ah sH aB) (hdb:=oF.d))) dy))),?_⟩;walk_at "s";walk_at "";refine⟨p,t,m,n,f,r,rfl,W,λc b=>?_,e⟩;show if x<1 then _ else _;by_cases z:x<1
 .rw[aj z];exact⟨by decide,l c b z⟩
 .rw[ag z];exact k c b (by lia)
def yV(T:Txt K X):Sp:=λi H Q E=>E10 λ(p b t:Addr)(c:Bool)(m:Int)(h:gw)(e:hU)(d:f3)(r w:Int)=>i=[.ref p,.int r,.int w,.ref b]/\χ T.Web H p m t h e/\Ϫ K c H b (d.map V.int)/\(d.length:Int)=m/\(∀x∈d,x.natAbs<2^4000)/\(w-1).natAbs<2^4000/\(0<=r->r<m->1<=w->∃a f,ζ m e r a f/\∀g,δ H g->Q (.int (gE m e r a d w)) g)/\(¬(0<=r/\r<m)->E (.ref T.NoPlace) none H)/\(0<=r->r<m->w<1->E (.ref T.BadWish) none H)
abbrev pW:Stmt:=top 37
theorem yN:η ["web","r","wanted","weights","bound","place","front"] ["web","r","wanted","weights"] (aK pW):=.of
theorem yk:Zt (aK pW) "bound":=.of (by kernel_rfl)
abbrev p6(P w base)(T:Txt K X):=Cb P w K X base "check_wanted" kt ["web","r","wanted"] 3 (qg T)
theorem G7(T:Txt K X)(hq:cg (Ε P w))(kC:p6 P w base T)(jK:ly P w base T)(kD:ky P w base T):Ok P w K X base "bound_by" pW ["web","r","wanted","weights"] 8 (yV T):=λ_ _ D=>by
 refine D.F.W4 yN (by walk_at "v") λΑ A S s H vs Q E G h=>?_;obtain⟨p,b,t,c,m,I,f,xs,r,w,rfl,W,hb,xl,xb,wb,k,e,e'⟩:=h;have g:=W.go;refine⟨_,(aD (dq (ϡ kC G dR (ah (ε 0) (ah (ε 1) (ah (ε 2) aB))))) (aD (Δ 4 (bn pI (Ι (Fu c) (ε 3) (ε 1)) (bn iI (ε 2) aU))) (aD (fm PassesOwn.leaving rfl (gY (ϡ jK G dR (ah (ε 0) (ah (ε 1) aB)))) (kM (n:=2) rfl (cz (ϒ 5) (cz (ϒ 6) iM))) (aO (sL (i:=4) yN.nd rfl (Or.inl yk.l) (bn me (Ι (Fu c) (ε 3) (ε 5)) (bn iI (ϡ kD G dR (ah (ε 0) (ah (ε 5) (ah (ε 6) aB)))) aU)) wz))) (aO (bQ (ε 4)))))),?_⟩;walk_at "s";walk_at "";refine⟨p,t,m,I,f,r,w,rfl,W,λC Y w1=>?_,e,e'⟩;obtain⟨a,U,R,k⟩:=k C Y w1;have gr:=WD (xs:=xs) C (by lia);have hm:=Rv (cs:=xs) (i:=r.toNat) (by lia);refine ixX hb gr ⟨_,rfl,S6 (xb _ hm) wb,?_⟩;refine⟨p,t,m,I,f,r,?_⟩;refine an4 rfl W (λ_ _=>⟨a,U,R,λl2 Z tl H2 _ n2 L e2 pa O=>?_⟩) (λz=>absurd ⟨C,Y⟩ z);refine⟨l2,rfl,⟨_,ξ.of e2⟩,?_⟩;have ql:Z.length=tl.reverse.length:=Paired.length pa;refine mG (K:=K) (xs:=Z.map V.ref) (λi j o=>o=H2/\∃(M B:Option V),j=[some (V.ref p),some (V.int r),some (V.int w),some (V.ref b),some (V.int (xs.getD r.toNat 0*(w-1)+((tl.reverse.take i).map (Zv f a xs)).sum)),M,B]) ⟨rfl,_,_,by rw[fh,d6,List.sum_nil,lq]⟩ (λi j o _ z=>by rw[z.1];exact ξ.of e2) ?_ ?_
 .rintro i x j o N BB ϗ hN hx ⟨rfl,M,B,rfl⟩;refine ϗ _ _ ?_;obtain⟨q,v,rfl,hq,hv,eq⟩:=pa.get hx;have J:=dM.mp (aQ hv);have d:=O.Χ v J;have u:=R.up v d.1 d.2 (O.ne J);obtain⟨kk,y,k0,k1⟩:=oh g R d.1 d.2 (O.ne J);walk_at "";refine⟨_,Ξ.of eq,rfl,_,_,rfl,_,_,rfl,rfl,?_⟩;refine ixX (δ.WZ L hb) (WD d.1 (by lia)) ?_;refine⟨p,t,m,I,f,v,a v,rfl,W.same L,λk' _ _ _ _ h=>?_,λz=>absurd ⟨d,u.1⟩ z,λ_ _ _ _ z=>by rw[y]at z;cases z⟩;rw[y]at h;cases h;refine⟨_,rfl,_,rfl,.inr ⟨by lia,by lia⟩,hN _ _ ⟨rfl,some (V.int v),some (V.int (a v)),?_⟩⟩;rw[Gm hv];unfold Zv;rw[y,Int.add_assoc]
  rfl
 .rintro BB j o ϗ ⟨rfl,M,B,rfl⟩;refine ϗ _ _ ?_;rw[aa,ql,bx,d9,List.sum_reverse,O.sums];walk_at "";exact k _ L
def tU(T:Txt K X):Sp:=λe H Q E=>E7 λ(p t:Addr)(m:Int)(f:gw)(d:hU)(r w:Int)=>e=[.ref p,.int r,.int w]/\χ T.Web H p m t f d/\w<=10^60/\-(10^60)<=w/\(0<=r->r<m->1<=w->∃b c,ζ m d r b c/\∀a,δ H a->Q (.int (gE m d r b (dD m d r b c) w+1)) a)/\(¬(0<=r/\r<m)->∀a,δ H a->E (.ref T.NoPlace) none a)/\(0<=r->r<m->w<1->∀a,δ H a->E (.ref T.BadWish) none a)
abbrev qH:Stmt:=top 40
theorem Lk:η ["web","r","wanted"] ["web","r","wanted"] (aK qH):=.of
theorem Mo(T:Txt K X)(L:cg (Ε P w))(y:Cb P w K X base "bound_by" pW ["web","r","wanted","weights"] 8 (yV T))(J:mn P w base T):Ok P w K X base "enough" qH ["web","r","wanted"] 9 (tU T):=λ_ _ D=>by
 refine D.F.W4 Lk (by walk_at "v") λM A n s H N Q E q h=>?_;obtain⟨p,t,m,i,a,r,w,rfl,W,C,x,k,e,G⟩:=h;have g:=W.go;have m1:=g.m1;refine⟨_,(aO (bQ (bn eP (ϡ y q dR (ah (ε 0) (ah (ε 1) (ah (ε 2) (ah (ϡ J q dR (ah (ε 0) (ah (ε 1) aB))) aB))))) aU))),?_⟩;walk_at "s";walk_at "";refine⟨p,t,m,i,a,r,rfl,W,λd c=>?_,e⟩;have v:(w-1).natAbs<2^4000:=JB x C;by_cases j:1<=w
 .obtain⟨par,dep,R,k⟩:=k d c j;refine⟨par,dep,R,λl u nl b f=>?_⟩;have o:((dD m a r par dep).length:Int)=m:=by rw[qw];lia
  exact⟨p,l,t,true,m,i,a,dD m a r par dep,r,w,rfl,W.same b,ξ.of f,o,DE g R,v,λ_ _ _=>⟨par,dep,R,λB I=>⟨_,rfl,k B (b.trans I)⟩⟩,λz=>absurd ⟨d,c⟩ z,λ_ _ z=>absurd j (by lia)⟩
 .obtain⟨par,dep,R⟩:=AG g d c;refine⟨par,dep,R,λl u nl b f=>?_⟩;have o:((dD m a r par dep).length:Int)=m:=by rw[qw];lia
  exact⟨p,l,t,true,m,i,a,dD m a r par dep,r,w,rfl,W.same b,ξ.of f,o,DE g R,v,λ_ _ z=>absurd z j,λz=>absurd ⟨d,c⟩ z,λ_ _ z=>G d c z u b⟩
def fV(m:Int)(a:f3):Bool:=decide ((a.length:Int)=m)&&a.all λx=>decide (0<=x)
theorem DN{m:Int}{a:f3}(h:(a.length:Int)=m)(b:∀x∈a,0<=x):fV m a=true:=by
 unfold fV;rw[bh h,i9,dX];exact λx c=>bh (b x c)
theorem Vy{m:Int}{a:f3}(h:fV m a=true):(a.length:Int)=m:=by
 unfold fV at h;rw[b9]at h;exact bN h.1
theorem MU{m:Int}{a:f3}(h:fV m a=true):∀x∈a,0<=x:=by
 unfold fV at h;rw[b9,dX]at h;exact λx b=>bN (h.2 x b)
def wN(T:Txt K X):Sp:=λf H Q _=>E8 λ(p a t:Addr)(c:Bool)(m:Int)(g:gw)(e:hU)(b:f3)=>f=[.ref p,.ref a]/\χ T.Web H p m t g e/\Ϫ K c H a (b.map V.int)/\b.length<=1000/\∀d,δ H d->Q (.bl (fV m b)) d
abbrev qO:Stmt:=top 25
theorem FO:η ["web","numbers"] ["web","numbers"] (aK qO):=.of
theorem EX(T:Txt K X)(G:cg (Ε P w)):Ok P w K X base "is_filled" qO ["web","numbers"] 1 (wN T):=λ_ _ D=>by
 refine D.F.Ϙ FO (by walk_at "v") λJ A o s H L Q E B h=>?_;obtain⟨p,a,t,c,m,C,u,xs,rfl,W,g,I,k⟩:=h;refine⟨_,(aO (bQ (AX (m6 jU (W6 kF T.len (ah (ε 1) aB)) (dB (ε 0) rfl) (m5 _)) (AI (W6 (Fq rfl) T.all (ah (gZ rfl (tx (Nc:=["number"]) 1 (by decide +kernel) (by decide +kernel) rfl (by decide +kernel) rfl) (Lm c (ε 1)) (λ_ _ _ _=>(fe (i:=0) (show(["number"]:hD).Nodup from by decide +kernel) rfl (Or.inl rfl))) (λ_ _ _ _=>jg) (λ_ _ _ _=>(m6 Vz (pv 0) aU (m5 _)))) aB)))))),?_⟩;walk_at "s";walk_at "";obtain⟨q,ob⟩:=W.ob;have n:ξ K H a (xs.map V.int)\/Ξ K H a (xs.map V.int):=by
  cases c
  .exact .inr g
  .exact .inl g
 refine⟨_,n,T.Web,q,_,ob,T.lu,T.ϕ,_,jV m t,rfl,?_⟩;rw[aa];by_cases j:(xs.length:Int)=m
 .rw[aj (by rw[j])];refine⟨⟨_,g⟩,λl nl=>?_⟩;refine lQ (K:=K) (c:=c) (xs:=xs.map V.int) (λi d f b=>δ H b/\b l=some (.lst d)/\d=((xs.take i).map λx=>decide (0<=x)).map V.bl/\∃v,f=[v]) ⟨δ.new _ nl,ay,rfl,_,rfl⟩ (λi d f b _ z=>δ.WZ z.1 g) ?_ ?_
  .rintro i x d f b N hN hx ⟨s2,e2,rfl,v,rfl⟩;rw[aA]at hx;obtain⟨y,r,rfl⟩:=eI.mp hx;walk_at "";refine⟨e2,d5 (by rw[aa,aa,bq];lia),hN _ _ _ ⟨s2.put nl _,ay,?_,_,rfl⟩⟩;rw[bK,r,aw,aw]
   rfl
  .rintro d f b ⟨s2,e2,rfl,v,rfl⟩;refine⟨l,rfl,_,ξ.of e2,?_⟩;have e:(((xs.take (xs.map V.int).length).map λx=>decide (0<=x)).all id)=fV m xs:=by
    rw[aa,bx,List.all_map];unfold fV;rw[bh j,i9]
    rfl
   rw[e];exact k _ s2
 .rw[ag (λz=>j (by injection z))];have e:fV m xs=false:=by
   unfold fV;rw[bA j,iZ]
  rw[e]at k;exact k H (δ.refl _)
def tj(T:Txt K X):Sp:=λf H Q E=>E8 λ(p a t:Addr)(c:Bool)(m:Int)(g:gw)(e:hU)(d:f3)=>f=[.ref p,.ref a]/\χ T.Web H p m t g e/\Ϫ K c H a (d.map V.int)/\d.length<=1000/\(fV m d=true->∀l b,δ H b->(b l=some (.tup (d.map V.int))\/(c=false/\l=a))->Ξ K b l (d.map V.int)->Q (.ref l) b)/\(fV m d=false->∀b,δ H b->E (.ref T.BadLaying) none b)
abbrev m8:Stmt:=top 24
theorem FB:η ["web","numbers"] ["web","numbers"] (aK m8):=.of
theorem oO:Ϝ (aK m8) "BadLaying":=.of (by kernel_rfl)
theorem Gw(T:Txt K X)(y:cg (Ε P w))(u:Cb P w K X base "is_filled" qO ["web","numbers"] 1 (wN T)):Ok P w K X base "laying_of" m8 ["web","numbers"] 2 (tj T):=λ_ _ D=>by
 refine D.F.W4 FB (by walk_at "v") λB A j s H C Q E r h=>?_;obtain⟨p,a,t,c,m,v,q,i,rfl,W,f,x,k,e⟩:=h;refine⟨_,(aD (eK (kN (my (ϡ u r dR (ah (ε 0) (ah (ε 1) aB))))) (aO (oY T.ue rfl qG oO.g T.GW (ah sH aB) (hdb:=oO.d))) dy) (aO (bQ (Za oW T.tuple (ah (ε 1) aB))))),?_⟩;walk_at "s";walk_at "";refine⟨p,a,t,c,m,v,q,i,rfl,W,f,x,λo b=>⟨_,rfl,?_⟩⟩;by_cases z:fV m i=false
 .rw[aj z];exact⟨by decide,e z o b⟩
 .rw[ag z];have n:fV m i=true:=by simpa using z
  cases c
  .exact⟨_,.inr ⟨δ.WZ (c:=false) b f,k n a o b (.inr ⟨rfl,rfl⟩) (δ.WZ (c:=false) b f)⟩⟩
  .exact⟨_,.inl ⟨δ.WZ (c:=true) b f,λl nl=>k n l _ (b.trans (δ.new _ nl)) (.inl ay) (Ξ.of ay)⟩⟩
def ut(T:Txt K X):Sp:=λi H Q E=>E9 λ(p a t:Addr)(c:Bool)(m:Int)(h:gw)(g:hU)(e:f3)(r:Int)=>i=[.ref p,.ref a,.int r]/\χ T.Web H p m t h g/\Ϫ K c H a (e.map V.int)/\e.length<=1000/\(fV m e=true->0<=r->r<m->∃d f,ζ m g r d f/\∀l b,H l=none->δ H b->b l=some (.lst ((qz m g r d f (λv=>e.getD v.toNat 0) (Η g d)).map V.int))->Q (.ref l) b)/\(fV m e=false->∀b,δ H b->E (.ref T.BadLaying) none b)/\(fV m e=true->¬(0<=r/\r<m)->∀b,δ H b->E (.ref T.NoPlace) none b)
abbrev pZ:Stmt:=top 33
theorem Hy:η ["web","laying","r","counts","place","front"] ["web","laying","r"] (aK pZ):=.of
theorem HX(T:Txt K X)(hq:cg (Ε P w))(jK:ly P w base T)(m7:Cb P w K X base "laying_of" m8 ["web","numbers"] 2 (tj T))(kD:ky P w base T):Ok P w K X base "gathered" pZ ["web","laying","r"] 8 (ut T):=λ_ _ D=>by
 refine D.F.W4 Hy (by walk_at "v") λΑ A ad s H vs Q E U h=>?_;obtain⟨p,a,t,c,m,ps,o,xs,r,rfl,W,ha,hz,k,e,e'⟩:=h;have g:=W.go;have Ο:=g.Ο;refine⟨_,(aD (Δ 3 (Za mB T.list (ah (ϡ m7 U dR (ah (ε 0) (ah (ε 1) aB))) aB))) (aD (fm PassesOwn.leaving rfl (gY (ϡ jK U dR (ah (ε 0) (ah (ε 2) aB)))) (kM (n:=2) rfl (cz (ϒ 4) (cz (ϒ 5) iM))) (aO (RK (ε 3) (ε 5) P2 (bn gO (Ι bL (ε 3) (ε 4)) (ϡ kD U dR (ah (ε 0) (ah (ε 4) (ah (ε 5) aB))))) wz mP))) (aO (bQ (ε 3))))),?_⟩;walk_at "s";walk_at "";refine⟨p,a,t,c,m,ps,o,xs,?_⟩;refine an6 rfl W ha hz (λfi l0 H0 s0 _ e0=>?_) e;have xl:(xs.length:Int)=m:=by
  unfold fV at fi;rw[b9]at fi;exact bN fi.1
 refine⟨l0,rfl,_,.inr e0,λl n1=>?_⟩;have s1:=δ.new (.lst (xs.map V.int)) n1;have f:=s0.trans s1;have nl:=s0.free n1;have M:upd H0 l (.lst (xs.map V.int)) l=some (.lst (xs.map V.int)):=ay;generalize upd H0 l (.lst (xs.map V.int))=H1 at s1 f M ⊢;refine⟨p,t,m,ps,o,r,?_⟩;refine an4 rfl (W.same f) (λr0 r1=>?_) (λz=>e' fi z H1 f);obtain⟨d,B,R,k⟩:=k fi r0 r1;refine⟨d,B,R,λZ J I H2 _ n2 s2 e2 pa O=>?_⟩;have XS:Z≠l:=λz=>by rw[z,M]at n2;cases n2
 refine⟨Z,rfl,⟨_,ξ.of e2⟩,?_⟩;have ql:J.length=I.reverse.length:=Paired.length pa;refine mG (K:=K) (xs:=J.map V.ref) (λi G j=>δ H j/\j Z=some (.lst (J.map V.ref))/\Ζ j d J I.reverse/\E3 λ(C:f3)(S v5:Option V)=>j l=some (.lst (C.map V.int))/\ϙ m o r d B (λv=>xs.getD v.toNat 0) (Η o d) (I.drop (I.length-i)) C/\G=[some (V.ref p),some (V.ref a),some (V.int r),some (V.ref l),S,v5]) ⟨f.trans s2,e2,pa,xs,_,_,s2 _ _ M,by rw[gW,f9];exact ϙ.nil xl,rfl⟩ (λi G j _ z=>ξ.of z.2.1) ?_ ?_
 .rintro i x G j N BB ϗ hN hx ⟨s3,e3,Zc,C,S,v5,c3,so,rfl⟩;refine ϗ _ _ ?_;obtain⟨q,v,rfl,hq,hv,eq⟩:=Zc.get hx;obtain⟨⟨y,vn⟩,ev,Y⟩:=O.turn g R so hv;have u:=R.up v y.1 y.2 vn;obtain⟨kk,L,k0,k1⟩:=oh g R y.1 y.2 vn;have cl:=so.len;walk_at "";refine⟨_,Ξ.of eq,rfl,_,_,rfl,_,_,rfl,rfl,?_⟩;refine Υ c3 (WD u.1.1 (by lia)) (Υ c3 (WD y.1 (by lia)) ?_);refine⟨p,t,m,ps,o,v,d v,rfl,W.same s3,λk' _ _ _ _ h=>?_,λz=>absurd ⟨y,u.1⟩ z,λ_ _ _ _ z=>by rw[L]at z;cases z⟩;rw[L]at h;cases h;refine⟨_,rfl,_,rfl,⟨by lia,by lia⟩,_,rfl,xi c3 u.1.1 (by rw[aa];lia) (hN _ _ ⟨s3.put nl _,?_,?_,ub d (Η o d) C v,_,_,?_,Y,rfl⟩)⟩
  .rw[aR XS];exact e3
  .exact Paired.imp' (λa b h=>by rw[aR (gV h c3 (by intro z;cases z))];exact h) Zc
  .rw[ay,<-gX];unfold ub Η;rw[L]
   rfl
 .rintro BB G j ϗ ⟨s3,e3,Zc,C,S,v5,c3,so,rfl⟩;refine ϗ _ _ ?_;rw[aa,ql,bc,d7,kg]at so;rw[O.done g R so]at c3;walk_at "";exact k l j nl s3 c3
def IR(T:Txt K X):Sp:=λh H Q E=>E9 λ(p a t:Addr)(c:Bool)(m:Int)(i:gw)(g:hU)(e:f3)(r:Int)=>h=[.ref p,.ref a,.int r]/\χ T.Web H p m t i g/\Ϫ K c H a (e.map V.int)/\e.length<=1000/\(fV m e=true->0<=r->r<m->∃d f,ζ m g r d f/\∀b,δ H b->Q (.int (Φ m g r d f (λv=>e.getD v.toNat 0) (Η g d) r)) b)/\(fV m e=false->∀b,δ H b->E (.ref T.BadLaying) none b)/\(fV m e=true->¬(0<=r/\r<m)->∀b,δ H b->E (.ref T.NoPlace) none b)
abbrev Bm:Stmt:=top 34
theorem Sc:η ["web","laying","r"] ["web","laying","r"] (aK Bm):=.of
abbrev sq(P w base)(T:Txt K X):=Cb P w K X base "gathered" pZ ["web","laying","r"] 8 (ut T)
theorem R9(T:Txt K X)(G:cg (Ε P w))(B:sq P w base T):Ok P w K X base "most" Bm ["web","laying","r"] 9 (IR T):=λ_ _ D=>by
 refine D.F.W4 Sc (by walk_at "v") λJ A g s H L Q E q h=>?_;obtain⟨p,a,t,c,m,x,j,o,r,rfl,W,u,z,k,e,v⟩:=h;refine⟨_,(aO (bQ (mQ bL (ϡ B q dR (ah (ε 0) (ah (ε 1) (ah (ε 2) aB)))) (ε 2) (λ_ _=>rfl)))),?_⟩;walk_at "s";walk_at "";refine⟨p,a,t,c,m,x,j,o,r,?_⟩;refine an7 rfl W u z (λfi b i=>?_) e v;obtain⟨d,f,R,k⟩:=k fi b i;refine⟨d,f,R,λl C I n y=>?_⟩;refine Υ y (WD b ?_) ?_
 .unfold qz;rw[aa,b7];lia
 .rw[qD b i];exact k C n
def zX(T:Txt K X):Sp:=λb H Q _=>∃(p:Addr)(a:f3),b=[.ref p]/\(ξ K H p (a.map V.int)\/Ξ K H p (a.map V.int))/\Q (.int a.sum) H
abbrev xZ:Stmt:=top 26
theorem Ow:η ["numbers"] ["numbers"] (aK xZ):=.of
theorem NM(T:Txt K X)(g:cg (Ε P w)):Ok P w K X base "total" xZ ["numbers"] 1 (zX T):=λ_ _ D=>by
 refine D.F.Ϙ Ow (by walk_at "v") λd A a s H e Q E f h=>?_;obtain⟨p,c,rfl,b,k⟩:=h;refine⟨_,(aO (bQ (W6 (vN rfl) T.sum (ah (ε 0) aB)))),?_⟩;walk_at "s";walk_at "";exact⟨c,b,k⟩
def ud(T:Txt K X):Sp:=λi H Q E=>E10 λ(p a t:Addr)(c:Bool)(m:Int)(h:gw)(f:hU)(g:f3)(r w:Int)=>i=[.ref p,.int r,.int w,.ref a]/\χ T.Web H p m t h f/\Ϫ K c H a (g.map V.int)/\g.length<=1000/\w<=10^60/\-(10^60)<=w/\(0<=r->r<m->1<=w->∃b e,ζ m f r b e/\(fV m g=true->∀d,δ H d->Q (.bl (decide (g.sum=gE m f r b (dD m f r b e) w)&&decide (Φ m f r b e (λv=>g.getD v.toNat 0) (Η f b) r<w))) d)/\(fV m g=false->∀d,δ H d->E (.ref T.BadLaying) none d))/\(¬(0<=r/\r<m)->∀d,δ H d->E (.ref T.NoPlace) none d)/\(0<=r->r<m->w<1->∀d,δ H d->E (.ref T.BadWish) none d)
abbrev pP:Stmt:=top 51
theorem Ha:η ["web","r","wanted","laying","least","counts"] ["web","r","wanted","laying"] (aK pP):=.of
abbrev sX(P w base)(T:Txt K X):=Cb P w K X base "enough" qH ["web","r","wanted"] 9 (tU T)
theorem GU(T:Txt K X)(hq:cg (Ε P w))(S:sX P w base T)(V:Cb P w K X base "laying_of" m8 ["web","numbers"] 2 (tj T))(I:Cb P w K X base "most" Bm ["web","laying","r"] 9 (IR T))(Y:Cb P w K X base "total" xZ ["numbers"] 1 (zX T)):Ok P w K X base "is_worst" pP ["web","r","wanted","laying"] 10 (ud T):=λ_ _ D=>by
 refine D.F.W4 Ha (by walk_at "v") λΑ A u s H vs Q E n h=>?_;obtain⟨p,a,t,c,m,q,g,j,r,w,rfl,W,M,y,N,L,J,e,O⟩:=h;refine⟨_,(aD (Δ 4 (ϡ S n dR (ah (ε 0) (ah (ε 1) (ah (ε 2) aB))))) (aD (Δ 5 (ϡ V n dR (ah (ε 0) (ah (ε 3) aB)))) (aO (bQ (AX (m6 jU (ϡ Y n dR (ah (ε 5) aB)) (bn iI (ε 4) aU) (m5 _)) (AI (m6 qd (ϡ I n dR (ah (ε 0) (ah (ε 5) (ah (ε 1) aB)))) (ε 2) (m5 _)))))))),?_⟩;walk_at "s";walk_at "";refine⟨p,t,m,q,g,r,w,rfl,W,N,L,λB x U=>?_,e,O⟩;obtain⟨b,d,R,k,Z⟩:=J B x U;refine⟨b,d,R,λH1 f=>⟨p,a,t,c,m,q,g,j,rfl,W.same f,δ.WZ f M,y,λfi l C i _ v=>?_,λz C i=>Z z C (f.trans i)⟩⟩;have k:=k fi;show zX T _ _ _ _;refine⟨l,j,rfl,.inr v,_,rfl,rfl,?_⟩;rw[Int.add_sub_cancel];by_cases o:j.sum=gE m g r b (dD m g r b d) w
 .rw[aj (by rw[o])];refine⟨p,l,t,false,m,q,g,j,r,rfl,W.same (f.trans i),v,y,λ_ _ _=>⟨b,d,R,λH3 G=>⟨_,rfl,?_⟩⟩,(λz=>by rw[fi]at z;cases z),λ_ z=>absurd ⟨B,x⟩ z⟩;have:=k _ (f.trans (i.trans G));rw[bh o,i9]at this;exact this
 .rw[ag (by intro z;injection z;contradiction)];have:=k _ (f.trans i);rw[bA o,iZ]at this;exact this
def rM(T:Txt K X):Sp:=λe H Q E=>E7 λ(p t:Addr)(m:Int)(f:gw)(d:hU)(r w:Int)=>e=[.ref p,.int r,.int w]/\χ T.Web H p m t f d/\w<=10^60/\-(10^60)<=w/\(0<=r->r<m->1<=w->∃b c,ζ m d r b c/\(gE m d r b (dD m d r b c) w+1<=1000000000000->∀a,δ H a->Q .ω a)/\(1000000000000<gE m d r b (dD m d r b c) w+1->∀a,δ H a->E (.ref T.TooMany) none a))/\(¬(0<=r/\r<m)->∀a,δ H a->E (.ref T.NoPlace) none a)/\(0<=r->r<m->w<1->∀a,δ H a->E (.ref T.BadWish) none a)
abbrev kG:Stmt:=top 55
theorem EF:η ["web","r","wanted"] ["web","r","wanted"] (aK kG):=.of
theorem mY:Ϝ (aK kG) "MOST_PEBBLES":=.of (by kernel_rfl)
theorem pJ:Ϝ (aK kG) "TooMany":=.of (by kernel_rfl)
theorem D6(T:Txt K X)(I:cg (Ε P w))(z:sX P w base T):Ok P w K X base "check_told" kG ["web","r","wanted"] 10 (rM T):=λ_ _ D=>by
 refine D.F.W4 EF (by walk_at "v") λJ A i s H L Q E u h=>?_;obtain⟨p,t,m,y,f,r,w,rfl,W,v,o,k,e,x⟩:=h;refine⟨_,(aO (eK (Dm Q9 (ϡ z u dR (ah (ε 0) (ah (ε 1) (ah (ε 2) aB)))) (vS mY.g T.Wx (hd:=mY.d)) (m5 _)) (aO (oY T.xB rfl qG pJ.g T.LP (ah sH aB) (hdb:=pJ.d))) dy)),?_⟩;walk_at "s";walk_at "";refine⟨p,t,m,y,f,r,w,rfl,W,v,o,λq n B=>?_,e,x⟩;obtain⟨a,b,R,G,C⟩:=k q n B;refine⟨a,b,R,λl j=>?_⟩;refine⟨_,rfl,?_⟩;by_cases c:1000000000000<gE m f r a (dD m f r a b) w+1
 .rw[aj c];exact⟨cm (by simp),C c l j⟩
 .rw[ag c];exact G (by lia) l j
structure Ym(C O:Addr)(H:Hp)(o w tw lk ϻ lr lp ld Wc We:Addr)(m:Int)(ps:gw)(rs:hU)(v k:Int)(c at_:Nat)(cs csk:f3)(fr be:Bool):Prop where
 ob:∃dx fs,H o=some (.ins O dx fs)/\fs.lookup ("web":Str)=some (.ref w)/\fs.lookup ("kids":Str)=some (.ref lk)/\fs.lookup ("rests":Str)=some (.ref lr)
 web:χ C H w m tw ps rs
 v0:0<=v/\v<m
 k0:0<=k/\k<m
 ki:∃(kv:List V)(ks:f3),H lk=some (.lst kv)/\kv[v.toNat]?=some (.ref ϻ)/\H ϻ=some (.lst (ks.map V.int))/\ks[at_]?=some k
 re:E3 λ(rv lv pv:List V)=>H lr=some (.lst rv)/\rv[v.toNat]?=some (.ref lp)/\H lp=some (.lst lv)/\lv[at_+1]?=some (.ref ld)/\rv[k.toNat]?=some (.ref Wc)/\H Wc=some (.lst (.ref We::pv))
 ed:H ld=some (.lst (cs.map V.int))
 ek:H We=some (.lst (csk.map V.int))
 cl:cs.length<=24/\csk.length<=24
 cb:(∀c∈cs,c.natAbs<=2^15000)/\∀c∈csk,c.natAbs<=2^15000
 tl:cN rs k v=some (c:Int)
 c2:2<=c/\c<=1000000
 fb:E7 λ(dx:Addr)(fs:List (Str×V))(lw lb:Addr)(xs:f3)(cv:List V)(ob:Option Int)=>H o=some (.ins O dx fs)/\fs.lookup ("web":Str)=some (.ref w)/\fs.lookup ("weights":Str)=some (.ref lw)/\fs.lookup ("bearers":Str)=some (.ref lb)/\H lw=some (.lst (xs.map V.int))/\(xs.length:Int)=m/\H lb=some (.lst cv)/\cv[v.toNat]?=some (YW ob)/\fr=(decide (xs.getD k.toNat 0*(c:Int)=xs.getD v.toNat 0)&&decide (ob≠some k))/\be=decide (ob=some k)
theorem Ym.same{C O:Addr}{H r:Hp}{o w i q d t s ld g j:Addr}{m:Int}{l:gw}{b:hU}{v k:Int}{c at_:Nat}{f a:f3}{n p:Bool}(e:δ H r)(h:Ym C O H o w i q d t s ld g j m l b v k c at_ f a n p):Ym C O r o w i q d t s ld g j m l b v k c at_ f a n p where
 ob:=let ⟨dx,fs,h1,h2⟩:=h.ob;⟨dx,fs,e _ _ h1,h2⟩
 web:=h.web.same e
 v0:=h.v0
 k0:=h.k0
 ki:=let ⟨kv,ks,h1,h2,h3,h4⟩:=h.ki;⟨kv,ks,e _ _ h1,h2,e _ _ h3,h4⟩
 re:=let ⟨rv,lv,pv,h1,h2,h3,h4,h5,h6⟩:=h.re;⟨rv,lv,pv,e _ _ h1,h2,e _ _ h3,h4,h5,e _ _ h6⟩
 ed:=e _ _ h.ed
 ek:=e _ _ h.ek
 cl:=h.cl
 cb:=h.cb
 tl:=h.tl
 c2:=h.c2
 fb:=let ⟨dx,fs,lw,lb,xs,cv,ob,h1,h2,h3,h4,h5,h6,h7,h8⟩:=h.fb;⟨dx,fs,lw,lb,xs,cv,ob,e _ _ h1,h2,h3,h4,e _ _ h5,h6,e _ _ h7,h8⟩
theorem Ix:∀(a:f3)(i:Nat),i<=a.length->(YY a)[i]?=some (a.drop i)
 | [],0,_=>rfl
 | [],_+1,h=>by cases h
 | _::_,0,_=>rfl
 | _::a,i+1,h=>Ix a i (Nat.le_of_succ_le_succ h)
theorem Q1{d:gb}{a:f3}(h:(a.map λk=>d k+1).sum<=23)(i:Nat):Xm d (a.drop i)<=15000:=sJ (by
 have e:(a.map λk=>d k+1).sum=((a.take i).map λk=>d k+1).sum+((a.drop i).map λk=>d k+1).sum:=by rw[<-c7,<-aw,b8]
 lia)
theorem ϖ.co{C O:Addr}{H:Hp}{o p t:Addr}{m:Int}{I:gw}{d:hU}{r:Int}{a:f5}{b:gb}{j:f3}{ld N J L S:Addr}{kl:gw}{U:List V}(h:ϖ C O H o p t m I d r a b j ld N J L S kl U (λv=>0<=v/\v<m)){v k:Int}{i:Nat}(f:0<=v/\v<m)(hk:(kd m d r a v)[i]?=some k):E7 λ(u B z x y:Addr)(s l:f3)=>Ym C O H o p t L u S B z x y m I d v k (cK d a k) i s l (ϝ m d r a b j k) (Ϩ m d r a b j k)/\Ϗ 15000 s (ς (ϝ m d r a b j) (Ϩ m d r a b j) (λk g=>iD m d r a b j k (τ (cK d a k) g)) ((kd m d r a v).drop (i+1)))/\Ϗ 15000 l (iD m d r a b j k):=by
 have g:=h.web.go;have R:=h.rt;have il:i<(kd m d r a v).length:=(az.mp hk).1;have w:=(bw g R f.1 f.2).mp (aQ hk);have G:((cK d a k:Nat):Int)=tup d a k:=br (by have:=(fT g R w.1.1 w.1.2 w.2.1).1;lia);obtain⟨k',M,t2,t6⟩:=oh g R w.1.1 w.1.2 w.2.1;have ek:((cK d a k:Nat):Int)=k':=by
  rw[G];unfold tup;rw[M]
  rfl
 obtain⟨F,ob⟩:=h.ob;have A:(b6 m.toNat)[v.toNat]?=some v:=by rw[fL (by lia),br f.1]
 obtain⟨u,Xp,W⟩:=tD h.kp A;obtain⟨_,B,ϱ,Y,h2,T,h4⟩:=h.ϛ v f;obtain⟨z,D,s,c1,c2⟩:=tD h4 (Ix (kd m d r a v) (i+1) il);obtain⟨_,x,aT,g1,g2,Z,Q⟩:=h.ϛ k w.1;obtain⟨sr,es⟩:=vL (kd m d r a k);rw[es]at Q;have XT:=jE (fr:=ϝ m d r a b j) (be:=Ϩ m d r a b j) (c:=cK d a) g R w.1.1 w.1.2;cases Q with
 | @cons y _ ldr _ e he=>
   obtain⟨l,d1,d2⟩:=e;have E:=c2.le (b':=15000) (Q1 (by have:=gj g R f.1 f.2;have:=mr g R f.1 f.2;have:=g.Ο;lia) _);have q:=d2.le (b':=15000) (sJ (by have:=gj g R w.1.1 w.1.2;have:=mr g R w.1.1 w.1.2;have:=g.Ο;lia));refine⟨u,B,z,x,y,s,l,⟨⟨F,_,ob,pB _ _ _ _ _ _,p9 _ _ _ _ _ _,oJ _ _ _ _ _ _⟩,h.web,f,w.1,⟨_,_,h.hk,by rw[aA,Xp];rfl,W,hk⟩,⟨_,_,_,h.hr,Y,T,by rw[aA,D];rfl,g1,Z⟩,c1,d1,⟨E.len,q.len⟩,⟨E.bt,q.bt⟩,by rw[ek,<-w.2.2];exact M,by lia,?_⟩,E,⟨q.ne,q.len,q.bt,λn=>(q.val n).trans ?_⟩⟩
   .refine⟨F,_,N,J,dD m d r a b,_,bV m d r a b j v,ob,pB _ _ _ _ _ _,we _ _ _ _ _ _,vX _ _ _ _ _ _,h.hw,?_,h.hb,(MO f.1).symm.trans (IE f.1 f.2),?_,?_⟩
    .have:(dD m d r a b).length=m.toNat:=qw
     lia
    .unfold ϝ;rw[G,w.2.2,show(dD m d r a b).getD k.toNat 0=ο m d r a b k from gM w.1.1 w.1.2,show(dD m d r a b).getD v.toNat 0=ο m d r a b v from gM f.1 f.2]
    .unfold Ϩ;rw[w.2.2]
   .show _=wy m d r a b (ϝ m d r a b j) (Ϩ m d r a b j) (cK d a) k n;rw[XT]
    rfl
def xp(T:Txt K X):Sp:=λt H Q _=>E22 λ(o w i r g u s ld h j:Addr)(m:Int)(n:gw)(f:hU)(v k z:Int)(c a:Nat)(e b:f3)(p q:Bool)=>t=[.ref o,.int v,.int a,.int z]/\Ym T.Web T.Tally H o w i r g u s ld h j m n f v k c a e b p q/\a<=24/\-70<=z/\z+1<=2^64/\∀l d,H l=none->δ H d->d l=some (.lst ((ϩ (ϰ m.toNat (Ϲ e b c z))).map V.int))->Q (.ref l) d
abbrev qy:Stmt:=top 67
theorem Lo:η ["tally","place","at","left","kid","before","given","ways_behind"] ["tally","place","at","left"] (aK qy):=.of
theorem Be:Ϝ (aK qy) "range":=.of (by kernel_rfl)
theorem LA(T:Txt K X)(Z:cg (Ε P w))(jN:Cb P w K X base "differences" jL ["values"] 1 (qr T))(dA:mv P w base T)(iH:ov P w base T):Ok P w K X base "course" qy ["tally","place","at","left"] 6 (xp T):=λ_ _ D=>by
 refine D.F.Ϙ Lo (by walk_at "v") λΑ A ab s H vs Q E R h=>?_;obtain⟨o,w,tw,lk,ϻ,lr,lp,ld,Wc,We,m,ps,rs,v,k,z,c,b,f,a,U,be,rfl,C,cd,z0,z1,q⟩:=h;have g:=C.web.go;have m1:=g.m1;have Ο:=g.Ο;refine⟨_,(aD (Δ 4 (Ι bL (mQ bL (dB (ε 0) rfl) (ε 1) (λ_ _=>rfl)) (ε 2))) (aD (Δ 5 (eD (ah aU aB))) (aD (fm PassesOwn.never rfl (iQ Be.g T.range (ah (bn iI (dB (dB (ε 0) rfl) rfl) aU) aB)) (ϒ 6) (aD (Δ 7 (Ν dA R Z (ah (Ι bL (mQ bL (dB (ε 0) rfl) (ε 1) (λ_ _=>rfl)) (bn eP (ε 2) aU)) (ah (bn iI (ε 3) (ε 6)) aB)))) (aO (dq (iU PySem.F.plainAttrs_list PySem.F.slot_list_append PySem.F.type_list_append fN (ε 5) (ah (bn eP (Ι bL (ε 5) (Bj xK aU)) (bn pI (Ν iH R Z (ah (ε 0) (ah (ε 1) (ah (ε 4) (ah (ε 6) aB))))) (ε 7))) aB)))))) (aO (bQ (Ν jN R Z (ah (ε 5) aB))))))),?_⟩;walk_at "s";refine cL λN1 h1=>?_;walk_at "";obtain⟨y,x,I,fw,fk,U⟩:=C.ob;obtain⟨kv,ks,O,af,al,S⟩:=C.ki;have gk:ϲ (ks.map V.int) (b:Int)=some (V.int k):=cT (by lia) (by rw[bJ,aA,S];rfl);refine⟨T.Tally,y,x,I,T.cV,T.rA,_,fk,Υ O (cT C.v0.1 af) (Υ al gk (h1 _ _ (cL λN2 h2=>?_)))⟩;walk_at "";refine⟨cm (by simp),λp u=>h2 _ _ (cL λN3 h3=>?_)⟩;have G:=δ.new (HO.lst [V.int 0]) u;have e1:upd H p (HO.lst [V.int 0]) p=some (.lst ((ϰ 1 (Ϲ f a c z)).map V.int)):=ay;generalize upd H p (HO.lst [V.int 0])=H1 at G e1 ⊢;walk_at "";obtain⟨dw,wb⟩:=C.web.ob;refine⟨T.Tally,y,x,G _ _ I,T.cV,T.RW,_,fw,w,rfl,T.Web,dw,_,G _ _ wb,T.lu,T.ϕ,_,jV _ _,?_⟩;refine⟨m,rfl,by lia,by lia,?_⟩;refine vH (lo:=0) (n:=(m-1).toNat) (λi J B=>δ H B/\B p=some (.lst ((ϰ (i+1) (Ϲ f a c z)).map V.int))/\∃v6 Y,J=[some (V.ref o),some (V.int v),some (V.int b),some (V.int z),some (V.int k),some (V.ref p),v6,Y]) ⟨G,e1,_,_,rfl⟩ ?_ ?_
 .rintro i J B N BB ϗ hN hi ⟨s5,e5,v6,Y,rfl⟩;refine ϗ _ _ (cL λM1 k1=>?_);rw[cQ];have L:=C.same s5;obtain⟨rv,lv,pv,r1,r2,r3,r4,r5,r6⟩:=L.re;have gl:ϲ lv ((b:Int)+1)=some (.ref ld):=cT (by lia) (by rw[show((b:Int)+1).toNat=b+1 by lia];exact r4);have d:-100<=z-(i:Int):=by lia
  have r:z-(i:Int)+1<=2^64:=by lia
  walk_at "";refine⟨T.Tally,y,x,s5 _ _ I,T.cV,T.ϴ,_,U,Υ r1 (cT C.v0.1 r2) (Υ r3 gl ?_)⟩;refine⟨ld,f,z-(i:Int),rfl,ξ.of L.ed,by have:=C.cl.1;lia,d,hW (k:=65) (by lia) (by decide),Bo C.cb.1,λj hj=>uB d r (by have:=C.cl.1;lia),λH6 e=>k1 _ _ ?_⟩;have t:=s5.trans e;have C6:=L.same e;have e6:=e _ _ e5;have W:i<=24:=by lia
  have hb:τ c i+1<=2^25:=by
   unfold τ;have h1:(i+1)*c<=25*1000000:=bP (by lia) C.c2.2;have h2:(2:Nat)^25=33554432:=rfl
   lia
  have wb:(Τ a (τ c i) 0).natAbs<ϫ:=Iz (z:=((τ c i:Nat):Int)) (by lia) (by lia) C.cl.2 C.cb.2;have M:ϲ ((ϰ (i+1) (Ϲ f a c z)).map V.int) (-1)=some (V.int (Λ i (Ϲ f a c z))):=by
   unfold ϰ;rw[da,aw,aw];exact Ji _ _
  have el:((ϰ (i+1) (Ϲ f a c z)).map V.int).length=i+1:=by unfold ϰ;rw[aa,aa,bD]
  walk_at "";refine⟨Io e6,Υ e6 M ?_⟩;refine⟨o,y,w,tw,lr,Wc,We,x,m,ps,rs,rv,pv,v,k,c,i,a,rfl,t _ _ I,fw,U,C6.web,C.v0,C.k0,C.tl,C.c2.1,C.c2.2,e _ _ r1,r5,e _ _ r6,C6.ek,C.cl.2,W,Bo C.cb.2,λH7 s7=>⟨_,rfl,qA wb (Iz d r C.cl.1 C.cb.1),_,rfl,?_⟩⟩;refine o9 (s7 _ _ e6) (d5 (by rw[el];lia)) (hN _ _ ⟨(t.trans s7).put u _,?_,_,_,rfl⟩);rw[ay];unfold ϰ;rw[da (n:=i+1),aw,aw]
  rfl
 .rintro BB J B ϗ ⟨s5,e5,v6,Y,rfl⟩;refine ϗ _ _ (h3 _ _ ?_);walk_at "";have em:(m-1).toNat+1=m.toNat:=by lia
  rw[em]at e5;exact⟨p,_,rfl,ξ.of e5,by unfold ϰ;rw[aa,bD];lia,λl H6 nl e el=>q l H6 (s5.free nl) (s5.trans e) el⟩
def uV(T:Txt K X):Sp:=λe H Q _=>E4 λ(a:Addr)(b:f3)(top:Nat)(z:Int)=>e=[.ref a,.int top,.int z]/\ξ K H a (b.map V.int)/\b.length<=100/\top+1<ϫ/\(∀c∈b,c.natAbs<ϫ)/\(∀n k,n<=top->k<b.length->ch n k<ϫ)/\∀(g:Nat)(d:Hp),g<=top->(g=0\/Τ b g 0<=z)->(g=top\/z<Τ b (g+1) 0)->δ H d->Q (.int g) d
abbrev oV:Stmt:=top 65
theorem B5:η ["before","top","number","low","high","middle"] ["before","top","number"] (aK oV):=.of
theorem Dh(T:Txt K X)(L:cg (Ε P w))(O:mv P w base T):Ok P w K X base "last_within" oV ["before","top","number"] 2 (uV T):=λ_ _ D=>by
 refine D.F.Ϙ B5 (by walk_at "v") λΑ A j s H vs Q E y h=>?_;obtain⟨a,f,top,z,rfl,B,I,tb,cb,G,k⟩:=h;refine⟨_,(aD (Δ 3 aU) (aD (Δ 4 (ε 1)) (aD (pA PassesOwn.never (Ϻ qd (ε 3) (ε 4)) (aD (Δ 5 (bn gO (bn eP (bn eP (ε 3) (ε 4)) aU) aU)) (aO (eK (Ϻ vg (Ν O y L (ah (ε 0) (ah (ε 5) aB))) (ε 2)) (aO (Δ 3 (ε 5))) (aO (Δ 4 (bn iI (ε 5) aU))))))) (aO (bQ (ε 3)))))),?_⟩;walk_at "s";refine cL λN1 x=>?_;walk_at "";refine x _ _ (cL λN2 J=>?_);walk_at "";refine J _ _ (cL λN3 u=>?_);refine u9 (λn m i=>E3 λ(lo d:Nat)(r:Option V)=>n=d-lo/\lo<=d/\d<=top/\(lo=0\/Τ f lo 0<=z)/\(d=top\/z<Τ f (d+1) 0)/\δ H i/\m=[some (V.ref a),some (V.int top),some (V.int z),some (V.int lo),some (V.int d),r]) top ⟨0,top,_,rfl,bj _,ap _,.inl rfl,.inl rfl,δ.refl _,rfl⟩ ?_;rintro n m i N o S ⟨lo,d,r,rfl,U,t,q,p,s,rfl⟩;walk_at "";by_cases c:lo<d
 .rw[aj (by lia)];refine⟨N,λR Y w=>?_,⟨by decide,by decide⟩,?_⟩
  .obtain⟨m',lt,lo',Zq,v',e1,e2,e3,e4,e5,e6,e7⟩:=S _ _ w
   first|exact⟨m',lt,lo',Zq,v',e1,e2,e3,e4,e5,e6,e7⟩|exact⟨m',lt,lo',Zq,e1,e2,e3,e4,e5,e6,v',e7⟩
  obtain⟨b,M⟩:∃b:Nat,((lo:Int)+(d:Int)+1)/2=(b:Int):=⟨(((lo:Int)+(d:Int)+1)/2).toNat,by lia⟩;rw[M];have W:lo<b:=by lia
  have C:b<=d:=by lia
  refine⟨a,f,(b:Int),rfl,s.seq B,I,by lia,(show b<ϫ by lia),cb,λk v=>(show ch b k<ϫ from G b k (by lia) v),λZ l=>⟨_,rfl,?_⟩⟩;rw[pH];by_cases g:Τ f b 0<=z
  .rw[aj g];exact o (d-b) _ _ (by lia) ⟨b,d,_,rfl,C,t,.inr g,p,s.trans l,rfl⟩
  .rw[ag g];have e:((b:Int)-1)=((b-1:Nat):Int):=(by lia);rw[e];exact o (b-1-lo) _ _ (by lia) ⟨lo,b-1,_,rfl,by lia,by lia,q,.inr (by rw[show b-1+1=b by lia];lia),s.trans l,rfl⟩
 .rw[ag (by lia)];refine u _ _ ?_;walk_at "";have e:d=lo:=by lia
  subst e;exact k d i t q p s
def yT(T:Txt K X):Sp:=λu H Q _=>E23 λ(o w p s l x t ld n q:Addr)(m:Int)(r:gw)(j:hU)(v k a:Int)(c b z:Nat)(f d:f3)(h e:Bool)=>u=[.ref o,.int v,.int b,.int z,.int a]/\Ym T.Web T.Tally H o w p s l x t ld n q m r j v k c b f d h e/\b<=24/\(z:Int)+1<=2^64/\∀(g:Nat)(i:Hp),g<=z->(e=true->g=z)->(e=false->h=false->g=0)->(e=false->h=true->(g=0\/Τ (ϩ (ϰ m.toNat (Ϲ f d c z))) g 0<=a)/\(g=z\/a<Τ (ϩ (ϰ m.toNat (Ϲ f d c z))) (g+1) 0))->δ H i->Q (.int g) i
abbrev rZ:Stmt:=top 64
theorem HW:η ["tally","place","at","left","number","kid"] ["tally","place","at","left","number"] (aK rZ):=.of
abbrev ti(P w base)(T:Txt K X):=Cb P w K X base "course" qy ["tally","place","at","left"] 6 (xp T)
theorem GY(T:Txt K X)(x:cg (Ε P w))(qI:ti P w base T)(lB:oi P w base T)(rB:Cb P w K X base "last_within" oV ["before","top","number"] 2 (uV T)):Ok P w K X base "given_by" rZ ["tally","place","at","left","number"] 7 (yT T):=λ_ _ D=>by
 refine D.F.Ϙ HW (by walk_at "v") λΑ A y s H vs Q E r h=>?_;obtain⟨o,w,S,lk,Z,lr,lp,ld,Wc,We,m,W,J,v,k,t,c,f,z,R,a,fr,i,rfl,C,I,Y,q⟩:=h;have m1:=C.web.go.m1;have Ο:=C.web.go.Ο;refine⟨_,(aD (Δ 5 (Ι bL (mQ bL (dB (ε 0) rfl) (ε 1) (λ_ _=>rfl)) (ε 2))) (aD (eK (Ϻ jU (ε 5) (Ι bL (dB (ε 0) rfl) (ε 1))) (aO (bQ (ε 3))) dy) (aD (eK (kN (my (Ν lB r x (ah (ε 0) (ah (ε 1) (ah (ε 5) aB)))))) (aO (bQ aU)) dy) (aO (bQ (Ν rB r x (ah (Ν qI r x (ah (ε 0) (ah (ε 1) (ah (ε 2) (ah (ε 3) aB))))) (ah (ε 3) (ah (ε 4) aB))))))))),?_⟩;walk_at "s";refine cL λN1 h1=>?_;walk_at "";obtain⟨dx,fs,ho,fw,fk,ab⟩:=C.ob;obtain⟨kv,ks,p,B,G,u⟩:=C.ki;have gk:ϲ (ks.map V.int) (f:Int)=some (V.int k):=cT (by lia) (by rw[bJ,aA,u];rfl);refine⟨T.Tally,dx,fs,ho,T.cV,T.rA,_,fk,Υ p (cT C.v0.1 B) (Υ G gk (h1 _ _ ?_))⟩;obtain⟨U,e,lw,lb,xs,cv,ob,M,e2,e3,O,e5,e6,N,L,e9,d⟩:=C.fb;walk_at "";refine⟨T.Tally,U,e,M,T.cV,T.tV,_,O,Υ N (cT C.v0.1 L) ?_⟩;refine⟨by cases ob<;>rfl,?_⟩;by_cases cb:ob=some k
 .have eb:i=true:=by rw[d];exact bh cb
  rw[aj (by rw[cb];rfl)];exact q z H (ap _) (λ_=>rfl) (λz=>by rw[eb]at z;cases z) (λz=>by rw[eb]at z;cases z) (δ.refl _)
 .have eb:i=false:=by rw[d];exact bA cb
  rw[ag (λz=>cb (by cases ob with|none=>cases z|some b=>unfold YW at z;injection z with z;rw[z]))];refine⟨o,U,w,S,lw,lb,e,m,W,J,xs,cv,v,k,(c:Int),ob,rfl,M,e2,e3,O,C.web,e5,e6,N,C.v0,C.k0,L,C.tl,by have:=C.c2.1;lia,by have:=C.c2.2;lia,⟨_,rfl,?_⟩⟩;rw[<-e9];cases fr with
  | false=>
    rw[aj rfl];exact q 0 H (bj _) (λz=>by rw[eb]at z;cases z) (λ_ _=>rfl) (λ_ z=>by cases z) (δ.refl _)
  | true=>
    rw[ag (by decide)];refine⟨o,w,S,lk,Z,lr,lp,ld,Wc,We,m,W,J,v,k,(z:Int),c,f,R,a,true,i,rfl,C,I,by lia,Y,λl H1 nl s1 el=>?_⟩;have a8:(ϩ (ϰ m.toNat (Ϲ R a c z))).length<=24:=(by rw[B9];unfold ϰ;rw[aa,bD];lia);refine⟨l,_,z,t,rfl,ξ.of el,by lia,hW (k:=65) (by lia) (by decide),Jj (by lia) (by lia) Y C.c2.2 C.cl.1 C.cl.2 C.cb.1 C.cb.2,λn j hn hj=>(show(Yj (n:Int) j).natAbs<ϫ from uB (by lia) (by lia) (by lia)),λg H2 g1 g2 g3 s2=>q g H2 g1 (λz=>by rw[eb]at z;cases z) (λ_ z=>by cases z) (λ_ _=>⟨g2,g3⟩) (s1.trans s2)⟩
def qE(T:Txt K X):Sp:=λt H Q _=>E23 λ(o w l r i u s ld j n:Addr)(m:Int)(p:gw)(h:hU)(v k z:Int)(c a:Nat)(d b:f3)(e q:Bool)(g:Nat)=>t=[.ref o,.int v,.int a,.int z,.int g]/\Ym T.Web T.Tally H o w l r i u s ld j n m p h v k c a d b e q/\a<=24/\-70<=z/\z+1<=2^64/\(g:Int)+1<=2^64/\∀f,δ H f->Q (.int (if e=true then Τ (ϩ (ϰ m.toNat (Ϲ d b c z))) g 0 else 0)) f
abbrev mV:Stmt:=top 66
theorem CK:η ["tally","place","at","left","given"] ["tally","place","at","left","given"] (aK mV):=.of
theorem Cv(T:Txt K X)(i:cg (Ε P w))(qI:ti P w base T)(Y:oi P w base T)(dA:mv P w base T):Ok P w K X base "ways_before" mV ["tally","place","at","left","given"] 7 (qE T):=λ_ _ D=>by
 refine D.F.Ϙ CK (by walk_at "v") λΑ A n s H vs Q E e h=>?_;obtain⟨o,w,G,lk,L,lr,lp,ld,Wc,We,m,I,x,v,k,z,c,b,B,a,fr,O,g,rfl,C,u,y,J,g1,q⟩:=h;have m1:=C.web.go.m1;have Ο:=C.web.go.Ο;refine⟨_,(aD (eK (kN (my (Ν Y e i (ah (ε 0) (ah (ε 1) (ah (Ι bL (mQ bL (dB (ε 0) rfl) (ε 1) (λ_ _=>rfl)) (ε 2)) aB)))))) (aO (bQ aU)) dy) (aO (bQ (Ν dA e i (ah (Ν qI e i (ah (ε 0) (ah (ε 1) (ah (ε 2) (ah (ε 3) aB))))) (ah (ε 4) aB)))))),?_⟩;walk_at "s";walk_at "";obtain⟨dx,U,ho,fw,fk,N⟩:=C.ob;obtain⟨kv,Z,d,r,t,f⟩:=C.ki;have gk:ϲ (Z.map V.int) (b:Int)=some (V.int k):=cT (by lia) (by rw[bJ,aA,f];rfl);refine⟨T.Tally,dx,U,ho,T.cV,T.rA,_,fk,Υ d (cT C.v0.1 r) (Υ t gk ?_)⟩;obtain⟨ZZ,p,lw,lb,xs,cv,ob,S,e2,e3,e4,e5,e6,W,M,e9,_⟩:=C.fb;refine⟨o,ZZ,w,G,lw,lb,p,m,I,x,xs,cv,v,k,(c:Int),ob,rfl,S,e2,e3,e4,C.web,e5,e6,W,C.v0,C.k0,M,C.tl,by have:=C.c2.1;lia,by have:=C.c2.2;lia,⟨_,rfl,?_⟩⟩;rw[<-e9];cases fr with
 | false=>
   rw[aj rfl];exact q H (δ.refl _)
 | true=>
   rw[ag (by decide)];refine⟨o,w,G,lk,L,lr,lp,ld,Wc,We,m,I,x,v,k,z,c,b,B,a,true,O,rfl,C,u,y,J,λl H1 nl s1 el=>?_⟩;have a2:(ϩ (ϰ m.toNat (Ϲ B a c z))).length<=24:=by rw[B9];unfold ϰ;rw[aa,bD];lia
   exact⟨l,_,(g:Int),rfl,ξ.of el,by lia,by lia,hW (k:=65) (by lia) (by decide),Jj (by lia) y J C.c2.2 C.cl.1 C.cl.2 C.cb.1 C.cb.2,λj hj=>uB (by lia) g1 (by lia),λH2 R=>q H2 (s1.trans R)⟩
def Kz(H:Hp)(l:Addr)(a:hL):Prop:=∃c:List (Key×V),H l=some (.dK c)/\Paired (λ(b:Key×V)(x:Int×Nat×Int)=>b.1=.inl x.1/\∃q,b.2=.ref q/\H q=some (.tup [.int x.2.1,.int x.2.2])) c a
theorem II:∀{c:List (Key×V)}{a:hL}{R:V->Int×Nat×Int->Prop}{k:Int},Paired (λ(b:Key×V)(x:Int×Nat×Int)=>b.1=.inl x.1/\R b.2 x) c a->k∉a.map (·.1)->gh c (.inl k)=none
 | _,_,_,_,.nil,_=>rfl
 | _,_,R,k,.cons h t,n=>by
   rw[jd (λz=>n (by rw[aq];rw[h.1]at z;injection z with z;rw[<-z];exact .head _))];exact II (R:=R) t λz=>n (by rw[aq];exact .tail _ z)
def wx(m:Int)(d:hU)(r:Int)(b:f5)(c:gb)(f:f3)(v:Int)(z:Nat)(I:Nat->Nat->Int->List (Int×Nat×Int)->Prop):Prop:=∀(i:Nat)(k:Int)(a:Nat)(j:Int)(l:hL)(g:Nat)(h e:f3),(kd m d r b v)[i]?=some k->a<=z->I i a j l->g<=a->Ϗ 15000 h (ς (ϝ m d r b c f) (Ϩ m d r b c f) (λk g=>iD m d r b c f k (τ (cK d b k) g)) ((kd m d r b v).drop (i+1)))->Ϗ 15000 e (iD m d r b c f k)->(Ϩ m d r b c f k=true->g=a)->(Ϩ m d r b c f k=false->ϝ m d r b c f k=false->g=0)->(Ϩ m d r b c f k=false->ϝ m d r b c f k=true->(g=0\/Τ (ϩ (ϰ m.toNat (Ϲ h e (cK d b k) a))) g 0<=j)/\(g=a\/j<Τ (ϩ (ϰ m.toNat (Ϲ h e (cK d b k) a))) (g+1) 0))->0<Τ h (a-g) 0/\Τ h (a-g) 0<2^9000/\I (i+1) (a-g) ((j-(if ϝ m d r b c f k=true then Τ (ϩ (ϰ m.toNat (Ϲ h e (cK d b k) a))) g 0 else 0))%Τ h (a-g) 0) (l++[(k,τ (cK d b k) g,(j-(if ϝ m d r b c f k=true then Τ (ϩ (ϰ m.toNat (Ϲ h e (cK d b k) a))) g 0 else 0))/Τ h (a-g) 0)])
def uW(T:Txt K X):Sp:=λx H Q _=>E21 λ(o p t:Addr)(m:Int)(j:gw)(f:hU)(r:Int)(a:f5)(e:gb)(h:f3)(ld u n s y:Addr)(k:gw)(i:List V)(v d:Int)(z:Nat)(I:Nat->Nat->Int->List (Int×Nat×Int)->Prop)=>x=[.ref o,.int v,.int z,.int d]/\ϖ T.Web T.Tally H o p t m j f r a e h ld u n s y k i (λv=>0<=v/\v<m)/\(0<=v/\v<m)/\(z:Int)+1<=2^64/\I 0 z d []/\wx m f r a e h v z I/\∀(l:Addr)(g:Hp)(c:Nat)(q:Int)(b:hL),I (kd m f r a v).length c q b->b.map (·.1)=kd m f r a v->H l=none->δ H g->Kz g l b->Q (.ref l) g
abbrev jO:Stmt:=top 63
theorem qJ:η ["tally","place","held","number","found","left","at","kid","given","ways_behind"] ["tally","place","held","number"] (aK jO):=.of
theorem uD:Zt (aK jO) "number":=.of (by kernel_rfl)
theorem wq:Zt (aK jO) "left":=.of (by kernel_rfl)
theorem sR:Ϝ (aK jO) "enumerate":=.of (by kernel_rfl)
abbrev t4(P w base)(T:Txt K X):=Cb P w K X base "ways_before" mV ["tally","place","at","left","given"] 7 (qE T)
theorem Cu(T:Txt K X)(hq:cg (Ε P w))(vb:Cb P w K X base "given_by" rZ ["tally","place","at","left","number"] 7 (yT T))(om:nH P w base T)(dA:mv P w base T)(kZ:t4 P w base T):Ok P w K X base "handed_down" jO ["tally","place","held","number"] 8 (uW T):=λ_ _ D=>by
 refine D.F.Ϙ qJ (by walk_at "v") λΑ A cn s H vs Q E Y h=>?_;obtain⟨o,p,t,m,ps,e,r,b,a6,tl,ld,lw,lb,lk,lr,kl,rv,v,bk,z,I,rfl,TA,vm,z1,i0,st,q⟩:=h;have hu:=sg Y;have g:=TA.web.go;have R:=TA.rt;have ex:(kd m e r b v).length<=24:=zp g;refine⟨_,(aD (Δ 4 Pa) (aD (Δ 5 (ε 2)) (aD (fm PassesOwn.never rfl (xQ true sR.g T.enumerate (Ι bL (dB (ε 0) rfl) (ε 1))) (kM (n:=2) rfl (cz (ϒ 6) (cz (ϒ 7) iM))) (aD (Δ 8 (Ν vb Y hq (ah (ε 0) (ah (ε 1) (ah (ε 6) (ah (ε 5) (ah (ε 3) aB))))))) (aD (sL (i:=3) qJ.nd rfl (Or.inl uD.l) (Ν kZ Y hq (ah (ε 0) (ah (ε 1) (ah (ε 6) (ah (ε 5) (ah (ε 8) aB)))))) Fn) (aD (sL (i:=5) qJ.nd rfl (Or.inl wq.l) (ε 8) Fn) (aD (Δ 9 (Ν dA Y hq (ah (Ι bL (mQ bL (dB (ε 0) rfl) (ε 1) (λ_ _=>rfl)) (bn eP (ε 6) aU)) (ah (ε 5) aB)))) (aD (xT hu (ε 4) (ε 7) (jR (ah (Ν om Y hq (ah (ε 0) (ah (ε 1) (ah (ε 7) (ah (ε 8) aB))))) (ah (bn F6 (ε 3) (ε 9)) aB))) rfl) (aO (Δ 3 (bn fQ (ε 3) (ε 9)))))))))) (aO (bQ (ε 4)))))),?_⟩;walk_at "s";refine cL λN1 h1=>?_;walk_at "";refine λS O=>h1 _ _ (cL λN2 h2=>?_);have s1:=δ.new (HO.dK []) O;have e1:Kz (upd H S (HO.dK [])) S []:=⟨[],ay,.nil⟩;generalize upd H S (HO.dK [])=H1 at s1 e1 ⊢;walk_at "";refine h2 _ _ (cL λN3 h3=>?_);walk_at "";obtain⟨dx,ob⟩:=TA.ob;have cx:(b6 m.toNat)[v.toNat]?=some v:=by rw[fL (by lia),br vm.1]
 obtain⟨ϻ,Xp,Wi⟩:=tD TA.kp cx;refine⟨T.Tally,dx,_,s1 _ _ ob,T.cV,T.rA,_,p9 _ _ _ _ _ _,Υ (s1 _ _ TA.hk) (cT vm.1 (by rw[aA,Xp];rfl)) ⟨ϻ,rfl,⟨_,ξ.of (s1 _ _ Wi)⟩,?_⟩⟩;refine zO (K:=K) (c:=true) (xs:=(kd m e r b v).map V.int) (λi σ M=>δ H M/\E7 λ(a:Nat)(G:Int)(d:hL)(v6 v7 v8 v9:Option V)=>a<=z/\I i a G d/\Kz M S d/\d.map (·.1)=(kd m e r b v).take i/\σ=[some (V.ref o),some (V.int v),some (V.int z),some (V.int G),some (V.ref S),some (V.int a),v6,v7,v8,v9]) ⟨s1,z,bk,[],_,_,_,_,ap _,i0,e1,rfl,rfl⟩ (λi σ M y=>ξ.of (y.1 _ _ Wi)) ?_ ?_
 .rintro i x σ M q' N hN hx ⟨s2,a,G,d,v6,v7,v8,v9,lz,ii,hd,am,rfl⟩ nq;obtain⟨k,hk,rfl⟩:=List.μ hx;have il:=(az.mp hk).1;have s3:=s2.trans (δ.new (HO.tup [V.int (i:Int),V.int k]) nq);have cf:upd M q' (HO.tup [V.int (i:Int),V.int k]) q'=some (.tup [V.int (i:Int),V.int k]):=ay;have ae:Kz (upd M q' (HO.tup [V.int (i:Int),V.int k])) S d:=let ⟨θ,a1,a2⟩:=hd;⟨θ,δ.new _ nq _ _ a1,Paired.imp' (λkv x ⟨b1,q0,b2,b3⟩=>⟨b1,q0,b2,δ.new _ nq _ _ b3⟩) a2⟩;walk_at "";refine⟨_,Ξ.of cf,rfl,_,_,rfl,_,_,rfl,rfl,?_⟩;generalize upd M q' (HO.tup [V.int (i:Int),V.int k])=H3 at s3 ae ⊢;have bv:=TA.same s3;obtain⟨ac,lp,Ze,Wc,We,U,L,C,c1,c2⟩:=bv.co vm hk;have Z:i<=24:=by lia
  refine⟨o,p,t,lk,ac,lr,lp,Ze,Wc,We,m,ps,e,v,k,G,cK e b k,i,a,U,L,_,_,rfl,C,Z,by lia,λu H4 g1 g2 g3 g4 s4=>?_⟩;obtain⟨w0,w1,nx⟩:=st i k a G d u U L hk lz ii g1 c1 c2 g2 g3 g4;have C4:=C.same s4;refine⟨o,p,t,lk,ac,lr,lp,Ze,Wc,We,m,ps,e,v,k,(a:Int),cK e b k,i,U,L,_,_,u,rfl,C4,Z,by lia,by lia,by lia,λH5 s5=>⟨_,rfl,_,rfl,?_⟩⟩;have a4:=s4.trans s5;have C5:=C4.same s5;obtain⟨a9,a0,b0,eL,et,Z4⟩:=C5.ob;obtain⟨ef,bl,d2,r1,r2,r3,r4,r5,r6⟩:=C5.re;have gl:ϲ bl ((i:Int)+1)=some (.ref Ze):=cT (by lia) (by rw[show((i:Int)+1).toNat=i+1 by lia];exact r4);refine⟨T.Tally,a9,a0,b0,T.cV,T.ϴ,_,Z4,Υ r1 (cT vm.1 r2) ⟨_,rfl,Υ r3 gl ?_⟩⟩;have el:(a:Int)-(u:Int)=((a-u:Nat):Int):=by lia
  rw[el];have eb:=C.cl.1;refine⟨Ze,U,((a-u:Nat):Int),rfl,ξ.of C5.ed,by lia,by lia,hW (k:=65) (by lia) (by decide),Bo C.cb.1,λj hj=>uB (by lia) (by lia) (by lia),λH6 s6=>?_⟩;rw[pH];have C6:=C5.same s6;obtain⟨bm,cr,a8,bs,_,_⟩:=C6.ob;have eh:((u:Int)+1)*((cK e b k:Nat):Int)-1=((τ (cK e b k) u:Nat):Int):=by
   have dO:=C.c2.1;unfold τ;have:1<=(u+1)*cK e b k:=bP (show 1<=u+1 by lia) (show 1<=cK e b k by lia);rw[jI this,fj]
   rfl
  generalize Τ U (a-u) 0=W at w0 w1 nx ⊢;generalize (if ϝ m e r b a6 tl k=true then Τ (ϩ (ϰ m.toNat (Ϲ U L (cK e b k) ↑a))) u 0 else 0)=B at nx ⊢;refine(show qS T _ _ _ _ from⟨o,bm,p,t,cr,m,ps,e,v,k,((cK e b k:Nat):Int),u,rfl,a8,bs,C6.web,vm,C.k0,C.tl,by have:=C.c2.1;lia,by have:=C.c2.2;lia,?_⟩);rw[eh];have bp:=a4.trans s6;obtain⟨θ,a1,a2⟩:=ae;refine⟨W,rfl,⟨w0,(Nat.log2_lt (by lia)).mpr (by lia)⟩,cm (by simp),λpq cv=>?_⟩;have s7:=δ.new (HO.tup [V.int (τ (cK e b k) u:Nat),V.int ((G-B)/W)]) cv;have e7:upd H6 pq (HO.tup [V.int (τ (cK e b k) u:Nat),V.int ((G-B)/W)]) pq=some (.tup [V.int (τ (cK e b k) u:Nat),V.int ((G-B)/W)]):=ay;have J:=bp.trans s7;generalize upd H6 pq (HO.tup [V.int (τ (cK e b k) u:Nat),V.int ((G-B)/W)])=H7 at s7 e7 J ⊢;have a7:=J _ _ a1;have al:d.length=i:=by rw[<-aa (f:=λx:Int×Nat×Int=>x.1),am,bq];lia
  have d1:θ.length=d.length:=Paired.length a2;have kn:k∉d.map (·.1):=λy=>by
   rw[am]at y;have nd:(kd m e r b v).Nodup:=nZ;obtain⟨j,hj,ej⟩:=jQ y;rw[bq]at hj;rw[List.getElem_take]at ej;have:=(fS (show j<(kd m e r b v).length by lia) nd).mp (show(kd m e r b v)[j]?=(kd m e r b v)[i]? by rw[hk,ao (by lia),ej])
   lia
  have ca:=II (R:=λy x=>∃q,y=V.ref q/\H3 q=some (.tup [.int x.2.1,.int x.2.2])) a2 kn;refine⟨_,WM.k (k:=Sum.inl k) a7 (d5 (by lia)),W,rfl,w0,hN _ _ ⟨(s3.trans J).put O _,a-u,(G-B)%W,d++[(k,τ (cK e b k) u,(G-B)/W)],_,_,_,_,by lia,nx,?_,?_,rfl⟩⟩
  .rw[Fa _ ca];refine⟨_,ay,Jv ⟨rfl,pq,rfl,by rw[aR (gV e7 a7 (by intro z;cases z))];exact e7⟩ (Paired.imp' (λkv x ⟨b1,q0,b2,b3⟩=>⟨b1,q0,b2,by rw[aR (gV (J _ _ b3) a7 (by intro z;cases z))];exact J _ _ b3⟩) a2)⟩
  .rw[aw,am,cA,hk]
   rfl
 .rintro σ M ⟨s2,a,G,d,v6,v7,v8,v9,lz,ii,hd,am,rfl⟩;rw[aa]at ii;refine h3 _ _ ?_;walk_at "";exact q S M a G d ii (by rw[am,aa,bx]) O s2 hd
theorem B3:∀(a d:List (Key×V))(j:Key),(∃b∈a,b.1=j/\gh (jS d a) j=some b.2)\/((∀b∈a,b.1≠j)/\gh (jS d a) j=gh d j)
 | [],d,j=>.inr ⟨λ_ h=>(by cases h),rfl⟩
 | p::r,d,j=>by
   rcases B3 r (iG d p.1 p.2) j with⟨b,h1,h2,h3⟩|⟨h1,h2⟩
   .exact .inl ⟨b,.tail _ h1,h2,h3⟩
   .have e:gh (jS d (p::r)) j=gh (iG d p.1 p.2) j:=h2;rw[zA]at e;by_cases c:j=p.1
    .rw[aj c]at e;exact .inl ⟨p,.head _,c.symm,e⟩
    .rw[ag c]at e;exact .inr ⟨λb hk=>by
      rcases ax.mp hk with rfl|hk
      .exact λz=>c z.symm
      .exact h1 b hk,e⟩
theorem Nb{f g:Type}{R:f->g->Prop}:∀{d:List f}{c:List g},Paired R d c->(∀a∈d,∃b∈c,R a b)/\∀b∈c,∃a∈d,R a b
 | _,_,.nil=>⟨λ_ h=>(by cases h),λ_ h=>(by cases h)⟩
 | _,_,.cons h t=>by
   obtain⟨i,j⟩:=Nb t;refine⟨λa ha=>?_,λb hb=>?_⟩
   .rcases ax.mp ha with rfl|ha
    .exact⟨_,.head _,h⟩
    .obtain⟨b,hb,e⟩:=i a ha;exact⟨b,.tail _ hb,e⟩
   .rcases ax.mp hb with rfl|hb
    .exact⟨_,.head _,h⟩
    .obtain⟨a,ha,e⟩:=j b hb;exact⟨a,.tail _ ha,e⟩
def Uf(H:Hp)(J:Int->Nat->Int->Prop)(a:List (Key×V))(u:Int):Prop:=E3 λ(q:Addr)(h:Nat)(n:Int)=>gh a (.inl u)=some (.ref q)/\H q=some (.tup [.int h,.int n])/\J u h n
def xH(T:Txt K X):Sp:=λC H Q _=>E20 λ(o p t:Addr)(m:Int)(q:gw)(b:hU)(r:Int)(a:f5)(e:gb)(j:f3)(ld B u A D:Addr)(s:gw)(k:List V)(d:Int)(z:Nat)(J:Int->Nat->Int->Prop)=>C=[.ref o,.int z,.int d]/\ϖ T.Web T.Tally H o p t m q b r a e j ld B u A D s k (λv=>0<=v/\v<m)/\(0<=r/\r<m)/\J r z d/\(∀(v:Int)(h:Nat)(n:Int),0<=v->v<m->J v h n->(h:Int)+1<=2^64/\∃I:Nat->Nat->Int->List (Int×Nat×Int)->Prop,I 0 h n []/\wx m b r a e j v h I/\∀c y f,I (kd m b r a v).length c y f->∀x∈f,J x.1 x.2.1 x.2.2)/\∀(l:Addr)(g:f3)(i:Hp),(g.length:Int)=m->(∀v,0<=v->v<m->(kd m b r a v=[]->∃(h:Nat)(n:Int),g.getD v.toNat 0=h/\J v h n)/\(kd m b r a v≠[]->g.getD v.toNat 0=0))->H l=none->δ H i->i l=some (.tup (g.map V.int))->Q (.ref l) i
abbrev qV:Stmt:=top 62
theorem FT:η ["tally","held","number","counts","waiting","place","own"] ["tally","held","number"] (aK qV):=.of
theorem Gk(T:Txt K X)(hq:cg (Ε P w))(rJ:Cb P w K X base "handed_down" jO ["tally","place","held","number"] 8 (uW T)):Ok P w K X base "laying_at" qV ["tally","held","number"] 9 (xH T):=λ_ _ D=>by
 refine D.F.Ϙ FT (by walk_at "v") λΑ A c2 s H vs Q E hr h=>?_;obtain⟨o,p,t,m,ps,C,r,d,f,tl,ld,lw,lb,lk,lr,kl,rv,L,z,J,rfl,TA,rm,jr,jj,q⟩:=h;have hu:=sg hr;have g:=TA.web.go;have R:=TA.rt;refine⟨_,(aD (Δ 3 (bn sM (eD (ah aU aB)) (dB (dB (ε 0) rfl) rfl))) (aD (Δ 4 (Il (FZ (Ι bL (dB (ε 0) rfl) aU) (jR (ah (ε 1) (ah (ε 2) aB))) Jt) rfl rfl (List.cons_ne_nil _ _) (by decide))) (aD (fm PassesOwn.never rfl (gY (dB (ε 0) rfl)) (ϒ 5) (aD (Δ 6 (IJ hu (ε 4) (ε 5) (λ_ _=>rfl))) (aD (eK (kN (sY (Ι bL (dB (ε 0) rfl) (ε 5)) (λ_=>rfl))) (aO (nP (Ι jw (ε 6) aU) (rp (ε 3) (ε 5) mP))) dy) (aO (dq (iU PySem.F.plainAttrs_dict PySem.F.slot_dict_update PySem.F.type_dict_update LL (ε 4) (ah (Ν rJ hr hq (ah (ε 0) (ah (ε 5) (ah (Ι jw (ε 6) aU) (ah (Ι jw (ε 6) aU) aB))))) aB))))))) (aO (bQ (Za oW T.tuple (ah (ε 3) aB))))))),?_⟩;walk_at "s";refine cL λN1 h1=>?_;walk_at "";have m1:=g.m1;have Ο:=g.Ο;obtain⟨dx,ob⟩:=TA.ob;obtain⟨dw,wb⟩:=TA.web.ob;refine⟨cm (by simp),λp0 c3=>?_⟩;have s0:=δ.new (HO.lst [V.int 0]) c3;have e0:upd H p0 (HO.lst [V.int 0]) p0=some (.lst [V.int 0]):=ay;generalize upd H p0 (HO.lst [V.int 0])=H0 at s0 e0 ⊢;have cd:(List.replicate m.toNat [V.int 0]).flatten=(List.replicate m.toNat (0:Int)).map V.int:=by
  rw[iu]
  induction m.toNat with
  | zero=>rfl
  | succ n ih=>rw[cw,fx,ih,cw];rfl
 refine⟨T.Tally,dx,_,s0 _ _ ob,T.cV,T.RW,_,pB _ _ _ _ _ _,p,rfl,T.Web,dw,_,s0 _ _ wb,T.lu,T.ϕ,_,jV _ _,p0,m,_,rfl,rfl,e0,by lia,by lia,cm (by show 1*m.toNat<=100000;lia),λlc Y7=>h1 _ _ (cL λN2 h2=>?_)⟩;rw[cd];have s1:=s0.trans (δ.new (HO.lst ((List.replicate m.toNat (0:Int)).map V.int)) Y7);have e1:upd H0 lc (HO.lst ((List.replicate m.toNat (0:Int)).map V.int)) lc=some (.lst ((List.replicate m.toNat (0:Int)).map V.int)):=ay;have cp:=s0.free Y7;generalize upd H0 lc (HO.lst ((List.replicate m.toNat (0:Int)).map V.int))=H1 at s1 e1 ⊢;unfold EL;walk_at "";intro G ZY;have u2:=δ.new (HO.dK []) ZY;have e2:upd H1 G (HO.dK []) G=some (.dK []):=ay;have a5:=s1.free ZY;have aC:lc≠G:=λy=>by rw[<-y,e1]at ZY;cases ZY
 generalize upd H1 G (HO.dK [])=H2 at u2 e2 ⊢;have s2:=s1.trans u2;have gd:ϲ ((bO m C r d f r).map V.int) 0=some (V.int r):=by
  rw[TA.et];exact cT (ce 0) rfl
 refine⟨T.Tally,dx,_,s2 _ _ ob,T.cV,T.uU,_,pS _ _ _ _ _ _,Υ (s2 _ _ TA.hd) gd ⟨cm (by simp),λU cl=>?_⟩⟩;have u3:=δ.new (HO.tup [V.int z,V.int L]) cl;have e3:upd H2 U (HO.tup [V.int z,V.int L]) U=some (.tup [V.int z,V.int L]):=ay;have ad:=u3 _ _ e2;generalize upd H2 U (HO.tup [V.int z,V.int L])=H3 at u3 e3 ad ⊢;refine⟨ad,[(.inl r,.ref U)],rfl,(show 1<=15 by decide),h2 _ _ (cL λN3 h3=>?_)⟩;have s3:=((s2.trans u3).put a5 (HO.dK [(.inl r,.ref U)]));have e4:upd H3 G (HO.dK (jS [] [(.inl r,.ref U)])) G=some (.dK [(.inl r,.ref U)]):=ay;have a3:upd H3 G (HO.dK (jS [] [(.inl r,.ref U)])) lc=some (.lst ((List.replicate m.toNat (0:Int)).map V.int)):=by rw[aR aC];exact u3 _ _ (u2 _ _ e1)
 have be:upd H3 G (HO.dK (jS [] [(.inl r,.ref U)])) U=some (.tup [V.int z,V.int L]):=by rw[aR (gV e3 ad (by intro y;cases y))];exact e3
 have s4:δ H (upd H3 G (HO.dK (jS [] [(.inl r,.ref U)]))):=s3;generalize upd H3 G (HO.dK (jS [] [(.inl r,.ref U)]))=H4 at s4 e4 a3 be ⊢;clear u2 u3 e2 ad e3 s2 s3;walk_at "";refine⟨T.Tally,dx,_,s4 _ _ ob,T.cV,T.uU,_,pS _ _ _ _ _ _,ld,rfl,⟨_,ξ.of (s4 _ _ TA.hd)⟩,?_⟩;have pn:∀u,0<=u->u<m->u∈bO m C r d f r:=λu u0 u1=>by
  rw[TA.et];rcases TA.or.all u u0 u1 with rfl|y
  .exact .head _
  .exact .tail _ y
 have nd:(bO m C r d f r).Nodup:=by rw[TA.et];exact TA.or.nd
 have pr:∀u∈bO m C r d f r,0<=u/\u<m:=λu hu=>by
  rw[TA.et]at hu;rcases ax.mp hu with rfl|y
  .exact rm
  .exact TA.or.Χ u y
 have pl:(bO m C r d f r).length<=24:=zG g R rm.1 rm.2;refine mG (K:=K) (xs:=(bO m C r d f r).map V.int) (λi σ Y=>δ H Y/\E4 λ(xs:f3)(Z:List (Key×V))(v5 v6:Option V)=>Y lc=some (.lst (xs.map V.int))/\Y G=some (.dK Z)/\xs.length=m.toNat/\Z.length<=1+24*i/\(∀u,(u=r\/(0<=u/\u<m/\u≠r/\d u∈(bO m C r d f r).take i))->Uf Y J Z u)/\(∀u,0<=u->u<m->(u∈(bO m C r d f r).take i->(kd m C r d u=[]->∃(h:Nat)(n:Int),xs.getD u.toNat 0=h/\J u h n)/\(kd m C r d u≠[]->xs.getD u.toNat 0=0))/\(u∉(bO m C r d f r).take i->xs.getD u.toNat 0=0))/\σ=[some (V.ref o),some (V.int z),some (V.int L),some (V.ref lc),some (V.ref G),v5,v6]) ⟨s4,_,_,_,_,a3,e4,cU ..,(show 1<=1+24*0 by decide),?_,?_,rfl⟩ (λi σ Y _ y=>ξ.of (y.1 _ _ TA.hd)) ?_ ?_
 .rintro u (rfl|⟨_,_,_,y⟩)
  .exact⟨U,z,L,jh rfl,be,jr⟩
  .cases y
 .intro u u0 u1;refine⟨λy=>(by cases y),λ_=>?_⟩;rw[aX,fF];split<;>rfl
 .rintro i y σ Y N BB ϗ hN hy ⟨s5,xs,Z,v5,v6,ex,ew,xl,kl5,wt,pr5,rfl⟩;obtain⟨v,hv,rfl⟩:=List.μ hy;have W:=pr v (aQ hv);have il:=(az.mp hv).1;refine ϗ _ _ (cL λM1 k1=>?_);have ZU:Uf Y J Z v:=by
   refine wt v ?_;rw[TA.et]at hv ⊢;cases i with
   | zero=>exact .inl (bi hv).symm
   | succ j=>
     have Yr:tl[j]?=some v:=hv;have vt:=aQ Yr;have vr:=TA.or.ne vt;refine .inr ⟨W.1,W.2,vr,?_⟩;have au:=After.up (A:=tl.take (j+1)) (B:=tl.drop (j+1)) (S:=[r]) (by rw[b8];exact TA.or.af) v (by rw[cA,Yr];exact aW _ (.head _));have pd:=(R.up v W.1 W.2 vr).2.2;rw[List.take_succ_cons];rcases au with y|y
     .rw[aI.mp y];exact .head _
     .rw[cA,Yr]at y;rcases aY.mp y with y|y
      .exact .tail _ y
      .have:d v=v:=aI.mp y;rw[this]at pd
       lia
  obtain⟨q0,h0,n0,w1,w2,w3⟩:=ZU;obtain⟨hb,I,i0,c4,cx⟩:=jj v h0 n0 W.1 W.2 w3;walk_at "";have dg:=ϵ.k (H:=Y) (k:=Sum.inl v) ew;rw[w1]at dg;refine⟨_,dg,k1 _ _ (cL λM2 k2=>?_)⟩;have dk:(b6 m.toNat)[v.toNat]?=some v:=by rw[fL (by lia),br W.1]
  obtain⟨ϻ,Xp,Wi⟩:=tD TA.kp dk;have an:(bO m C r d f r).take (i+1)=(bO m C r d f r).take i++[v]:=by rw[cA,hv];rfl
  have a9:∀(O:f3)(H6:Hp),δ H H6->H6 lc=some (.lst (O.map V.int))->H6 G=some (.dK Z)->(∀q x,Y q=some (.tup x)->H6 q=some (.tup x))->O.length=m.toNat->(∀u,0<=u->u<m->(u∈(bO m C r d f r).take (i+1)->(kd m C r d u=[]->∃(h:Nat)(n:Int),O.getD u.toNat 0=h/\J u h n)/\(kd m C r d u≠[]->O.getD u.toNat 0=0))/\(u∉(bO m C r d f r).take (i+1)->O.getD u.toNat 0=0))->M2 [some (V.ref o),some (V.int z),some (V.int L),some (V.ref lc),some (V.ref G),some (V.int v),some (V.ref q0)] H6:=by
   intro O H6 s6 cs ai tp cc db;refine k2 _ _ ?_;have e6:=tp _ _ w2;walk_at "";refine⟨.inr (.inr (.inl ⟨rfl,.inl ⟨_,ai⟩⟩)),W2 e6 rfl (W2 e6 rfl ?_)⟩;refine⟨o,p,t,m,ps,C,r,d,f,tl,ld,lw,lb,lk,lr,kl,rv,v,n0,h0,I,rfl,TA.same s6,W,hb,i0,c4,λl H7 a7 nu aS ie am nl s7 hd=>?_⟩;obtain⟨M,ci,a4⟩:=hd;have a1:=s7 _ _ ai;have c1:G≠l:=λy=>by rw[<-y,ai]at nl;cases nl
   have ml:M.length=aS.length:=Paired.length a4;have al:aS.length<=24:=by
    have h1:=congrArg List.length am;rw[aa]at h1;have h2:(kd m C r d v).length<=24:=zp g
    lia
   have kp:∀q x,H7 q=some (.tup x)->upd H7 G (HO.dK (jS Z M)) q=some (.tup x):=λq x e=>by rw[aR (gV e a1 (by intro y;cases y))];exact e
   refine⟨G,l,Z,M,rfl,rfl,a1,ci,c1,cm (by lia),hN _ _ ⟨(s6.trans s7).put a5 _,O,_,_,_,by rw[aR aC];exact s7 _ _ cs,ay,cc,?_,λu hu=>?_,db,rfl⟩⟩
   .have:=oU M Z
    lia
   .obtain⟨pm1,pm2⟩:=Nb a4;rcases B3 M Z (.inl u)with⟨kv,k1',k2',k3'⟩|⟨k1',k2'⟩
    .obtain⟨x,hx,x1,q1,x2,x3⟩:=pm1 kv k1';have xu:x.1=u:=(by rw[x1]at k2';exact Sum.inl.inj k2');exact⟨q1,x.2.1,x.2.2,by rw[k3',x2],kp _ _ x3,xu▸cx a7 nu aS ie x hx⟩
    .have old:u=r\/(0<=u/\u<m/\u≠r/\d u∈(bO m C r d f r).take i):=by
      rcases hu with y|⟨y1,y2,y3,y4⟩
      .exact .inl y
      .rw[an]at y4;rcases aY.mp y4 with y4|y4
       .exact .inr ⟨y1,y2,y3,y4⟩
       .have pu:d u=v:=aI.mp y4;have uk:u∈kd m C r d v:=(bw g R W.1 W.2).mpr ⟨⟨y1,y2⟩,y3,pu⟩;rw[<-am]at uk;obtain⟨x,hx,e⟩:=aP.mp uk;obtain⟨kv,YF,cn,_⟩:=pm2 x hx;exact absurd (by rw[cn,e]) (k1' kv YF)
     obtain⟨q1,cS,c5,o1,o2,o3⟩:=wt u old;exact⟨q1,cS,c5,by rw[k2'];exact o1,kp _ _ (s7 _ _ (tp _ _ o2)),o3⟩
  walk_at "";refine⟨T.Tally,dx,_,s5 _ _ ob,T.cV,T.rA,_,p9 _ _ _ _ _ _,Υ (s5 _ _ TA.hk) (cT W.1 (by rw[aA,Xp];rfl)) ?_⟩;have vn:v∉(bO m C r d f r).take i:=λy=>by
   obtain⟨j,hj,ej⟩:=jQ y;rw[bq]at hj;rw[List.getElem_take]at ej;have:=(fS (show j<(bO m C r d f r).length by lia) nd).mp (show(bO m C r d f r)[j]?=(bO m C r d f r)[i]? by rw[hv,ao (by lia),ej])
   lia
  have v1:v∈(bO m C r d f r).take (i+1):=by rw[an];exact aW _ (.head _)
  have un:∀u,u≠v->(u∈(bO m C r d f r).take (i+1)↔u∈(bO m C r d f r).take i):=λu nu=>by
   rw[an];exact⟨λy=>(aY.mp y).elim id λy=>absurd (aI.mp y) nu,λy=>bo _ y⟩
  by_cases c:kd m C r d v=[]
  .refine⟨false,.inl ⟨_,ξ.of (s5 _ _ Wi),by rw[c];rfl⟩,?_⟩;rw[aj rfl];refine W2 w2 rfl (xi ex W.1 (by rw[aa];lia) ?_);rw[<-gX];refine a9 (xs.set v.toNat h0) _ (s5.put cp _) ay (by rw[aR (Ne.symm aC)];exact ew) (λq x e=>by rw[aR (gV e ex (by intro y;cases y))];exact e) (by rw[eO];exact xl) λu u0 u1=>?_;rw[zy _ _ _ _ (by lia)];by_cases cu:u=v
   .subst cu;rw[aj rfl];exact⟨λ_=>⟨λ_=>⟨h0,n0,rfl,w3⟩,λy=>absurd c y⟩,λy=>absurd v1 y⟩
   .rw[ag (by lia),un u cu];exact pr5 u u0 u1
  .refine⟨true,.inl ⟨_,ξ.of (s5 _ _ Wi),by cases e:kd m C r d v with|nil=>exact absurd e c|cons a b=>rfl⟩,?_⟩;rw[ag (by decide)];refine a9 xs Y s5 ex ew (λ_ _ e=>e) xl λu u0 u1=>?_;by_cases cu:u=v
   .subst cu;exact⟨λ_=>⟨λy=>absurd y c,λ_=>(pr5 u u0 u1).2 vn⟩,λy=>absurd v1 y⟩
   .rw[un u cu];exact pr5 u u0 u1
 .rintro BB σ Y ϗ ⟨s5,xs,Z,v5,v6,ex,ew,xl,kl5,wt,pr5,rfl⟩;rw[aa,bx]at pr5;refine ϗ _ _ (h3 _ _ ?_);walk_at "";refine⟨_,.inl ⟨ξ.of ex,λl nl=>q l xs _ (by lia) (λu u0 u1=>(pr5 u u0 u1).1 (pn u u0 u1)) (s5.free nl) (s5.trans (δ.new _ nl)) ay⟩⟩
theorem AR{m:Int}{b:hU}{r:Int}{a:f5}{c:gb}(g:Good m b)(R:ζ m b r a c)(k:Int)(d:0<=k)(f:k<m)(e:k≠r):(cK b a k:Int)=tup b a k:=br (by have:=(fT g R d f e).1;lia)
theorem Vx{m:Int}{f:hU}{r:Int}{c:f5}{e:gb}{q:f3}(g:Good m f)(R:ζ m f r c e)(O:Order m r c q){v:Int}{z:Nat}(u:0<=v)(t:v<m)(H:ο m f r c e v*((z:Int)+1)<=2^64):wx m f r c e q v z (λ_ j _ y=>j<=z/\∀x∈y,ο m f r c e x.1*((x.2.1:Int)+1)<=2^64):=by
 intro i k j Q y A J I E L ⟨_,F⟩ M G _ _ _ _;have N:=(ff g R u t).1;obtain⟨B,C,D⟩:=(bw g R u t).mp (aQ E);have o:∀a:Nat,a<=z->ο m f r c e v*((a:Int)+1)<=2^64:=λa h=>bE (cj (by lia) (by lia)) H;have s:∀x∈(kd m f r c v).drop (i+1),x∈kd m f r c v:=λx h=>b5 h;have l:∀x∈kd m f r c v,0<=x/\x<m:=λx h=>((bw g R u t).mp h).1;have b:=IG (fr:=ϝ m f r c e q) (be:=Ϩ m f r c e q) g R O (AR g R) (x:=64) u t (λx h=>Ia g R O (AR g R) _ (l x h).1 (l x h).2 (ap _)) s (o (j-A) (by lia));have p:=pG (fr:=ϝ m f r c e q) (be:=Ϩ m f r c e q) (ws:=λk g=>iD m f r c e q k (τ (cK f c k) g)) (ks:=(kd m f r c v).drop (i+1)) (λx h n=>sZ g R _ (l x (s x h)).1 (l x (s x h)).2 (ap _) _) (j-A);have d:=sU (λk=>ϐ m f r c e k+1) (kd m f r c v) (i+1);rw[gj g R u t]at d;have dl:=mr g R u t;have Ο:=g.Ο;rw[G.val];refine⟨by unfold iD at p ⊢;lia,Int.lt_of_le_of_lt b (by
  rw[show(2:Int)^9000=2^8999*2 from Int.pow_succ ..];have:=zP (a:=64*(((kd m f r c v).drop (i+1)).map λk=>ϐ m f r c e k+1).sum) (b:=8999) (by lia);have:=lM 8999
  lia),by lia,λx hx=>?_⟩
 rcases aY.mp hx with hx|hx
 .exact F x hx
 .rw[aI.mp hx];have:=De g R O B.1 B.2 C (AR g R k B.1 B.2 C) A;rw[D]at this;exact bE this (o A (by lia))
def RkI(m:Int)(c:hU)(r:Int)(a:f5)(b:gb)(e:f3)(v:Int)(z:Nat)(j:Int)(i d:Nat)(f:Int)(h:hL):Prop:=d<=z/\0<=f/\f<ς (ϝ m c r a b e) (Ϩ m c r a b e) (λk g=>iD m c r a b e k (τ (cK c a k) g)) ((kd m c r a v).drop i) d/\∃ch:List (Int×Nat×Int),h=ch.map (λx=>(x.1,τ (cK c a x.1) x.2.1,x.2.2))/\(∀x∈ch,x.2.1<=z/\0<=x.2.2/\x.2.2<iD m c r a b e x.1 (τ (cK c a x.1) x.2.1))/\∀l,Rk (ϝ m c r a b e) (Ϩ m c r a b e) (λk g=>iD m c r a b e k (τ (cK c a k) g)) ((kd m c r a v).drop i) d l f->Rk (ϝ m c r a b e) (Ϩ m c r a b e) (λk g=>iD m c r a b e k (τ (cK c a k) g)) (kd m c r a v) z (ch++l) j
theorem VJ{m:Int}{e:hU}{r:Int}{a:f5}{d:gb}{l:f3}(g:Good m e)(R:ζ m e r a d)(O:Order m r a l){v t:Int}{z:Nat}(u:0<=v)(o:v<m)(hz:ο m e r a d v*((z:Int)+1)<=2^64):wx m e r a d l v z (RkI m e r a d l v z t):=by
 intro i k j nu al n T D p F ⟨_,n0,Y,ch,S,Z,P⟩ G y E I ge H;have s:∀v,0<=v->v<m->v≠r->1<=cK e a v/\cK e a v<=1000000:=λx Q M U=>by
  have:=fT g R Q M U;unfold cK
  lia
 have fb:∀k,ϝ m e r a d l k=true->Ϩ m e r a d l k=false:=λk h=>by
  unfold ϝ at h;unfold Ϩ;rw[b9]at h;have:=bN h.2;exact bA this
 have V:∀x∈kd m e r a v,∀i,1<=(λk g=>iD m e r a d l k (τ (cK e a k) g)) x i:=λx hx i=>by
  have J:=((bw g R u o).mp hx).1;exact sZ g R _ J.1 J.2 (ap _) _
 have A:=λ(q:Nat)(W:q<=j+1)=>Ij (fr:=ϝ m e r a d l) (be:=Ϩ m e r a d l) (c:=cK e a) g R s u o p y E W;obtain⟨a1,a2,⟨a3,N⟩,a5⟩:=Rk.go p V P n0 Y G (λ_ b=>I b) (λf b=>ge b f) (λf=>by
  have B:=A n (by lia);have C:=A (n+1) (by lia);unfold lE at B C;rw[aj f,aj f]at B C;have:=H (fb k f) f;rw[B,C]at this;exact this)
 have L:=Vx g R O u o hz i k j nu [] n T D p F ⟨F,λx hx=>(by cases hx)⟩ G y E I ge H;refine⟨L.1,L.2.1,?_⟩;rw[y.val,A n (by lia)];exact⟨by lia,a1,a2,ch++[(k,n,_)],by rw[S,aw];rfl,λx hx=>by
  rcases aY.mp hx with hx|hx
  .exact Z x hx
  .rw[aI.mp hx];exact⟨show n<=z by lia,a3,N⟩,a5⟩
theorem VP{m:Int}{c:hU}{r:Int}{a:f5}{b:gb}{o:f3}(g:Good m c)(R:ζ m c r a b)(O:Order m r a o){n u:gb}{p:f5}(N:ϳ m c r a b (ϝ m c r a b o) (Ϩ m c r a b o) (cK c a) n u p){v:Int}(j:0<=v)(i:v<m)(z:ο m c r a b v*((n v:Int)+1)<=2^64):∃I:Nat->Nat->Int->List (Int×Nat×Int)->Prop,I 0 (n v) (p v) []/\wx m c r a b o v (n v) I/\∀d s l,I (kd m c r a v).length d s l->∀x∈l,x.2.1=n x.1/\x.2.2=p x.1/\ο m c r a b x.1*((x.2.1:Int)+1)<=2^64:=by
 have bd:=N.bd g R j i;rw[jE g R j i]at bd;refine⟨RkI m c r a b o v (n v) (p v),⟨ap _,bd.1,bd.2,[],rfl,λx t=>(by cases t),λE h=>h⟩,VJ g R O j i z,?_⟩;rintro d s l ⟨_,F,y,ch,rfl,_,P⟩ x t;rw[f9]at y P;have:s=0:=by have:s<1:=y;lia
 subst this;have h:=P [] (.nil _);rw[bH]at h;have e:ch=(kd m c r a v).map λk=>(k,u k,p k):=h.inj (uE g R j i) (N.at_ v j i) rfl;subst e;rw[cZ]at t;obtain⟨k,B,rfl⟩:=aP.mp t;obtain⟨f,q,A⟩:=(bw g R j i).mp B;have C:=(N.kid g R f.1 f.2 q).2.1;have w:=De g R O f.1 f.2 q (AR g R k f.1 f.2 q) (u k);rw[A]at w C;have D:=(ff g R j i).1;exact⟨(N.up k f.1 f.2 q).symm,rfl,bE w (bE (cj (by lia) (by lia)) z)⟩
def yK(T:Txt K X):Sp:=λn H Q E=>E8 λ(p t:Addr)(m:Int)(k:gw)(d:hU)(r w e:Int)=>n=[.ref p,.int r,.int w,.int e]/\χ T.Web H p m t k d/\w<=10^60/\-(10^60)<=w/\(0<=r->r<m->1<=w->∃a b,ζ m d r a b/\(gE m d r a (dD m d r a b) w+1<=1000000000000->∀f,Order m r a f->bO m d r a b r=r::f->((0<=e/\e<iD m d r a b f r (w-1).toNat)->∀(l:Addr)(g:f3)(h j:gb)(i:f5)(c:Hp),ϳ m d r a b (ϝ m d r a b f) (Ϩ m d r a b f) (cK d a) h j i->(h r:Int)=w-1->i r=e->(g.length:Int)=m->(∀v,0<=v->v<m->g.getD v.toNat 0=if kd m d r a v=[]then(h v:Int)else 0)->H l=none->δ H c->c l=some (.tup (g.map V.int))->Q (.ref l) c)/\(¬(0<=e/\e<iD m d r a b f r (w-1).toNat)->∀c,δ H c->E (.ref T.NoNumber) none c))/\(1000000000000<gE m d r a (dD m d r a b) w+1->∀c,δ H c->E (.ref T.TooMany) none c))/\(¬(0<=r/\r<m)->∀c,δ H c->E (.ref T.NoPlace) none c)/\(0<=r->r<m->w<1->∀c,δ H c->E (.ref T.BadWish) none c)
abbrev ow:Stmt:=top 53
theorem HF:η ["web","r","wanted","number","tally"] ["web","r","wanted","number"] (aK ow):=.of
theorem rP:Ϝ (aK ow) "Tally":=.of (by kernel_rfl)
theorem qf:Ϝ (aK ow) "NoNumber":=.of (by kernel_rfl)
abbrev vi(P w base)(T:Txt K X):=Cb P w K X base "check_told" kG ["web","r","wanted"] 10 (rM T)
theorem HL(T:Txt K X)(hq:cg (Ε P w)){ι:Addr}{eB:FuncData}(gD:Yh K "__init__" "Tally.__init__" eU ι eB)(oB:Binds K eB ["self","web","r"] [])(oz:Mk K T.Tally ι)(Β:ϓ P w K X base (Ε P w) 10 ι eB ["self","web","r"] (lV T))(mi:vi P w base T)(ux:Cb P w K X base "laying_at" qV ["tally","held","number"] 9 (xH T))(lm:nT P w base T):Ok P w K X base "worst_at" ow ["web","r","wanted","number"] 12 (yK T):=λ_ _ D=>by
 refine D.F.W4 HF (by walk_at "v") λΑ A ai s H vs Q E hr h=>?_;obtain⟨p,t,m,ps,i,r,w,q,rfl,W,w2,w0,k,e,e'⟩:=h;have g:=W.go;refine⟨_,(aD (dq (ϡ mi hr dR (ah (ε 0) (ah (ε 1) (ah (ε 2) aB))))) (aD (Δ 4 (xX oz Β (hr.mono (by decide)) rP.g T.Ci oB .nil dR (ah (ε 0) (ah (ε 1) aB)) (hdb:=rP.d))) (aD (eK (kN (zK vg qd aU (ε 3) (ϡ lm hr dR (ah (ε 4) (ah (ε 1) (ah (bn iI (ε 2) aU) aB)))))) (aO (oY T.sk rfl qG qf.g T.AL (ah sH aB) (hdb:=qf.d))) dy) (aO (bQ (ϡ ux hr dR (ah (ε 4) (ah (bn iI (ε 2) aU) (ah (ε 3) aB))))))))),?_⟩;walk_at "s";walk_at "";refine⟨p,t,m,ps,i,r,w,rfl,W,w2,w0,λy B w1=>?_,e,e'⟩;obtain⟨a,f,R,k1,k2⟩:=k y B w1;refine⟨a,f,R,λcb Z s1=>?_,k2⟩;dsimp only;intro x O hx al ne;have ad:upd Z O (.own x) x=none:=by rw[aR ne.symm];exact hx
 have s0:δ Z (upd (upd Z O (.own x)) x (.ins T.Tally O [])):=(δ.new _ al).trans (δ.new _ ad);refine⟨x,O,p,t,m,ps,i,r,rfl,ay,(W.same s1).same s0,⟨y,B⟩,a,f,R,λC ld lw lb lk lr kl rv H2 TA kp=>⟨rfl,?_⟩⟩;have s2:δ Z H2:=λb o e=>kp b o (s0 b o e) (cq e hx);have U:=s1.trans s2;obtain⟨k3,k4⟩:=k1 cb C TA.or TA.et;obtain⟨n,rfl⟩:∃n:Nat,w=((n+1:Nat):Int):=⟨(w-1).toNat,by lia⟩;have N:((n+1:Nat):Int)-1=(n:Int):=by lia
 have top:=Rm g R y B w1;have W1:=(ff g R y B).1;have nb:(n:Int)+1<=2^64:=vA W1 (by lia) (b:=2^64) (by rw[show(n:Int)+1=((n+1:Nat):Int)from rfl];lia);rw[N,bJ]at k3 k4;rw[N];have L:∀Y,δ H Y->¬(0<=q/\q<iD m i r a f C r n)->[V.str (Str.ofString "no worst laying has this number")].length<=sizeLine/\E (Value.ref T.NoNumber) none Y:=λY s' h=>⟨cm (by simp),k4 h Y s'⟩;by_cases M:0<=q
 .rw[aj M];obtain⟨_,lp,ϱ,h1,h2,h3,h4⟩:=TA.ϛ r ⟨y,B⟩;obtain⟨sr,es⟩:=vL (kd m i r a r);rw[es]at h4;obtain⟨ZZ,ob⟩:=TA.ob;have XT:=jE (fr:=ϝ m i r a f C) (be:=Ϩ m i r a f C) (c:=cK i a) g R y B;cases h4 with
  | cons e he=>
    obtain⟨cs,G,c2⟩:=e;have c3:=c2.le (b':=15000) (sJ (by have:=gj g R y B;have:=mr g R y B;have:=g.Ο;lia));have cl:=c3.len;refine⟨x,ZZ,lr,lp,_,_,rv,_,r,cs,n,rfl,ob,oJ _ _ _ _ _ _,TA.hr,y,h1,h3,G,by lia,hW (k:=64) (by lia) (by decide),λc hc=>hW (c3.bt c hc) (by decide),λj hj=>Dp (x:=64) (by lia) (by lia),λH3 S=>?_⟩;have ew:Τ cs n 0=iD m i r a f C r n:=by
     rw[c3.val];unfold iD;rw[XT]
    rw[ew];refine⟨_,rfl,?_⟩;by_cases G:q<iD m i r a f C r n
    .rw[ag (by lia)];obtain⟨cn,gv,Xx,NS,en,eb⟩:=ϳ.ex (fr:=ϝ m i r a f C) (be:=Ϩ m i r a f C) (c:=cK i a) g R y B M G;refine⟨x,p,t,m,ps,i,r,a,f,C,ld,lw,lb,lk,lr,kl,rv,q,n,λu h nu=>h=cn u/\nu=Xx u/\ο m i r a f u*((h:Int)+1)<=2^64,rfl,TA.same S,⟨y,B⟩,⟨en.symm,eb.symm,(show ο m i r a f r*((n+1:Nat):Int)<=2^64 by lia)⟩,?_,λl xs H4 xl xv nl s4 el=>k3 ⟨M,G⟩ l xs cn gv Xx H4 NS (by lia) eb xl (λv J I=>?_) (U.free (S.free nl)) (U.trans (S.trans s4)) el⟩
     .rintro v h nu J I ⟨rfl,rfl,hw⟩;exact⟨vA (ff g R J I).1 (by lia) hw,VP g R TA.or NS J I hw⟩
     .split
      .rename_i kz
       obtain⟨h,nu,N,rfl,_⟩:=(xv v J I).1 kz;exact N
      .rename_i kz
       exact(xv v J I).2 kz
    .rw[aj G];exact L _ (U.trans S) λz=>G z.2
 .rw[ag M];exact L _ U λz=>M z.1
def wf(T:Txt K X):Sp:=λf H Q _=>E7 λ(p t:Addr)(m:Int)(g:gw)(c:hU)(r:Int)(n:Nat)=>f=[.ref p,.int r,.int (n+1:Nat)]/\χ T.Web H p m t g c/\(0<=r/\r<m)/\n+1<=2^4000/\∃a b,ζ m c r a b/\∀d e,Order m r a d->bO m c r a b r=r::d->δ H e->Q (.int (iD m c r a b d r n)) e
abbrev nM:Stmt:=top 52
theorem Ea:η ["web","r","wanted"] ["web","r","wanted"] (aK nM):=.of
theorem qj:Ϝ (aK nM) "Tally":=.of (by kernel_rfl)
theorem D4(T:Txt K X)(C:cg (Ε P w)){u:Addr}{J:FuncData}(gD:Yh K "__init__" "Tally.__init__" eU u J)(oB:Binds K J ["self","web","r"] [])(oz:Mk K T.Tally u)(Β:ϓ P w K X base (Ε P w) 10 u J ["self","web","r"] (lV T))(kC:p6 P w base T)(V:nT P w base T):Ok P w K X base "worst_many" nM ["web","r","wanted"] 12 (wf T):=λ_ _ D=>by
 refine D.F.Ϙ Ea (by walk_at "v") λΑ A G s H vs Q E hr h=>?_;obtain⟨p,t,m,M,l,r,n,rfl,W,f,nb,a,i,R,k⟩:=h;have g:=W.go;refine⟨_,(aD (dq (Ν kC hr C (ah (ε 0) (ah (ε 1) (ah (ε 2) aB))))) (aO (bQ (Ν V hr C (ah (xX oz Β (hr.mono (by decide)) qj.g T.Ci oB .nil (t7 C) (ah (ε 0) (ah (ε 1) aB)) (hdb:=qj.d)) (ah (ε 1) (ah (bn iI (ε 2) aU) aB))))))),?_⟩;walk_at "s";walk_at "";refine⟨p,t,m,M,l,r,((n+1:Nat):Int),rfl,W,λ_ _ _=>?_,λz=>absurd f z,λ_ _ z=>absurd z (by lia)⟩;dsimp only;intro x q L I ne;have B:upd H q (.own x) x=none:=by rw[aR ne.symm];exact L
 have O:δ H (upd (upd H q (.own x)) x (.ins T.Tally q [])):=(δ.new _ I).trans (δ.new _ B);refine⟨x,q,p,t,m,M,l,r,rfl,ay,W.same O,f,a,i,R,λy ld lw lb lk lr kl rv H2 TA kp=>⟨rfl,?_⟩⟩;have Y:δ H H2:=λb o e=>kp b o (O b o e) (cq e L);obtain⟨_,lp,ϱ,h1,h2,h3,N⟩:=TA.ϛ r f;obtain⟨sr,es⟩:=vL (kd m l r a r);rw[es]at N;obtain⟨ZZ,ob⟩:=TA.ob;have XT:=jE (fr:=ϝ m l r a i y) (be:=Ϩ m l r a i y) (c:=cK l a) g R f.1 f.2;have Z:((n+1:Nat):Int)-1=(n:Int):=by lia
 have e4:(2:Nat)^4000<=2^4000:=ap _;cases N with
 | cons e he=>
   obtain⟨cs,S,U⟩:=e;have v:=U.le (b':=15000) (sJ (by have:=gj g R f.1 f.2;have:=mr g R f.1 f.2;have:=g.Ο;lia));have cl:=v.len;rw[Z];refine⟨x,ZZ,lr,lp,_,_,rv,_,r,cs,n,rfl,ob,oJ _ _ _ _ _ _,TA.hr,f.1,h1,h3,S,by lia,hW (k:=4000) (by lia) (by decide),λc hc=>hW (v.bt c hc) (by decide),λj hj=>Dp (x:=4000) nb (by lia),λH3 s3=>?_⟩;rw[v.val];have:=k y H3 TA.or TA.et (Y.trans s3);unfold iD at this;rw[XT]at this;exact this
theorem JJ{m:Int}{b:hU}{r:Int}{a:f5}{c:gb}(g:Good m b)(R:ζ m b r a c)(k:Int)(d:0<=k)(f:k<m)(e:k≠r):1<=cK b a k/\cK b a k<=1000000:=by
 have:=fT g R d f e;unfold cK
 lia
def rQ(T:Txt K X):Sp:=λA H Q _=>E23 λ(o p t:Addr)(m:Int)(q:gw)(c:hU)(r:Int)(a:f5)(b:gb)(f:f3)(ld z x y B:Addr)(s:gw)(n:List V)(v:Int)(i l:Addr)(d e:f3)(h:Int)=>A=[.ref o,.int v,.ref i,.ref l]/\ϖ T.Web T.Tally H o p t m q c r a b f ld z x y B s n (λv=>0<=v/\v<m)/\(0<=v/\v<m)/\H i=some (.lst (d.map V.int))/\H l=some (.lst (e.map V.int))/\(d.length:Int)=m/\(e.length:Int)=m/\(∀u,0<=u->u<m->0<=d.getD u.toNat 0)/\d.getD v.toNat 0+1<=2^45/\((kd m c r a v).map λk=>d.getD k.toNat 0/tup c a k).sum<=d.getD v.toNat 0/\(∀u,0<=u->u<m->(e.getD u.toNat 0).natAbs<=2^(50000+600*ϐ m c r a b u))/\Rk (ϝ m c r a b f) (Ϩ m c r a b f) (λk g=>iD m c r a b f k (τ (cK c a k) g)) (kd m c r a v) (d.getD v.toNat 0).toNat ((kd m c r a v).map λk=>(k,(d.getD k.toNat 0/tup c a k).toNat,e.getD k.toNat 0)) h/\∀(j:Hp),h.natAbs<=2^(50000+600*ϐ m c r a b v)->δ H j->Q (.int h) j
abbrev ig:Stmt:=top 69
theorem lX:η ["tally","place","held","numbers","number","left","at","kid","given"] ["tally","place","held","numbers"] (aK ig):=.of
theorem nO:Zt (aK ig) "number":=.of (by kernel_rfl)
theorem ui:Zt (aK ig) "left":=.of (by kernel_rfl)
theorem q9:Ϝ (aK ig) "enumerate":=.of (by kernel_rfl)
theorem yA(T:Txt K X)(hq:cg (Ε P w))(kD:ky P w base T)(dA:mv P w base T)(kZ:t4 P w base T):Ok P w K X base "number_beneath" ig ["tally","place","held","numbers"] 8 (rQ T):=λ_ _ D=>by
 refine D.F.Ϙ lX (by walk_at "v") λΑ A bS s H vs Q E hr h=>?_;obtain⟨o,p,t,m,ps,B,r,a,G,tl,ld,lw,lb,lk,lr,kl,rv,v,lh,ln,J,ns,WG,rfl,TA,I,eh,en,hl,nl,h0,hv,a1,nb,bt,q⟩:=h;have hu:=sg hr;have g:=TA.web.go;have R:=TA.rt;have ea:(kd m B r a v).length<=24:=zp g;refine⟨_,(aD (Δ 4 aU) (aD (Δ 5 (Ι bL (ε 2) (ε 1))) (aD (fm PassesOwn.never rfl (xQ true q9.g T.enumerate (Ι bL (dB (ε 0) rfl) (ε 1))) (kM (n:=2) rfl (cz (ϒ 6) (cz (ϒ 7) iM))) (aD (Δ 8 (bn gO (Ι bL (ε 2) (ε 7)) (Ν kD hr hq (ah (dB (ε 0) rfl) (ah (ε 7) (ah (ε 1) aB)))))) (aD (sL (i:=4) lX.nd rfl (Or.inl nO.l) (Ν kZ hr hq (ah (ε 0) (ah (ε 1) (ah (ε 6) (ah (ε 5) (ah (ε 8) aB)))))) wz) (aD (sL (i:=5) lX.nd rfl (Or.inl ui.l) (ε 8) Fn) (aO (sL (i:=4) lX.nd rfl (Or.inl nO.l) (bn pI (Ι bL (ε 3) (ε 7)) (Ν dA hr hq (ah (Ι bL (mQ bL (dB (ε 0) rfl) (ε 1) (λ_ _=>rfl)) (bn eP (ε 6) aU)) (ah (ε 5) aB)))) wz)))))) (aO (bQ (ε 4)))))),?_⟩;walk_at "s";refine cL λN1 h1=>?_;walk_at "";refine h1 _ _ (cL λN2 h2=>?_);walk_at "";refine Υ eh (WD I.1 (by lia)) (h2 _ _ (cL λN3 h3=>?_));walk_at "";obtain⟨dx,ob⟩:=TA.ob;have b3:(b6 m.toNat)[v.toNat]?=some v:=by rw[fL (by lia),br I.1]
 obtain⟨ϻ,Xp,Wi⟩:=tD TA.kp b3;refine⟨T.Tally,dx,_,ob,T.cV,T.rA,_,p9 _ _ _ _ _ _,Υ TA.hk (cT I.1 (by rw[aA,Xp];rfl)) ⟨ϻ,rfl,⟨_,ξ.of Wi⟩,?_⟩⟩;refine zO (K:=K) (c:=true) (xs:=(kd m B r a v).map V.int) (λi σ S=>δ H S/\E5 λ(Z left:Int)(v6 v7 v8:Option V)=>left=J.getD v.toNat 0-(((kd m B r a v).take i).map λk=>J.getD k.toNat 0/tup B a k).sum/\Z.natAbs<=i*2^(50000+600*ϐ m B r a G v-590)/\(∃nr,Rk (ϝ m B r a G tl) (Ϩ m B r a G tl) (λk g=>iD m B r a G tl k (τ (cK B a k) g)) ((kd m B r a v).drop i) left.toNat (((kd m B r a v).drop i).map λk=>(k,(J.getD k.toNat 0/tup B a k).toNat,ns.getD k.toNat 0)) nr/\WG=Z+nr)/\σ=[some (V.ref o),some (V.int v),some (V.ref lh),some (V.ref ln),some (V.int Z),some (V.int left),v6,v7,v8]) ⟨δ.refl _,0,_,_,_,_,(nJ _).symm,bj _,⟨WG,bt,(cQ _).symm⟩,rfl⟩ (λi σ S y=>ξ.of (y.1 _ _ Wi)) ?_ ?_
 .rintro i x σ S q' N hN hx ⟨s2,Z,left,v6,v7,v8,el,nn,⟨nr,rk,acn⟩,rfl⟩ nq;obtain⟨k,hk,rfl⟩:=List.μ hx;have il:=(az.mp hk).1;have s3:=s2.trans (δ.new (HO.tup [V.int (i:Int),V.int k]) nq);have bp:upd S q' (HO.tup [V.int (i:Int),V.int k]) q'=some (.tup [V.int (i:Int),V.int k]):=ay;walk_at "";refine⟨_,Ξ.of bp,rfl,_,_,rfl,_,_,rfl,rfl,?_⟩;generalize upd S q' (HO.tup [V.int (i:Int),V.int k])=H3 at s3 ⊢;have U:=TA.same s3;obtain⟨b2,cd⟩:=U.ob;obtain⟨bd,lp,Ze,Wc,We,cs,csk,C,c1,c2⟩:=U.co I hk;obtain⟨k1,k2,k3⟩:=(bw g R I.1 I.2).mp (aQ hk);have et:tup B a k=(cK B a k:Int):=by
   unfold tup;rw[k3,C.tl]
   rfl
  have cS:=C.c2.1;have a2:=C.c2.2;have ts:=Gm (f:=λk=>J.getD k.toNat 0/tup B a k) hk;have f0:∀u∈kd m B r a v,0<=J.getD u.toNat 0/tup B a u:=λu h=>by
   obtain⟨L,u2,u3⟩:=(bw g R I.1 I.2).mp h;exact ip (h0 u L.1 L.2) (by have:=(fT g R L.1 L.2 u2).1;lia)
  have WG:(((kd m B r a v).take (i+1)).map λk=>J.getD k.toNat 0/tup B a k).sum<=J.getD v.toNat 0:=by
   refine bE ?_ a1;have e:((kd m B r a v).map λk=>J.getD k.toNat 0/tup B a k).sum=(((kd m B r a v).take (i+1)).map λk=>J.getD k.toNat 0/tup B a k).sum+(((kd m B r a v).drop (i+1)).map λk=>J.getD k.toNat 0/tup B a k).sum:=(by rw[<-c7,<-aw,b8]);have:=CC (f:=λk=>J.getD k.toNat 0/tup B a k) (l:=(kd m B r a v).drop (i+1)) λu h=>f0 u (b5 h)
   lia
  have t0:=CC (f:=λk=>J.getD k.toNat 0/tup B a k) (l:=(kd m B r a v).take i) λu h=>f0 u (fU h);have fk:=f0 k (aQ hk);refine Υ (s3 _ _ eh) (WD k1.1 (by lia)) ⟨T.Tally,b2,_,cd,T.cV,T.RW,_,pB _ _ _ _ _ _,p,t,m,ps,B,k,v,rfl,U.web,λc' _ _ _ _ YL=>?_,λno=>absurd ⟨k1,I⟩ no,λ_ _ _ _ YL=>absurd (C.tl.symm.trans YL) (by intro z;cases z)⟩;have:c'=(cK B a k:Int):=bi (YL.symm.trans C.tl);subst this;refine⟨_,rfl,_,rfl,⟨by lia,by lia⟩,?_⟩;rw[<-et];rw[ck il,bi ((ao il).symm.trans hk),aq]at rk;obtain⟨_,ca,Y,ZL⟩:=rk.Yl;generalize hg:J.getD k.toNat 0/tup B a k=gz at ts fk Y ZL ⊢;obtain⟨M,rfl⟩:∃M:Nat,gz=M:=⟨gz.toNat,by lia⟩;generalize hw:(((kd m B r a v).take i).map λk=>J.getD k.toNat 0/tup B a k).sum=S0 at ts el t0;rw[ts]at WG;obtain⟨O,rfl⟩:∃O:Nat,left=O:=⟨left.toNat,by lia⟩;rw[bJ,bJ]at Y ZL;obtain⟨lf,a4⟩:∃lf:Nat,(O:Int)-(M:Int)=lf:=⟨O-M,by lia⟩;have ad:O-M=lf:=by lia
  have bv:=Ij (fr:=ϝ m B r a G tl) (be:=Ϩ m B r a G tl) (c:=cK B a) g R (JJ g R) I.1 I.2 hk c1 c2 (left:=O) (g:=M) (by lia);refine⟨o,p,t,lk,bd,lr,lp,Ze,Wc,We,m,ps,B,v,k,(O:Int),cK B a k,i,cs,csk,_,_,M,rfl,C,by lia,by lia,by lia,by lia,λH5 s5=>⟨_,rfl,?_⟩⟩;have ac:=s3.trans s5;have C5:=C.same s5;obtain⟨a3,aS,bk,es,d2,Z4⟩:=C5.ob;obtain⟨dt,a8,c4,r1,r2,r3,r4,r5,r6⟩:=C5.re;have gl:ϲ a8 ((i:Int)+1)=some (.ref Ze):=cT (by lia) (by rw[show((i:Int)+1).toNat=i+1 by lia];exact r4);refine Υ (ac _ _ en) (WD k1.1 (by lia)) ⟨T.Tally,a3,aS,bk,T.cV,T.ϴ,_,Z4,Υ r1 (cT I.1 r2) ⟨_,rfl,Υ r3 gl ?_⟩⟩;rw[a4];have a6:=C.cl.1;refine⟨Ze,cs,(lf:Int),rfl,ξ.of C5.ed,by lia,by lia,hW (k:=65) (by lia) (by decide),Bo C.cb.1,λj hj=>uB (by lia) (by lia) (by lia),λH6 s6=>?_⟩;rw[pH,c1.val];have wk:=Rz (m:=m.toNat) (cs:=cs) (csk:=csk) (c:=cK B a k) (z:=(O:Int)) (g:=M) (by have:=g.Ο;lia) (by lia) (by lia) (by lia) a2 a6 C.cl.2 C.cb.1 C.cb.2;have wo:=(xP (fr:=ϝ m B r a G tl) (be:=Ϩ m B r a G tl) (W:=iD m B r a G tl) (c:=cK B a) (d:=ϐ m B r a G) (ks:=(kd m B r a v).drop (i+1)) (λu h=>by
   obtain⟨L,u2,u3⟩:=(bw g R I.1 I.2).mp (b5 h);exact AD g R (JJ g R) _ L.1 L.2 (ap _)) λu h=>by
   obtain⟨L,u2,u3⟩:=(bw g R I.1 I.2).mp (b5 h);exact JJ g R u L.1 L.2 u2).2 45 lf (by lia)
  have d1:=sU (λk=>ϐ m B r a G k+1) (kd m B r a v) i;have a0:(kd m B r a v)[i]=k:=bi ((ao il).symm.trans hk);rw[gj g R I.1 I.2,ck il,a0,aq,aN]at d1;have dl:=mr g R I.1 I.2;have Ο:=g.Ο;obtain⟨mo,a9⟩:=R7 (b:=if ϝ m B r a G tl k=true then Τ (ϩ (ϰ m.toNat (Ϲ cs csk (cK B a k) (O:Int)))) M 0 else 0) nn (by
   split
   .exact wk
   .exact bj _) (nb k k1.1 k1.2) wo d1 (by lia)
  exact⟨_,rfl,_,rfl,mo,hN _ _ ⟨ac.trans s6,_,_,_,_,_,by lia,a9,⟨ca,by rw[bJ,<-ad];exact Y,by rw[bv,acn,ZL,ad];unfold iD;lia⟩,rfl⟩⟩
 .rintro σ S ⟨s2,Z,left,v6,v7,v8,el,nn,⟨nr,rk,acn⟩,rfl⟩;rw[aa]at nn rk;rw[f9]at rk;have:Z=WG:=by rw[acn,rk.dO,lq]
  subst this;refine h3 _ _ ?_;walk_at "";refine q S (aL nn (aL (cY _ (show _<=2^5 by lia)) ?_)) s2;rw[<-eR];exact bB (by decide) (by lia)
def wW(T:Txt K X):Sp:=λz H Q _=>E22 λ(o p t:Addr)(m:Int)(n:gw)(c:hU)(r:Int)(a:f5)(b:gb)(e:f3)(ld y s x A:Addr)(q:gw)(j:List V)(h:Addr)(d:f3)(f l:gb)(g:f5)=>z=[.ref o,.ref h]/\ϖ T.Web T.Tally H o p t m n c r a b e ld y s x A q j (λv=>0<=v/\v<m)/\(0<=r/\r<m)/\H h=some (.lst (d.map V.int))/\(d.length:Int)=m/\(∀u,0<=u->u<m->0<=d.getD u.toNat 0/\d.getD u.toNat 0+1<=2^45/\((kd m c r a u).map λk=>d.getD k.toNat 0/tup c a k).sum<=d.getD u.toNat 0)/\ϳ m c r a b (ϝ m c r a b e) (Ϩ m c r a b e) (cK c a) f l g/\(∀u,0<=u->u<m->d.getD u.toNat 0=f u)/\∀(i:Hp),δ H i->Q (.int (g r)) i
abbrev oN:Stmt:=top 68
theorem FP:η ["tally","held","numbers","place"] ["tally","held"] (aK oN):=.of
theorem uM:Ϝ (aK oN) "reversed":=.of (by kernel_rfl)
theorem F2(T:Txt K X)(hq:cg (Ε P w))(oX:Cb P w K X base "number_beneath" ig ["tally","place","held","numbers"] 8 (rQ T)):Ok P w K X base "number_of" oN ["tally","held"] 9 (wW T):=λ_ _ D=>by
 refine D.F.Ϙ FP (by walk_at "v") λΑ A ae s H vs Q E hr h=>?_;obtain⟨o,p,t,m,ps,d,r,a,b,tl,ld,lw,lb,lk,lr,kl,rv,lh,hs,cn,gv,l,rfl,TA,rm,eh,hl,hh,NS,I,q⟩:=h;have n:=sg hr;have g:=TA.web.go;have R:=TA.rt;have m1:=g.m1;have Ο:=g.Ο;refine⟨_,(aD (Δ 2 (bn sM (eD (ah aU aB)) (dB (dB (ε 0) rfl) rfl))) (aD (fm PassesOwn.never rfl (tE uM.g T.reversed (dB (ε 0) rfl)) (ϒ 3) (aO (nP (Ν oX hr hq (ah (ε 0) (ah (ε 3) (ah (ε 1) (ah (ε 2) aB))))) (rp (ε 2) (ε 3) mP)))) (aO (bQ (Ι bL (ε 2) (mQ bL (dB (ε 0) rfl) aU (λ_ _=>rfl))))))),?_⟩;walk_at "s";refine cL λN1 h1=>?_;walk_at "";obtain⟨Z,ob⟩:=TA.ob;obtain⟨dw,wb⟩:=TA.web.ob;refine⟨cm (by simp),λO ai=>?_⟩;have L:=δ.new (HO.lst [V.int 0]) ai;have e0:upd H O (HO.lst [V.int 0]) O=some (.lst [V.int 0]):=ay;generalize upd H O (HO.lst [V.int 0])=H0 at L e0 ⊢;refine⟨T.Tally,Z,_,L _ _ ob,T.cV,T.RW,_,pB _ _ _ _ _ _,p,rfl,T.Web,dw,_,L _ _ wb,T.lu,T.ϕ,_,jV _ _,O,m,_,rfl,rfl,e0,by lia,by lia,cm (by show 1*m.toNat<=100000;lia),λC Y7=>h1 _ _ (cL λN2 h2=>?_)⟩;rw[KA,<-iu];have U:=L.trans (δ.new (HO.lst ((List.replicate m.toNat (0:Int)).map V.int)) Y7);have e1:upd H0 C (HO.lst ((List.replicate m.toNat (0:Int)).map V.int)) C=some (.lst ((List.replicate m.toNat (0:Int)).map V.int)):=ay;have Y:=L.free Y7;generalize upd H0 C (HO.lst ((List.replicate m.toNat (0:Int)).map V.int))=H1 at U e1 ⊢;walk_at "";refine⟨T.Tally,Z,_,U _ _ ob,T.cV,T.uU,_,pS _ _ _ _ _ _,?_⟩;refine⟨ld,rfl,_,ξ.of (U _ _ TA.hd),?_⟩;have pr:∀u∈bO m d r a b r,0<=u/\u<m:=λu n=>by
  rw[TA.et]at n;rcases ax.mp n with rfl|y
  .exact rm
  .exact TA.or.Χ u y
 refine qK (K:=K) (xs:=(bO m d r a b r).map V.int) (λi M B=>δ H B/\∃(j:f3)(W:Option V),B C=some (.lst (j.map V.int))/\(j.length:Int)=m/\(∀u,0<=u->u<m->(j.getD u.toNat 0).natAbs<=2^(50000+600*ϐ m d r a b u))/\(∀u∈(bO m d r a b r).reverse.take i,j.getD u.toNat 0=l u)/\M=[some (V.ref o),some (V.ref lh),some (V.ref C),W]) ⟨U,_,none,e1,by rw[cU];lia,λu _ _=>?_,λu n=>(by cases n),rfl⟩ (λi M B _ z=>ξ.of (z.1 _ _ TA.hd)) ?_ ?_
 .rw[aX,fF];split<;>exact bj _
 .rintro i x M B N hN hx ⟨s5,j,W,e5,nl,nb,dn,rfl⟩;rw[<-d9]at hx;obtain⟨v,hv,rfl⟩:=List.μ hx;have f:=pr v (dM.mp (aQ hv));have ab:∀k∈kd m d r a v,k∈(bO m d r a b r).reverse.take i:=by
   have J:=hv;rw[TA.et]at J ⊢;exact Mq g R TA.or J f.1 f.2
  have eF:((kd m d r a v).map λk=>(k,(hs.getD k.toNat 0/tup d a k).toNat,j.getD k.toNat 0))=(kd m d r a v).map λk=>(k,gv k,l k):=bZ λk hk=>by
   obtain⟨G,k2,k3⟩:=(bw g R f.1 f.2).mp hk;have t2:=(fT g R G.1 G.2 k2).1;have e:=CB (c:=cK d a k) (i:=gv k) (by unfold cK;lia);rw[<-NS.up k G.1 G.2 k2,show((cK d a k:Nat):Int)=tup d a k from br (by lia)]at e;rw[dn k (ab k hk),I k G.1 G.2,e,IV t2,bJ]
  walk_at "";refine⟨o,p,t,m,ps,d,r,a,b,tl,ld,lw,lb,lk,lr,kl,rv,v,lh,C,hs,j,l v,rfl,TA.same s5,f,s5 _ _ eh,e5,hl,nl,λu S u1=>(hh u S u1).1,(hh v f.1 f.2).2.1,(hh v f.1 f.2).2.2,nb,by rw[eF,I v f.1 f.2];exact NS.at_ v f.1 f.2,λH6 xb s6=>?_⟩;refine xi (s6 _ _ e5) f.1 (by rw[aa];lia) (hN _ _ ⟨(s5.trans s6).put Y _,j.set v.toNat (l v),_,by rw[ay,<-gX],by rw[eO];exact nl,λu S u1=>?_,λu n=>?_,rfl⟩)
  .rw[zy _ _ _ _ (by lia)];by_cases c:u=v
   .rw[c,aj rfl];exact xb
   .rw[ag (by lia)];exact nb u S u1
  .rw[zy _ _ _ _ (by lia)];by_cases c:u=v
   .rw[c,aj rfl]
   .rw[cA,hv]at n;have S:=(pr u (dM.mp ((aY.mp n).elim fU λy=>absurd (aI.mp y) c))).1;rw[ag (by lia)];exact dn u ((aY.mp n).resolve_right λy=>c (aI.mp y))
 .rintro M B ⟨s5,j,W,e5,nl,nb,dn,rfl⟩;refine h2 _ _ ?_;walk_at "";have gd:ϲ ((bO m d r a b r).map V.int) 0=some (V.int r):=by
   rw[TA.et];exact cT (ce 0) rfl
  exact⟨T.Tally,Z,_,s5 _ _ ob,T.cV,T.uU,_,pS _ _ _ _ _ _,Υ (s5 _ _ TA.hd) gd (Υ e5 (WD rm.1 (by lia)) (by rw[dn r (by rw[aa,<-bc,bx,dM,TA.et];exact .head _)];exact q B s5))⟩
def tK(T:Txt K X):Sp:=λn H Q E=>E10 λ(p a t:Addr)(c:Bool)(m:Int)(l:gw)(e:hU)(g:f3)(r w:Int)=>n=[.ref p,.int r,.int w,.ref a]/\χ T.Web H p m t l e/\Ϫ K c H a (g.map V.int)/\g.length<=1000/\w<=10^60/\-(10^60)<=w/\(0<=r->r<m->1<=w->∃b d,ζ m e r b d/\(1000000000000<gE m e r b (dD m e r b d) w+1->∀f,δ H f->E (.ref T.TooMany) none f)/\(gE m e r b (dD m e r b d) w+1<=1000000000000->(fV m g=false->∀f,δ H f->E (.ref T.BadLaying) none f)/\(fV m g=true->((g.sum=gE m e r b (dD m e r b d) w/\Φ m e r b d (λv=>g.getD v.toNat 0) (Η e b) r<w)->∀h,Order m r b h->bO m e r b d r=r::h->E3 λ(i k:gb)(j:f5)=>ϳ m e r b d (ϝ m e r b d h) (Ϩ m e r b d h) (cK e b) i k j/\(∀u,0<=u->u<m->Φ m e r b d (λv=>g.getD v.toNat 0) (Η e b) u=i u)/\∀(f:Hp),δ H f->Q (.int (j r)) f)/\(¬(g.sum=gE m e r b (dD m e r b d) w/\Φ m e r b d (λv=>g.getD v.toNat 0) (Η e b) r<w)->∀f,δ H f->E (.ref T.NoNumber) none f))))/\(¬(0<=r/\r<m)->∀f,δ H f->E (.ref T.NoPlace) none f)/\(0<=r->r<m->w<1->∀f,δ H f->E (.ref T.BadWish) none f)
abbrev ku:Stmt:=top 54
theorem Ae:η ["web","r","wanted","laying"] ["web","r","wanted","laying"] (aK ku):=.of
theorem nG:Ϝ (aK ku) "NoNumber":=.of (by kernel_rfl)
theorem pF:Ϝ (aK ku) "Tally":=.of (by kernel_rfl)
abbrev vl(P w base)(T:Txt K X):=Cb P w K X base "is_worst" pP ["web","r","wanted","laying"] 10 (ud T)
theorem BA(T:Txt K X)(hq:cg (Ε P w)){U:Addr}{eB:FuncData}(gD:Yh K "__init__" "Tally.__init__" eU U eB)(oB:Binds K eB ["self","web","r"] [])(oz:Mk K T.Tally U)(Β:ϓ P w K X base (Ε P w) 10 U eB ["self","web","r"] (lV T))(mi:vi P w base T)(n9:sq P w base T)(og:vl P w base T)(uj:Cb P w K X base "number_of" oN ["tally","held"] 9 (wW T)):Ok P w K X base "worst_number" ku ["web","r","wanted","laying"] 12 (tK T):=λ_ _ D=>by
 refine D.F.W4 Ae (by walk_at "v") λΑ A ae s H vs Q E I h=>?_;obtain⟨p,a,t,c,m,M,j,n,r,w,rfl,W,ha,hl,w2,w0,k,e,e'⟩:=h;have g:=W.go;refine⟨_,(aD (dq (ϡ mi I dR (ah (ε 0) (ah (ε 1) (ah (ε 2) aB))))) (aD (eK (kN (my (ϡ og I dR (ah (ε 0) (ah (ε 1) (ah (ε 2) (ah (ε 3) aB))))))) (aO (oY T.sk rfl qG nG.g T.AL (ah sH aB) (hdb:=nG.d))) dy) (aO (bQ (ϡ uj I dR (ah (xX oz Β (I.mono (by decide)) pF.g T.Ci oB .nil dR (ah (ε 0) (ah (ε 1) aB)) (hdb:=pF.d)) (ah (ϡ n9 I dR (ah (ε 0) (ah (ε 3) (ah (ε 1) aB)))) aB))))))),?_⟩;walk_at "s";walk_at "";refine⟨p,t,m,M,j,r,w,rfl,W,w2,w0,λL J w1=>?_,e,e'⟩;obtain⟨f,i,R,k2,O⟩:=k L J w1;refine⟨f,i,R,λcb H1 S=>?_,k2⟩;obtain⟨k3,k4⟩:=O cb;refine⟨p,a,t,c,m,M,j,n,r,w,rfl,W.same S,δ.WZ S ha,hl,w2,w0,λ_ _ _=>⟨f,i,R,λfi C V=>⟨_,rfl,?_⟩,λfi C V=>k3 fi C (S.trans V)⟩,λz=>absurd ⟨L,J⟩ z,λ_ _ z=>absurd z (by lia)⟩;obtain⟨k5,k6⟩:=k4 fi;have YG:=S.trans V;by_cases G:n.sum=gE m j r f (dD m j r f i) w/\Φ m j r f i (λv=>n.getD v.toNat 0) (Η j f) r<w
 .rw[bh G.1,bh G.2,ag (by decide)];intro x N hx af ne;have Z:upd C N (.own x) x=none:=by rw[aR ne.symm];exact hx
  have s0:δ C (upd (upd C N (.own x)) x (.ins T.Tally N [])):=(δ.new _ af).trans (δ.new _ Z);refine⟨x,N,p,t,m,M,j,r,rfl,ay,(W.same YG).same s0,⟨L,J⟩,f,i,R,λtl ld lw lb lk lr kl rv H3 TA kp=>⟨rfl,?_⟩⟩;have s3:δ C H3:=λb o e=>kp b o (s0 b o e) (cq e hx);have Y3:=YG.trans s3;have x0:=MU fi;refine⟨p,a,t,c,m,M,j,n,r,rfl,W.same Y3,δ.WZ Y3 ha,hl,λ_ _ _=>⟨f,i,R,λl H4 nl s4 el=>?_⟩,(λz=>by rw[fi]at z;cases z),λ_ z=>absurd ⟨L,J⟩ z⟩;have ad:((qz m j r f i (λv=>n.getD v.toNat 0) (Η j f)).length:Int)=m:=by
   have:=g.m1;unfold qz;rw[aa,b7]
   lia
  have Y:∀v:Int,0<=n.getD v.toNat 0/\n.getD v.toNat 0<=1000000000000:=λv=>by
   rw[List.getD];cases e:n[v.toNat]? with
   | none=>exact⟨ce _,(by decide:(0:Int)<=1000000000000)⟩
   | some y=>
     have h1:=x0 y (aQ e);have h2:=CT x0 (aQ e);exact⟨h1,show y<=_ by lia⟩
  obtain⟨cn,gv,nb,NS,ec,kq⟩:=k5 G tl TA.or TA.et;refine⟨x,p,t,m,M,j,r,f,i,tl,ld,lw,lb,lk,lr,kl,rv,l,_,cn,gv,nb,rfl,TA.same s4,⟨L,J⟩,el,ad,λu q B=>?_,NS,λu q B=>by rw[qD q B];exact ec u q B,λH5 s5=>kq H5 (Y3.trans (s4.trans s5))⟩;have d:=mr g R q B;have Ο:=g.Ο;have ZV:=IX g R Y _ u rfl q B;rw[qD q B];refine⟨xF g (λv=>(Y v).1) u,by lia,?_⟩;rw[nF g R q B];have h1:=(Y u).1;have e:((kd m j r f u).map λk=>(qz m j r f i (λv=>n.getD v.toNat 0) (Η j f)).getD k.toNat 0/tup j f k).sum=((bR m j (front r f u) u).map λc=>Η j f c (Φ m j r f i (λv=>n.getD v.toNat 0) (Η j f) c)).sum:=qM λk hk=>by
   obtain⟨O,_,_⟩:=(bw g R q B).mp hk;rw[qD O.1 O.2]
   rfl
  rw[e]
  lia
 .rw[show(decide (n.sum=gE m j r f (dD m j r f i) w)&&decide (Φ m j r f i (λv=>n.getD v.toNat 0) (Η j f) r<w))=false by
   rw[<-Bool.decide_and];exact bA G]
  exact⟨cm (by simp),k6 G _ YG⟩
theorem CF{b:hU}{N:Int}{par:f5}(d:1<=N)(h:∀x∈b,x.t<=N/\x.u<=N)(v:Int):tup b par v<=N:=by
 unfold tup;cases hk:cN b v (par v)with
 | none=>exact d
 | some k=>
   show k<=N;unfold cN at hk;obtain⟨x,c,a⟩:=List.exists_of_findSome?_eq_some hk;have:=h x c;unfold iV at a;split at a
   .injection a with a;lia
   .split at a
    .injection a with a;lia
    .cases a
theorem RZ{m r w:Int}{d:hU}{a:f5}{b:gb}{p q:Int->Bool}{c:gb}{s:f3}(B:Ϛ m d r a b s p q c)(g:Good m d)(R:ζ m d r a b)(k:0<=r)(f:r<m)(h l:f3)(v:YD m d r a b w h)(t:YD m d r a b w l)(e:XO m d r a b h=XO m d r a b l):h=l:=by
 obtain⟨i,u⟩:=v.num B g R k f;obtain⟨j,n⟩:=t.num B g R k f;have o:=u.order B g R k f n;exact o.2.1.mpr (o.2.2.mp e)
theorem RR{m r w:Int}{l:hU}{j:f5}{k:gb}{o p:Int->Bool}{c:gb}{C:f3}(B:Ϛ m l r j k C o p c)(g:Good m l)(R:ζ m l r j k)(s:0<=r)(q:r<m)(J:wy m l r j k o p c r (w-1).toNat<64)(n:List (List Int))(x:n.Nodup)(y:∀d∈n,YD m l r j k w d):n.length<64:=by
 have v:∀d,∃i,d∈n->Num m l r j k o p c w d i:=λd=>by
  by_cases h:d∈n
  .obtain⟨i,t⟩:=(y d h).num B g R s q;exact⟨i,λ_=>t⟩
  .exact⟨0,λz=>absurd z h⟩
 obtain⟨f,u⟩:∃f:List Int->Int,∀d∈n,Num m l r j k o p c w d (f d):=⟨λd=>(v d).choose,λd h=>(v d).choose_spec h⟩;have E:(n.map f).Nodup:=by
  show List.Pairwise _ (List.map _ _);rw[fP];exact x.imp_of_mem λ{a b} ha hb ne e=>ne (((u a ha).order B g R s q (u b hb)).2.1.mpr e)
 have le:=pf E (l':=b6 (wy m l r j k o p c r (w-1).toNat).toNat) λi t=>by
  obtain⟨d,F,rfl⟩:=aP.mp t;obtain⟨_,A,G,H,N,I,D,_⟩:=u d F;have:=N.bd g R s q;rw[show A r=(w-1).toNat by lia,D]at this;exact dN.mpr ⟨this.1,by lia⟩
 rw[aa,b7]at le
 lia
def EG(K:gg):Sp:=λd H Q _=>∃(a:Addr)(b:f3),d=[.ref a]/\ξ K H a (b.map V.int)/\b.length<=63/\∀c,Q (.bl true) c
def Vr(T:Txt K X):Sp:=EG K
abbrev nX:Stmt:=top 84
theorem Tp:η ["script","numbers","many","roads","tolls","r","order","wanted","web","held","due","found","number","laying","told","place","piled"] ["script"] (aK nX):=.of
theorem Ao:Ϝ (aK nX) "Web":=.of (by kernel_rfl)
theorem xG:Ϝ (aK nX) "range":=.of (by kernel_rfl)
theorem sS:Ϝ (aK nX) "tuple":=.of (by kernel_rfl)
theorem UZ(T:Txt K X)(U:cg (Ε P w)){f:Addr}{fd:FuncData}(D:Df K X "law" nX ["script"] f fd){υ:Addr}{p7:FuncData}(nV:Yh K "__init__" "Web.__init__" jc υ p7)(Kw:Binds K p7 ["self","many","roads"] [])(JF:Mk K T.Web υ)(eQ:ϓ P w K X base (Ε P w) 3 υ p7 ["self","many","roads"] (pO T))(vy:Cb P w K X base "_law_down" mO ["many","tolls","r"] 1 (y8 T))(xC:Cb P w K X base "_law_due" rg ["many","tolls","order","wanted","held"] 2 (An T))(rF:Cb P w K X base "_law_numbers" mW ["script","many"] 2 (uN T))(uo:Cb P w K X base "_law_small" qX ["numbers"] 3 (wO T))(uw:Cb P w K X base "_law_tolls" qR ["roads"] 1 (xz T))(ko:Cb P w K X base "_law_whole" ng ["found"] 1 (xf T))(mR:sX P w base T)(og:vl P w base T)(vf:Cb P w K X base "worst_at" ow ["web","r","wanted","number"] 12 (yK T))(tH:Cb P w K X base "worst_many" nM ["web","r","wanted"] 12 (wf T))(qN:Cb P w K X base "worst_number" ku ["web","r","wanted","laying"] 12 (tK T)):ϓ P w K X base (Ε P w) 13 f fd ["script"] (Vr T):=by
 refine D.F.Ϙ Tp (by walk_at "v") λΑ A fk s H vs Q E S h=>?_;obtain⟨a,ns,rfl,ha,hn,k⟩:=h;have hv:=S.units;have hu:=sg S;refine⟨_,(aD (Δ 1 (Ν rF S U (ah (ε 0) (ah aU aB)))) (aD (nP (Ν uo S U (ah (ε 1) aB)) (kM (n:=2) rfl (cz (ϒ 2) (cz (ϒ 3) iM)))) (aD (Δ 4 (Ν uw S U (ah (ε 3) aB))) (aD (Δ 5 (bn fQ (Ι bL (ε 1) aU) (ε 2))) (aD (Δ 6 (Ν vy S U (ah (ε 2) (ah (ε 4) (ah (ε 5) aB))))) (aD (Δ 7 (bn eP aU (bn fQ (Ι bL (ε 1) aU) (Ι bL (eD (ah aU (ah aU aB))) (Za xa T.int (ah (m6 jU (ε 2) aU (m5 _)) aB)))))) (aD (Δ 8 (xX JF eQ (S.mono (by decide)) Ao.g T.Vt Kw .nil (t7 U) (ah (ε 2) (ah (Za mB T.list (ah (ε 3) aB)) aB)) (hdb:=Ao.d))) (aD (Δ 9 (bn iI (Ν mR S U (ah (ε 8) (ah (ε 5) (ah (ε 7) aB)))) aU)) (aD (eK (PW.pt (BE (Ϻ qd (ε 9) aU) (wU (Ϻ Q9 (ε 9) aU)))) (aO (bQ rX)) dy) (aD (Δ 10 (Ν xC S U (ah (ε 2) (ah (ε 4) (ah (ε 6) (ah (ε 7) (ah (ε 9) aB))))))) (aD (Δ 11 (Ν tH S U (ah (ε 8) (ah (ε 5) (ah (ε 7) aB))))) (aD (eK (PW.pt (BE (kN (my (Ν ko S U (ah (ε 11) aB)))) (wU (Ϻ r9 (ε 11) (W6 kF T.len (ah (ε 10) aB)))))) (aO (bQ rX)) dy) (aD (fm PassesOwn.never rfl (iQ xG.g T.range (ah (ε 11) aB)) (ϒ 12) (aD (Δ 13 (Ν vf S U (ah (ε 8) (ah (ε 5) (ah (ε 7) (ah (ε 12) aB)))))) (aD (eK (PW.pt (BE (kN (my (W6 uh T.isinstance (ah (ε 13) (ah (Cn (v:=.ty "tuple") sS.g T.tuple Fo rfl (hn:=sS.n) (hd:=sS.d)) aB))))) (wU (Ϻ (MF hv) (Za mB T.list (ah (ε 13) aB)) (Ι bL (ε 10) (ε 12)))))) (aO (bQ rX)) dy) (aD (eK (kN (my (W6 (Fq rfl) T.all (ah (gZ rfl (tx (Nc:=["held_there"]) 1 (by decide +kernel) (by decide +kernel) rfl (by decide +kernel) rfl) (uL (ε 13)) (λ_ _ _ _=>(fe (i:=0) (show(["held_there"]:hD).Nodup from by decide +kernel) rfl (Or.inl rfl))) (λ_ _ _ _=>jg) (λ_ _ _ _=>(qk ko.G (S.mono (by decide)) (by rfl) ko.D.m ko.D.F.kp ko.D.b .nil (t7 U) (ah (pv 0) aB)))) aB)))) (aO (bQ rX)) dy) (aD (Δ 14 (Ν qN S U (ah (ε 8) (ah (ε 5) (ah (ε 7) (ah (Za mB T.list (ah (Ι bL (ε 10) (ε 12)) aB)) aB)))))) (aO (eK (PW.pt (BE (kN (my (Ν ko S U (ah (ε 14) aB)))) (wU (Ϻ r9 (ε 14) (ε 12))))) (aO (bQ rX)) dy))))))) (aD (fm PassesOwn.never rfl (iQ xG.g T.range (ah (ε 2) aB)) (ϒ 15) (aD (Δ 16 (bn sM (eD (ah aU aB)) (ε 2))) (aD (nP (ε 9) (rp (ε 16) (ε 15) mP)) (aO (eK (Dm r9 (Ν og S U (ah (ε 8) (ah (ε 5) (ah (ε 7) (ah (ε 16) aB))))) (m6 (Ub hv) (ε 16) (ε 10) (by with_unfolding_all rfl)) (m5 _)) (aO (bQ rX)) dy))))) (aO (bQ rX)))))))))))))))),?_⟩;walk_at "s";refine cL λN1 h1=>?_;walk_at "";refine⟨a,ns,30,rfl,ha,by decide,by decide,λln nu H1 n1 s1 en c3=>h1 _ _ (cL λN2 h2=>?_)⟩;obtain⟨n0,nu,rfl⟩:∃n0 X2,nu=n0::X2:=by
  cases nu with
  | nil=>simp at c3
  | cons x y=>exact⟨x,y,rfl⟩
 rw[aF]at c3;walk_at "";refine⟨ln,n0,nu,rfl,en,by lia,by lia,λt l m ps o H2 nt nl s2 et el ro g m4 sm=>?_⟩;have m1:=g.m1;have WT:=s1.trans s2;refine⟨t,rfl,_,Ξ.of et,rfl,_,_,rfl,_,_,rfl,rfl,h2 _ _ (cL λN3 h3=>?_)⟩;walk_at "";refine⟨l,ps,m,o,rfl,el,ro,g,λd H3 nd s3 ta=>h3 _ _ (cL λN4 h4=>?_)⟩;have bS:=s2.trans s3;have M:=WT.trans s3;walk_at "";refine Υ (bS _ _ en) (WD (by decide) (by rw[aF];lia)) ⟨_,rfl,by lia,?_⟩;have J:=dH ((n0::nu).getD (25:Int).toNat 0) (show m≠0 by lia);have I:=cR ((n0::nu).getD (25:Int).toNat 0) (show 0<m by lia);generalize (n0::nu).getD (25:Int).toNat 0%m=r at J I ⊢;obtain⟨par,e,R⟩:=AG g J I;refine h4 _ _ (cL λN5 h5=>?_);walk_at "";refine⟨d,o,m,r,rfl,ta,g,⟨J,I⟩,par,e,R,λlo qs tl H4 no s4 eo pa O=>h5 _ _ (cL λN6 h6=>?_)⟩;have c5:=M.trans s4;have dp:=ta.same s4;have fc:=O.XG J I;have dK:=(s3.trans s4) _ _ el;have cV:=ν.same (s3.trans s4) ro;have cu:=(bS.trans s4) _ _ en;clear h1 h2 h3 h4 h5 WT M bS s2 s3 s4 s1 en et el ro;walk_at "";refine Υ cu (WD (by decide) (by rw[aF];lia)) ⟨cm (by simp),λpw ZY=>.inr ?_⟩;obtain⟨dd,cl,dw⟩:∃dd:Int,ϲ [V.int 3,V.int 2] (if m=4 then 1 else 0)=some (.int dd)/\(m=4/\dd=2\/m<=3/\dd=3):=by
  by_cases c:m=4
  .exact⟨2,by rw[aj c];rfl,.inl ⟨c,rfl⟩⟩
  .exact⟨3,by rw[ag c];rfl,.inr ⟨by lia,rfl⟩⟩
 have s5:=δ.new (HO.lst [V.int 3,V.int 2]) ZY;refine Υ ay cl ⟨_,rfl,_,rfl,by lia,h6 _ _ (cL λN7 h7=>?_)⟩;have w0:=dH ((n0::nu).getD (26:Int).toNat 0) (show dd≠0 by lia);have w1:=cR ((n0::nu).getD (26:Int).toNat 0) (show 0<dd by lia);generalize (n0::nu).getD (26:Int).toNat 0%dd=w' at w0 w1 ⊢;obtain⟨w,ew⟩:∃w,w=1+w':=⟨_,rfl⟩;rw[<-ew];have w3:1<=w:=by lia
 have w4:w<=dd:=by lia
 generalize upd H4 pw (HO.lst [V.int 3,V.int 2])=H5 at s5 ⊢;have c0:=c5.trans s5;have cS:=dp.same s5;have cr:=s5 _ _ eo;have cy:=Μ.same s5 pa;have du:=s5 _ _ dK;have ct:=ν.same s5 cV;clear h6 c5 s5 dp eo pa dK cV cu cl ew w0 w1 ZY;walk_at "";refine⟨_,.inl (ξ.of du),λq nq=>?_⟩;have s8:=δ.new (.lst (ps.map V.ref)) nq;refine Um T (c:=true) (ξ.of ay) (ν.same s8 ct) g λx tw H8 hx eu s9 W=>h7 _ _ (cL λN8 h8=>?_);have ad:=s8.trans s9;have hF:=c0.trans ad;have cf:=cS.same ad;have dO:=ad _ _ cr;have dA:=Μ.same ad cy;clear h7 c0 s8 s9 ad cS cr cy du ct nq hx eu;have am:w<=10^60:=bE (show w<=3 by lia) (by decide);walk_at "";refine⟨x,tw,m,ps,o,r,w,rfl,W,am,by lia,λ_ _ _=>⟨par,e,R,λH9 s9=>⟨_,rfl,h8 _ _ (cL λN9 h9=>?_)⟩⟩,λz=>absurd ⟨J,I⟩ z,λ_ _ z=>absurd z (by lia)⟩;obtain⟨Z,et,Or⟩:∃Z,bO m o r par e r=r::Z/\Order m r par Z:=MK g R J I;have B:Ϛ m o r par e Z (ϝ m o r par e Z) (Ϩ m o r par e Z) (cK o par):=Ϛ.mk et Or (λ_=>rfl) (λ_=>rfl) λ_=>rfl;have aS:=L8 g R J I et Or w3 (by
  rcases dw with⟨a,b⟩|⟨a,b⟩
  .exact .inr ⟨a,by lia,λv _ _ _=>CF (by decide) (λx hx=>(sm x hx).2.2 a) v⟩
  .exact .inl ⟨a,by lia,λv _ _ _=>CF (by decide) (λx hx=>⟨(sm x hx).1,(sm x hx).2.1⟩) v⟩)
 obtain⟨h,eh⟩:∃h,h=gE m o r par (dD m o r par e) w:=⟨_,rfl⟩;rw[<-eh]at aS ⊢;rw[show h+1-1=h by lia];have ZV:=B.ZV g R J I (n:=(w-1).toNat) (by
  rcases dw with⟨a,b⟩|⟨a,b⟩
  .refine .inr ⟨a,by lia,λk=>?_⟩;unfold cK;have:=CF (par:=par) (show(1:Int)<=2 by decide) (λx hx=>(sm x hx).2.2 a) k
   lia
  .exact .inl ⟨a,by lia⟩)
 walk_at "";rw[ag (by lia),ag (by lia)];refine h9 _ _ (cL λhH dx=>?_);have co:=cf.same s9;have dm:=s9 _ _ dO;have cp:=Μ.same s9 dA;have W9:=W.same s9;clear h8 h9 cf dO dA W s9;walk_at "";refine⟨d,lo,qs,o,tl,m,r,w,h,par,e,rfl,co,g,R,dm,cp,O,fc,⟨J,I⟩,m4,aS.1,aS.2,eh,RZ B g R J I,RR B g R J I ZV,λld pd ds hX ih c2 ed ls bp cx=>dx _ _ (cL λie cs=>?_)⟩;obtain⟨dl,dn⟩:=Rr B g R J I w3 bp cx;have bs:=W9.same c2;clear dx co dm cp W9 c2 cx;walk_at "";obtain⟨n,fv⟩:∃n:Nat,w=((n+1:Nat):Int):=⟨(w-1).toNat,by lia⟩;have en:(w-1).toNat=n:=by lia
 refine⟨x,tw,m,ps,o,r,n,by rw[fv],bs,⟨J,I⟩,aL (show n+1<=10^60 by lia) (by decide),par,e,R,λef e6 e4 a1 a0=>cs _ _ (cL λhP fw=>?_)⟩;have tt:Z=ef:=(d8 (et.symm.trans a1)).2;subst tt;obtain⟨C,eC⟩:∃C,C=iD m o r par e Z r n:=⟨_,rfl⟩;rw[<-eC];rw[en]at dl ZV;have dl:(ds.length:Int)=C:=dl.trans eC.symm;have dv:=bs.same a0;have bm:=a0 _ _ ed;have bk:=Κ.same a0 ls;clear cs bs a0 ed ls a1 e4;have pl:pd.length=ds.length:=Paired.length bk;walk_at "";refine⟨_,rfl,_,rfl,?_⟩;rw[ag (by decide)];refine⟨_,.inl (ξ.of bm),?_⟩;rw[ag (by rw[aa];lia)];refine fw _ _ (cL λi2 fp=>?_);walk_at "";refine⟨by lia,by lia,?_⟩;refine vH (lo:=0) (λi Y ae=>δ e6 ae/\E3 λ(a2 aC aT:Option V)=>Y=[some (V.ref a),some (V.ref ln),some (V.int m),some (V.ref l),some (V.ref d),some (V.int r),some (V.ref lo),some (V.int w),some (V.ref x),some (V.int h),some (V.ref ld),some (V.int C),a2,aC,aT,none,none]) ⟨δ.refl _,_,_,_,rfl⟩ ?_ ?_
 .rintro i Y ae N BB ϗ hN hi ⟨WT,a2,aC,aT,rfl⟩;have dg:=dv.same WT;have fg:=WT _ _ bm;have e1:=Κ.same WT bk;refine ϗ _ _ (cL λM1 k1=>?_);rw[show(0:Int)+(i:Int)=(i:Int) by lia];walk_at "";obtain⟨q,xs,_,g1,g2,g3⟩:=e1.get (i:=i) (x:=V.ref (pd.getD i 0)) (by rw[aA,aX,ao (by lia)];rfl);have nx:=dn i xs g2;obtain⟨⟨xl,x0,ek,xg⟩,_⟩:=nx.about B g R J I;obtain⟨_,cn,gv,nb,NS,fB,fl,xv⟩:=id nx;have SP:=NS.adR g R Or (λ_=>rfl) (λ_=>rfl) λ_=>rfl;rw[fB]at SP;have eg:=SP.Φ g R xv;have er:=DN xl x0;have gq:∀{H':Hp},δ ae H'->∀{Q':VK},Q' (V.ref q) H'->zg K (.ref ld) (.int i) H' Q':=λ{_} s' {_} q'=>Υ (s' _ _ fg) (cT (by lia) (v:=V.ref q) (by rw[bJ,aA,g1];rfl)) q';refine⟨x,tw,m,ps,o,r,w,i,rfl,dg,am,by lia,λ_ _ _=>⟨par,e,R,λ_ ca O' a1=>?_,λz=>absurd z (by lia)⟩,λz=>absurd ⟨J,I⟩ z,λ_ _ z=>absurd z (by lia)⟩;have tt:Z=ca:=(d8 (et.symm.trans a1)).2;subst tt;rw[en,<-eC];refine⟨λ_ lt ys f1 fs e5 L eG eN fz yl yv hp M bd=>k1 _ _ (cL λM2 k2=>?_),λz=>absurd ⟨by lia,by lia⟩ z⟩;have ny:Num m o r par e (ϝ m o r par e Z) (Ϩ m o r par e Z) (cK o par) w ys i:=⟨yl,f1,fs,e5,eG,eN,fz,yv⟩;have ez:ys=xs:=(ny.order B g R J I nx).2.1.mpr rfl;subst ez;walk_at "";refine⟨_,_,_,true,rfl,.tup bd,λcv h=>by cases h;rfl,_,rfl,?_⟩;rw[ag (by decide)];refine⟨_,.inr (Ξ.of bd),λl6 dt=>?_⟩;have s6:=M.trans (δ.new (.lst (ys.map V.int)) dt);refine gq s6 (O5 ay (s6 _ _ g3) ⟨_,rfl,?_⟩);rw[ag (by decide)];have b2:=δ.new (.lst (ys.map V.int)) dt _ _ bd;generalize upd L l6 (.lst (ys.map V.int))=an at s6 b2 ⊢;refine k2 _ _ (cL λM3 k3=>?_);clear k1 k2;walk_at "";refine⟨⟨_,Ξ.of b2⟩,λlb dr=>?_⟩;refine lQ (K:=K) (c:=false) (a:=lt) (xs:=ys.map V.int) (λj zs Y H8=>δ an H8/\H8 lb=some (.lst zs)/\zs=(List.replicate j true).map V.bl/\∃v0,Y=[v0]) ⟨δ.new _ dr,ay,rfl,_,rfl⟩ (λj zs Y H8 _ ⟨z,_⟩=>Ξ.of (z _ _ b2)) ?_ ?_
  .rintro j y zs Y H8 N' Y6 hj ⟨s8,e8,rfl,v0,rfl⟩;obtain⟨u,hu,rfl⟩:=List.μ hj;have il:=(az.mp hu).1;walk_at "";refine⟨_,rfl,?_⟩;exact⟨e8,d5 (by rw[aa,cU];lia),Y6 _ _ _ ⟨s8.put dr _,ay,by rw[List.replicate_succ',aw];rfl,_,rfl⟩⟩
  .rintro zs Y H8 ⟨s8,e8,rfl,v0,rfl⟩;refine⟨lb,rfl,_,ξ.of e8,?_⟩;rw[show(List.replicate (ys.map V.int).length true).all id=true by rw[dX];intro x hx;exact iE hx,ag (by decide)];refine k3 _ _ (cL λM4 k4=>?_);have b3:=s6.trans s8;walk_at "";refine gq b3 ⟨_,rfl,_,.inl (ξ.of (b3 _ _ g3)),λl9 ec=>?_⟩;have s9:=b3.trans (δ.new (.lst (ys.map V.int)) ec);have c6:upd H8 l9 (.lst (ys.map V.int)) l9=some (.lst (ys.map V.int)):=ay;generalize upd H8 l9 (.lst (ys.map V.int))=hC at s9 c6 ⊢;refine⟨x,l9,tw,true,m,ps,o,ys,r,w,rfl,dg.same s9,ξ.of c6,by lia,am,by lia,λ_ _ _=>⟨par,e,R,λz=>absurd z (by lia),λ_=>⟨λz=>(by rw[er]at z;cases z),λ_=>⟨λ_ ca O' em=>?_,λz=>absurd ⟨ek,xg⟩ z⟩⟩⟩,λz=>absurd ⟨J,I⟩ z,λ_ _ z=>absurd z (by lia)⟩;have tt:Z=ca:=(d8 (et.symm.trans em)).2;subst tt;refine⟨cn,gv,nb,NS,λu u0 u1=>eg _ u rfl u0 u1,λfa au=>k4 _ _ ?_⟩;walk_at "";refine⟨_,rfl,_,rfl,?_⟩;rw[ag (by decide),fl,ag λz=>z rfl];exact hN _ _ ⟨WT.trans (s9.trans au),_,_,_,rfl⟩
 .rintro BB Y ae ϗ ⟨WT,a2,aC,aT,rfl⟩;refine ϗ _ _ (fp _ _ (cL λi1 eb=>?_));walk_at "";refine⟨by lia,by lia,?_⟩;refine vH (lo:=0) (λi Y L=>δ ae L/\∃(b1 a8:Option V),Y=[some (V.ref a),some (V.ref ln),some (V.int m),some (V.ref l),some (V.ref d),some (V.int r),some (V.ref lo),some (V.int w),some (V.ref x),some (V.int h),some (V.ref ld),some (V.int C),a2,aC,aT,b1,a8]) ⟨δ.refl _,_,_,rfl⟩ ?_ ?_
  .rintro i Y L N BB ϗ hN hi ⟨M,b1,a8,rfl⟩;have be:=WT.trans M;have eF:=dv.same be;have f0:=be _ _ bm;have ej:=Κ.same be bk;refine ϗ _ _ (cL λM1 k1=>?_);rw[show(0:Int)+(i:Int)=(i:Int) by lia];walk_at "";refine⟨by decide,λp np=>?_⟩;have v1:=δ.new (.lst [V.int 0]) np;refine⟨p,m,[V.int 0],rfl,rfl,ay,by lia,by lia,cm (by simp;lia),λp2 ci=>?_⟩;rw[zS,<-RI];have v2:=v1.trans (δ.new (.lst ((YX m).map V.int)) ci);have e2:upd (upd L p (.lst [V.int 0])) p2 (.lst ((YX m).map V.int)) p2=some (.lst ((YX m).map V.int)):=ay;have ee:=v1.free ci;generalize upd (upd L p (.lst [V.int 0])) p2 (.lst ((YX m).map V.int))=an at v2 e2 ⊢;have zl:((YX m).length:Int)=m:=(by unfold YX;rw[cU];lia);refine k1 _ _ (cL λM2 k2=>?_);walk_at "";refine xi e2 (by lia) (by rw[aa];lia) (k2 _ _ ?_);have v3:=v2.put ee (.lst (((YX m).map V.int).set (i:Int).toNat (V.int h)));obtain⟨xs,ex⟩:∃xs,xs=(YX m).set (i:Int).toNat h:=⟨_,rfl⟩;have e3:upd an p2 (.lst (((YX m).map V.int).set (i:Int).toNat (V.int h))) p2=some (.lst (xs.map V.int)):=(by rw[ay,ex,gX]);have xl:(xs.length:Int)=m:=(by rw[ex,eO];exact zl);have x0:∀z∈xs,0<=z:=λz hz=>by
    rw[ex]at hz;rcases kL hz with hz|hz
    .unfold YX at hz;rw[iE hz]
     lia
    .rw[hz];exact aS.1
   generalize upd an p2 (.lst (((YX m).map V.int).set (i:Int).toNat (V.int h)))=jb at v3 e3 ⊢;walk_at "";refine⟨x,p2,tw,true,m,ps,o,xs,r,w,rfl,eF.same v3,ξ.of e3,by lia,am,by lia,λ_ _ _=>⟨par,e,R,λ_ fa au=>?_,λz=>(by rw[DN xl x0]at z;cases z)⟩,λz=>absurd ⟨J,I⟩ z,λ_ _ z=>absurd z (by lia)⟩;have bv:=v3.trans au;refine⟨ld,p2,pd,ds,xs,rfl,rfl,bv _ _ f0,zq (λq z hz h=>⟨h,?_⟩) (Κ.same bv ej),au _ _ e3,rfl,?_⟩
   .have:=((bp z).mp hz).1
    lia
   have eq:(decide (xs.sum=gE m o r par (dD m o r par e) w)&&decide (Φ m o r par e (λv=>xs.getD v.toNat 0) (Η o par) r<w))=decide (xs∈ds):=by
    rw[dU,b9,fJ,fJ,fJ,bp];exact⟨λ⟨a,b⟩=>⟨xl,x0,a,b⟩,λ⟨_,_,a,b⟩=>⟨a,b⟩⟩
   rw[ag (λz=>z (congrArg V.bl eq))];exact hN _ _ ⟨M.trans bv,_,_,rfl⟩
  .rintro BB Y L ϗ ⟨M,b1,a8,rfl⟩;refine ϗ _ _ (eb _ _ ?_);walk_at "";exact k L
end
theorem Wb:cg CX0:=λ_ _ _ _ _ h=>h
structure FI(K:gg)(x:Str)(st:Stmt)(f:Addr)(fd:FuncData):Prop where
 a:PySem.W.nsIn K mainGlobals x=some (some (.ref f))
 F:Yh K x x st f fd
theorem fi{K:gg}{x:Str}{st:Stmt}{f:Addr}{i:Value}{j h:Option Addr}{m:Array (Option Value)}{kV b e d g:Value}(a:PySem.W.nsIn K mainGlobals x=some (some (.ref f)):=by k_is)(l:K.lookup f=some ⟨i,j,.func (PySem.W.fnOf x x (je st) (iq st) (aK st) .none kV b e h d g),m⟩:=by k_is)(c:PySem.W.codeIn K d x=true:=by k_is)(k:PySem.W.keepIn K (.ref f)=true:=by k_is):FI K x st f (PySem.W.fnOf x x (je st) (iq st) (aK st) .none kV b e h d g):=⟨a,BN (st:=st) l c k⟩
theorem FI.df1{K:gg}{h:Heap}{m:g8}{x:Str}{st:Stmt}{f:Addr}{l:FuncData}(y:FI K x st f l)(X:K.In h)(G:h.Ns mainGlobals m)(k:hD)(o:k.length=1:=by rfl)(p:∀(kV j q:Value) (n:Option Addr) (s r i:Value),bindArgs (PySem.W.fnOf x x (je st) (iq st) (aK st) .none kV j q n s r) ⟨[i],[]⟩=pure (k.zip [i]):=by intros;rfl):Df K m x st k f l:=⟨y.F,bT X G y.a,y.F.binds λa b c d e g t z=>by obtain⟨i,rfl⟩:=us1 (z.trans o);exact p a b c d e g i⟩
theorem FI.Wy{K:gg}{h:Heap}{n:g8}{x:Str}{st:Stmt}{f:Addr}{m:FuncData}(y:FI K x st f m)(X:K.In h)(G:h.Ns mainGlobals n)(l:hD)(p:l.length=2:=by rfl)(q:∀(kV k r:Value) (o:Option Addr) (t s j i:Value),bindArgs (PySem.W.fnOf x x (je st) (iq st) (aK st) .none kV k r o t s) ⟨[j,i],[]⟩=pure (l.zip [j,i]):=by intros;rfl):Df K n x st l f m:=⟨y.F,bT X G y.a,y.F.binds λa b c d e g u z=>by obtain⟨j,i,rfl⟩:=us2 (z.trans p);exact q a b c d e g j i⟩
theorem FI.Yn{K:gg}{h:Heap}{o:g8}{x:Str}{st:Stmt}{f:Addr}{n:FuncData}(y:FI K x st f n)(X:K.In h)(G:h.Ns mainGlobals o)(m:hD)(q:m.length=3:=by rfl)(r:∀(kV l s:Value) (p:Option Addr) (u t k i j:Value),bindArgs (PySem.W.fnOf x x (je st) (iq st) (aK st) .none kV l s p u t) ⟨[k,i,j],[]⟩=pure (m.zip [k,i,j]):=by intros;rfl):Df K o x st m f n:=⟨y.F,bT X G y.a,y.F.binds λa b c d e g v z=>by obtain⟨k,i,j,rfl⟩:=us3 (z.trans q);exact r a b c d e g k i j⟩
theorem FI.ZM{K:gg}{h:Heap}{p:g8}{x:Str}{st:Stmt}{f:Addr}{o:FuncData}(y:FI K x st f o)(X:K.In h)(G:h.Ns mainGlobals p)(n:hD)(r:n.length=4:=by rfl)(s:∀(kV m t:Value) (q:Option Addr) (v u l i j k:Value),bindArgs (PySem.W.fnOf x x (je st) (iq st) (aK st) .none kV m t q v u) ⟨[l,i,j,k],[]⟩=pure (n.zip [l,i,j,k]):=by intros;rfl):Df K p x st n f o:=⟨y.F,bT X G y.a,y.F.binds λa b c d e g w z=>by obtain⟨l,i,j,k,rfl⟩:=us4 (z.trans r);exact s a b c d e g l i j k⟩
theorem FI.df5{K:gg}{h:Heap}{q:g8}{x:Str}{st:Stmt}{f:Addr}{p:FuncData}(y:FI K x st f p)(X:K.In h)(G:h.Ns mainGlobals q)(o:hD)(s:o.length=5:=by rfl)(t:∀(kV n u:Value) (r:Option Addr) (w v m i j k l:Value),bindArgs (PySem.W.fnOf x x (je st) (iq st) (aK st) .none kV n u r w v) ⟨[m,i,j,k,l],[]⟩=pure (o.zip [m,i,j,k,l]):=by intros;rfl):Df K q x st o f p:=⟨y.F,bT X G y.a,y.F.binds λa b c d e g A z=>by obtain⟨m,i,j,k,l,rfl⟩:=us5 (z.trans s);exact t a b c d e g m i j k l⟩
theorem all_mk{l:PySem.W.OpenLaw}{w:World}{K:gg}{h:Heap}{d:g8}{A:Addr}{D:Addr}{B:Addr}{Q:Addr}{Y:Addr}{t:Addr}{vz:Addr}{b:Addr}{a:Addr}{CU Kn FQ F7 Ce Ep HV Eg Go Vq RH Ui Oa TR Rt Km Bg L0 D8 JO CL LG HZ QP JH M0 EW JP JD Ev La Af Mi Lg G8 EC Kl LJ HR GX C2 K9 Pr Hk HK Kb T7 Rq JA EV On Ei Jy Eh EE Hl Jx Fv zE Hv C1:Addr}{BH GZ Ej Et BP Di Gh Dj Es Sb P4 Rj MI Ry OE Hu zT KY Dl Hm BF KJ Fi Lp HY Kc Ew G2 GS CY HS zo J5 Hf Fg CS Hq Kq GM Gy BO HG LX FE Gv GR RA Pq Hr Ef LN Co HC Cc Cw EM HN EB yq Gc Bl:FuncData}{i:Addr}{Wj AN:Option Addr}{Ad:Array (Option Value)}{Wk Ba Au BZ tR AB:Value}{k:Addr}{lT yt:Option Addr}{yj:Array (Option Value)}{nE yx ye yh rO yw:Value}{Ky:Addr}{ai Ly:Option Addr}{TU:Array (Option Value)}{J MC LB LS y Mg:Value}{WU:Tok}{Xq:Tok}{XW:Tok}{Wz:Tok}(X:K.In h)(G:h.Ns mainGlobals d)(ac:d "law"=some (.ref A))(Ka:PySem.W.nsIn K mainGlobals "NoPlace"=some (some (.ref D)))(LO:PySem.W.nsIn K mainGlobals "NoRoad"=some (some (.ref B)))(FL:PySem.W.nsIn K mainGlobals "BadLaying"=some (some (.ref Q)))(Kf:PySem.W.nsIn K mainGlobals "BadWish"=some (some (.ref Y)))(Kp:PySem.W.nsIn K mainGlobals "TooMany"=some (some (.ref t)))(Hg:PySem.W.nsIn K mainGlobals "NoNumber"=some (some (.ref vz)))(UJ:PySem.W.nsIn K mainGlobals "Web"=some (some (.ref b)))(NC:PySem.W.nsIn K mainGlobals "Tally"=some (some (.ref a)))(xh:pT K D)(zt:pT K B)(ue:pT K Q)(xk:pT K Y)(xB:pT K t)(sk:pT K vz)(Cp:FI K "check_counts" md CU BH)(KO:FI K "is_place" pQ Kn GZ)(Fj:FI K "check_ends" pK FQ Ej)(F9:FI K "other_ends" nQ F7 Et)(Dk:FI K "check_joined" oA Ce BP)(EA:FI K "check_tolls" kX Ep Di)(CW:PySem.W.findIn K (.ref b) "__init__"=some (some (.ref i)))(C8:PySem.W.isFn K (.ref i)=true)(Cz:K.lookup i=some ⟨Wk,Wj,.func (PySem.W.fnOf "__init__" "Web.__init__" (je jc) (iq jc) (aK jc) .none Ba Au BZ AN tR AB),Ad⟩)(Ch:PySem.W.codeIn K tR "Web.__init__"=true)(CQ:PySem.W.keepIn K (.ref i)=true)(G6:FI K "_law_tolls" qR HV Gh)(Ey:FI K "check_place" iP Eg Dj)(FJ:FI K "neighbours" qh Go Es)(Up:FI K "kids" uZ Vq Sb)(RT:FI K "ahead" sy RH P4)(U2:FI K "down" uI Ui Rj)(NA:FI K "inward" mS Oa MI)(Uy:FI K "toll" pN TR Ry)(Ri:FI K "borne" uK Rt OE)(Lf:FI K "is_heavy" qi Km Hu)(AM:FI K "least_weights" jG Bg zT)(Lr:FI K "bearers" q8 L0 KY)(Eu:FI K "differences" jL D8 Dl)(Kh:FI K "value_at" ia JO Hm)(CJ:FI K "first_values" mm CL BF)(MV:FI K "is_free" pD LG KJ)(HU:FI K "parted_at" oS HZ Fi)(Pm:FI K "parted" sP QP Lp)(K7:FI K "held_for" qb JH HY)(L3:FI K "ways_of" pE M0 Kc)(E1:FI K "ways_given" nN EW Ew)(Jz:FI K "rests_of" jo JP G2)(z9:PySem.W.findIn K (.ref a) "__init__"=some (some (.ref k)))(Aa:PySem.W.isFn K (.ref k)=true)(zU:K.lookup k=some ⟨nE,lT,.func (PySem.W.fnOf "__init__" "Tally.__init__" (je eU) (iq eU) (aK eU) .none yx ye yh yt rO yw),yj⟩)(Ab:PySem.W.codeIn K rO "Tally.__init__"=true)(zR:PySem.W.keepIn K (.ref k)=true)(KW:FI K "_law_down" mO JD GS)(Ec:FI K "_law_layings" kY Ev CY)(JM:FI K "_law_load" pY La HS)(AV:FI K "_law_rows_down" lI Af zo)(Md:FI K "_law_due" rg Mi J5)(JY:FI K "_law_cell" rR Lg Hf)(GQ:FI K "_law_mixed" qQ G8 Fg)(El:FI K "_law_numbers" mW EC CS)(K8:FI K "_law_toll" se Kl Hq)(MT:FI K "_law_web" rj LJ Kq)(Hh:FI K "_law_small" qX HR GM)(GV:FI K "_law_whole" ng GX Gy)(Cy:FI K "check_wanted" kt C2 BO)(KQ:FI K "bound_by" pW K9 HG)(Nt:FI K "enough" qH Pr LX)(Ho:FI K "is_filled" qO Hk FE)(HB:FI K "laying_of" m8 HK Gv)(KR:FI K "gathered" pZ Kb GR)(Tr:FI K "most" Bm T7 RA)(Ra:FI K "total" xZ Rq Pq)(KB:FI K "is_worst" pP JA Hr)(Fw:FI K "check_told" kG EV Ef)(NZ:FI K "course" qy On LN)(Eb:FI K "last_within" oV Ei Co)(K6:FI K "given_by" rZ Jy HC)(D7:FI K "ways_before" mV Eh Cc)(Ex:FI K "handed_down" jO EE Cw)(Hs:FI K "laying_at" qV Hl EM)(KH:FI K "worst_at" ow Jx HN)(FX:FI K "worst_many" nM Fv EB)(ze:FI K "number_beneath" ig zE yq)(He:FI K "number_of" oN Hv Gc)(CP:FI K "worst_number" ku C1 Bl)(Q6:PySem.W.nsIn K mainGlobals "law"=some (some (.ref Ky)))(Vu:K.lookup Ky=some ⟨J,ai,.func (PySem.W.fnOf "law" "law" (je nX) (iq nX) (aK nX) .none MC LB LS Ly y Mg),TU⟩)(Vv:PySem.W.codeIn K y "law"=true)(VA:PySem.W.keepIn K (.ref Ky)=true)(UQ:PySem.W.plainGet K b Str.empty=true)(TD:PySem.W.hasDictIn K b=true)(Tc:PySem.W.plainOver K b=true)(SB:PySem.W.findIn K (.ref b) "__setattr__"=some (some (.builtin "object.__setattr__")))(SR:PySem.W.makesIn K b=true)(Vc:PySem.W.keepIn K (.ref b)=true)(Yo:PySem.W.findIn K (.ref b) "many"=some none)(XX:PySem.W.findIn K (.ref b) "roads"=some none)(NV:PySem.W.plainGet K a Str.empty=true)(ND:PySem.W.hasDictIn K a=true)(Np:PySem.W.plainOver K a=true)(Qd:PySem.W.findIn K (.ref a) "__setattr__"=some (some (.builtin "object.__setattr__")))(Of:PySem.W.makesIn K a=true)(QA:PySem.W.keepIn K (.ref a)=true)(XY:PySem.W.findIn K (.ref a) "web"=some none)(Xr:PySem.W.findIn K (.ref a) "down"=some none)(Wl:PySem.W.findIn K (.ref a) "weights"=some none)(Wm:PySem.W.findIn K (.ref a) "bearers"=some none)(Xs:PySem.W.findIn K (.ref a) "kids"=some none)(WV:PySem.W.findIn K (.ref a) "rests"=some none)(S:PySem.W.nsIn K mainGlobals "range"=some none)(x:PySem.W.nsIn K mainGlobals "zip"=some none)(R:PySem.W.nsIn K mainGlobals "len"=some none)(Xu:PySem.W.nsIn K mainGlobals "isinstance"=some none)(U:PySem.W.nsIn K mainGlobals "all"=some none)(N:PySem.W.nsIn K mainGlobals "int"=some none)(u:PySem.W.nsIn K mainGlobals "bool"=some none)(E:PySem.W.nsIn K mainGlobals "tuple"=some none)(ad:PySem.W.nsIn K mainGlobals "list"=some none)(Yp:PySem.W.nsIn K mainGlobals "reversed"=some none)(ZN:PySem.W.nsIn K mainGlobals "sorted"=some none)(O:PySem.W.nsIn K mainGlobals "min"=some none)(p:PySem.W.nsIn K mainGlobals "max"=some none)(XZ:PySem.W.nsIn K mainGlobals "enumerate"=some none)(Z:PySem.W.nsIn K mainGlobals "sum"=some none)(z:PySem.W.nsIn K mainGlobals "str"=some none)(C:PySem.W.nsIn K mainGlobals "set"=some none)(WW:PySem.W.nsIn K mainGlobals "MOST_PLACES"=some (some (.int 24 WU)))(Xv:PySem.W.nsIn K mainGlobals "LEAST_TOLL"=some (some (.int 2 Xq)))(X0:PySem.W.nsIn K mainGlobals "MOST_TOLL"=some (some (.int 1000000 XW)))(WB:PySem.W.nsIn K mainGlobals "MOST_PEBBLES"=some (some (.int 1000000000000 Wz))):∃fd:FuncData,(∀(s:Shared)(v:Value),BindsTo s fd ⟨[v],[]⟩ [("script",v)])/\∀base:Heap,K.In base->base.Ns mainGlobals d->ϓ l.prog w K d base (Ε l.prog w) 13 A fd ["script"] (EG K):=by
 have e:=ac.symm.trans (bT X G Q6);cases e
 let T:Txt K d:=⟨D,bT X G Ka,B,bT X G LO,Q,bT X G FL,Y,bT X G Kf,t,bT X G Kp,vz,bT X G Hg,b,bT X G UJ,a,bT X G NC,xh,zt,ue,xk,xB,sk,PySem.W.mg_none_of X G S,PySem.W.mg_none_of X G x,PySem.W.mg_none_of X G R,PySem.W.mg_none_of X G Xu,PySem.W.mg_none_of X G U,PySem.W.mg_none_of X G N,PySem.W.mg_none_of X G u,PySem.W.mg_none_of X G E,PySem.W.mg_none_of X G ad,PySem.W.mg_none_of X G Yp,PySem.W.mg_none_of X G ZN,PySem.W.mg_none_of X G O,PySem.W.mg_none_of X G p,PySem.W.mg_none_of X G XZ,PySem.W.mg_none_of X G Z,PySem.W.mg_none_of X G z,PySem.W.mg_none_of X G C,⟨_,bT X G WW⟩,⟨_,bT X G Xv⟩,⟨_,bT X G X0⟩,⟨_,bT X G WB⟩,⟨UQ,TD,Tc,SB⟩,Yo,XX,⟨NV,ND,Np,Qd⟩,XY,Xr,Wl,Wm,Xs,WV⟩
 have u5:=Cp.Wy X G ["many","roads"];have Ah:=KO.Wy X G ["many","number"];have wJ:=Fj.Wy X G ["many","road"];have wQ:=F9.Wy X G ["roads","place"];have va:=Dk.Wy X G ["many","roads"];have vV:=EA.df1 X G ["road"];have q:=BN (st:=jc) Cz Ch CQ;have Kw:=q.binds (ps:=["self","many","roads"]) λ_ _ _ _ _ _ us f=>by obtain⟨u0,u1,u2,rfl⟩:=us3 f;rfl
 have yZ:=G6.df1 X G ["roads"];have wc:=Ey.Wy X G ["web","number"];have wL:=FJ.Wy X G ["web","a"];have MX:=Up.Yn X G ["web","place","front"];have Ja:=RT.Wy X G ["web","r"];have MW:=U2.Wy X G ["web","r"];have Gn:=NA.Wy X G ["web","r"];have MJ:=Uy.Yn X G ["web","a","b"];have Ju:=Ri.ZM X G ["web","weights","place","front"];have Bp:=Lf.ZM X G ["web","weights","place","front"];have tQ:=AM.Wy X G ["web","r"];have DF:=Lr.Wy X G ["web","r"];have wa:=Eu.df1 X G ["values"];have AF:=Kh.Wy X G ["found","at"];have uG:=CJ.Wy X G ["found","many"];have DL:=MV.Yn X G ["tally","place","kid"];have yL:=HU.Yn X G ["one","other","at"];have FU:=Pm.Wy X G ["one","other"];have BC:=K7.ZM X G ["tally","place","kid","given"];have DX:=L3.Yn X G ["tally","place","held"];have xw:=E1.ZM X G ["tally","place","kid","given"];have BW:=Jz.Wy X G ["tally","place"];have g:=BN (st:=eU) zU Ab zR;have r:=g.binds (ps:=["self","web","r"]) λ_ _ _ _ _ _ us f=>by obtain⟨u0,u1,u2,rfl⟩:=us3 f;rfl
 have AW:=KW.Yn X G ["many","tolls","r"];have vU:=Ec.Wy X G ["many","held"];have AA:=JM.Yn X G ["tolls","order","laying"];have uc:=AV.df1 X G ["order"];have Dt:=Md.df5 X G ["many","tolls","order","wanted","held"];have BM:=JY.Wy X G ["script","k"];have yG:=GQ.Wy X G ["cell","k"];have vY:=El.Wy X G ["script","many"];have Aj:=K8.df1 X G ["rest"];have DT:=MT.df1 X G ["numbers"];have yE:=Hh.df1 X G ["numbers"];have yD:=GV.df1 X G ["found"];have uO:=Cy.Yn X G ["web","r","wanted"];have Al:=KQ.ZM X G ["web","r","wanted","weights"];have Fd:=Nt.Yn X G ["web","r","wanted"];have yC:=Ho.Wy X G ["web","numbers"];have yY:=HB.Wy X G ["web","numbers"];have BD:=KR.Yn X G ["web","laying","r"];have L4:=Tr.Yn X G ["web","laying","r"];have Jc:=Ra.df1 X G ["numbers"];have Bq:=KB.ZM X G ["web","r","wanted","laying"];have xx:=Fw.Yn X G ["web","r","wanted"];have ES:=NZ.ZM X G ["tally","place","at","left"];have wg:=Eb.Yn X G ["before","top","number"];have Bt:=K6.df5 X G ["tally","place","at","left","number"];have vW:=D7.df5 X G ["tally","place","at","left","given"];have vZ:=Ex.ZM X G ["tally","place","held","number"];have yP:=Hs.Yn X G ["tally","held","number"];have Bb:=KH.ZM X G ["web","r","wanted","number"];have wB:=FX.Yn X G ["web","r","wanted"];have tf:=ze.ZM X G ["tally","place","held","numbers"];have yI:=He.Wy X G ["tally","held"];have u7:=CP.ZM X G ["web","r","wanted","laying"];have Q3:=BN (st:=nX) Vu Vv VA;have VB:=Q3.binds (ps:=["script"]) λ_ _ _ _ _ _ us f=>by obtain⟨u0,rfl⟩:=us1 f;rfl
 have VG:Df K d "law" nX ["script"] A _:=⟨Q3,bT X G Q6,VB⟩;refine⟨PySem.W.fnOf "law" "law" (je nX) (iq nX) (aK nX) .none MC LB LS Ly y Mg,λs v=>.of_eq rfl,λbase _ _=>?_⟩;have JF:Mk K T.Web i:=⟨SR,CW,C8,Vc⟩;have L:Mk K T.Tally k:=⟨Of,z9,Aa,QA⟩;have qo:=cb u5 (Ax (P:=l.prog) (w:=w) (base:=base) T bW _ _ u5);have mK:=cb Ah (Hi (P:=l.prog) (w:=w) (base:=base) T bW _ _ Ah);have tI:=cb wJ (ED T bW mK _ _ wJ);have mq:=cb wQ (Eo (P:=l.prog) (w:=w) (base:=base) T bW _ _ wQ);have qB:=cb va (BI T bW mq _ _ va);have rN:=cb vV (B8 (P:=l.prog) (w:=w) (base:=base) T bW _ _ vV);have eQ:=Bc (P:=l.prog) (w:=w) (base:=base) T bW q qo tI qB rN;have uw:=cb yZ (Gq (P:=l.prog) (w:=w) (base:=base) T bW _ _ yZ);have n:=cb wc (CD T bW mK _ _ wc);have sG:=cb wL (Ek T bW n mq _ _ wL);have I:=cb MX (RP T bW sG _ _ MX);have o:=cb Ja (Pn T bW n I _ _ Ja);have uF:=cb MW (RY T bW o I _ _ MW);have m:=cb Gn (MG T bW o uF _ _ Gn);have j:=cb MJ (Rc T bW n _ _ MJ);have sA:=cb Ju (PH T bW j _ _ Ju);have oj:=cb Bp (G9 T bW sA _ _ Bp);have M:=cb tQ (zr T bW sA m _ _ tQ);have wR:=cb DF (K0 T bW m oj M _ _ DF);have jN:=cb wa (Cf (P:=l.prog) (w:=w) (base:=base) T bW _ _ wa);have c:=cb AF (G5 (P:=l.prog) (w:=w) (base:=base) T bW _ _ AF);have qF:=cb uG (Ar T bW c _ _ uG);have V:=cb DL (K1 T bW oj _ _ DL);have m9:=cb yL (Gu (P:=l.prog) (w:=w) (base:=base) T bW _ _ yL);have zB:=cb FU (MS T bW m9 _ _ FU);have om:=cb BC (Hw T bW j _ _ BC);have F:=cb DX (JX T bW c _ _ DX);have iH:=cb xw (Ed T bW om F _ _ xw);have vo:=cb BW (HH T bW jN qF V zB iH _ _ BW);have Β:=yB (P:=l.prog) (w:=w) (base:=base) T bW g o wR uF I M vo;have vy:=cb AW (Hx (P:=l.prog) (w:=w) (base:=base) T bW _ _ AW);have rE:=cb vU (Ds (P:=l.prog) (w:=w) (base:=base) T bW _ _ vU);have vh:=cb AA (HD (P:=l.prog) (w:=w) (base:=base) T bW _ _ AA);have pR:=cb uc (zI (P:=l.prog) (w:=w) (base:=base) T bW _ _ uc);have xC:=cb Dt (Kk T bW rE vh pR _ _ Dt);have rT:=cb BM (G1 (P:=l.prog) (w:=w) (base:=base) T bW _ _ BM);have qU:=cb yG (GH (P:=l.prog) (w:=w) (base:=base) T bW _ _ yG);have rF:=cb vY (Cm T bW rT qU _ _ vY);have sh:=cb Aj (HQ (P:=l.prog) (w:=w) (base:=base) T bW _ _ Aj);have wS:=cb DT (JC T bW sh _ _ DT);have uo:=cb yE (FG T bW wS _ _ yE);have ko:=cb yD (GD (P:=l.prog) (w:=w) (base:=base) T bW _ _ yD);have kC:=cb uO (Bs T bW n _ _ uO);have vq:=cb Al (G7 T bW kC m j _ _ Al);have H:=cb Fd (Mo T bW vq M _ _ Fd);have ug:=cb yC (EX (P:=l.prog) (w:=w) (base:=base) T bW _ _ yC);have m7:=cb yY (Gw T bW ug _ _ yY);have n9:=cb BD (HX T bW m m7 j _ _ BD);have ET:=cb L4 (R9 T bW n9 _ _ L4);have C7:=cb Jc (NM (P:=l.prog) (w:=w) (base:=base) T bW _ _ Jc);have og:=cb Bq (GU T bW H m7 ET C7 _ _ Bq);have mi:=cb xx (D6 T bW H _ _ xx);have qI:=cb ES (LA T bW jN c iH _ _ ES);have rB:=cb wg (Dh T bW c _ _ wg);have vb:=cb Bt (GY T bW qI V rB _ _ Bt);have kZ:=cb vW (Cv T bW qI V c _ _ vW);have rJ:=cb vZ (Cu T bW vb om c kZ _ _ vZ);have ux:=cb yP (Gk T bW rJ _ _ yP);have vf:=cb Bb (HL T bW g r L Β mi ux F _ _ Bb);have tH:=cb wB (D4 T bW g r L Β kC F _ _ wB);have oX:=cb tf (yA T bW j c kZ _ _ tf);have uj:=cb yI (F2 T bW oX _ _ yI);have qN:=cb u7 (BA T bW g r L Β mi n9 og uj _ _ u7);have VE:=UZ (P:=l.prog) (w:=w) (base:=base) T bW VG q Kw JF eQ vy xC rF uo uw ko H og vf tH qN;exact VE
theorem walk{l:PySem.W.OpenLaw}{q:Program}{c:hD}{r:(Str->Option Value)->Heap->Prop}{m:World->Heap->Prop}{d:DefRec}{K:Params->PySem.W.Frag}(v:l.most=some 63)(g:d.params.defaults=[])(y:∀(w:World) (h:Heap),m w h->(K w.params).In h)(F:∀(w:World) (e:g8) (j:Addr) (h:Heap),(K w.params).In h->h.Ns mainGlobals e->e d.name=some (.ref j)->∃i:FuncData,(∀(s:Shared) (u:Value),BindsTo s i ⟨[u],[]⟩ [("script",u)])/\∀b:Heap,(K w.params).In b->b.Ns mainGlobals e->ϓ l.prog w (K w.params) e b (Ε l.prog w) 13 j i ["script"] (EG (K w.params))):PySem.W.WalkO q c r m l.row.toRowW d [] (λf A=>PySem.call f A):=L2.aac (n:=63) (k:=13) (x:="script") (CX:=λw=>(Ε l.prog w)) (sp:=λw=>EG (K w.params)) v (by decide) g ⟨rfl,by decide,by decide⟩ y F (λ_ _ a p o _ t=>⟨a,p,rfl,t,o,λ_=>rfl⟩) λ_ _ _ _ _ z=>bW _ _ _ _ _ z
end Pk
open L2
open PySem PySem.W PyProof.Rows
set_option maxRecDepth 100000 in
set_option maxHeartbeats 0 in
theorem PySem.Challenge.cw_pebbletoll_k44_counted_by_trying_holds : PySem.Challenge.rw_pebbletoll_k44_counted_by_trying.Holds := by
 w_on;refine PySem.W.holds_law Hd.ws λaqC=>?_
 refine PySem.W.holds_open (q:=Hd.qq) (loose:=[]) (Xt:=(λs=>PySem.W.xlAt Hd.qq [] s&&PySem.W.recOk (PySem.W.RowW.records (PySem.W.OpenRow.toRowW (PySem.Challenge.rw_pebbletoll_k44_counted_by_trying).row)) s)) (XP:=PySem.W.XL Hd.qq []) (Yf:=PySem.W.Hook.obs (PySem.W.kHook Hd.KK Hd.ZO Hd.Ϥ)) (Ya:=PySem.W.Hook.val (PySem.W.kHook Hd.KK Hd.ZO Hd.Ϥ)) (YP:=PySem.W.Hook.says (PySem.W.kHook Hd.KK Hd.ZO Hd.Ϥ)) (N:=8472) Hd.left (PySem.W.Hook.of (PySem.W.kHook Hd.KK Hd.ZO Hd.Ϥ)) (PySem.W.Hook.keeps (PySem.W.kHook Hd.KK Hd.ZO Hd.Ϥ)) (λs e=>PySem.W.xl_of s (nC.mp e).1) PySem.W.XL.keeps (by rfl) (by rfl) (by rfl) (λs e=>PySem.W.recFacts_of (nC.mp e).2) (by rfl) (by assumption) (by decide +kernel) ⟨rfl,rfl,rfl,rfl,rfl,by decide +kernel⟩ ?hw ?hc
 (case hw=>w_witness2)
 k_fill
 refine Pk.walk (l:=PySem.Challenge.rw_pebbletoll_k44_counted_by_trying) rfl rfl (λw h Y=>PySem.W.kIn_of Y) ?F
 case F=>
  intro w mg fa h KX G hmg;refine' Pk.all_mk KX G hmg ?_ ?_ ?_ ?_ ?_ ?_ ?_ ?_ ?_ ?_ ?_ ?_ ?_ ?_ ?_ ?_ ?_ ?_ ?_ ?_ ?_ ?_ ?_ ?_ ?_ ?_ ?_ ?_ ?_ ?_ ?_ ?_ ?_ ?_ ?_ ?_ ?_ ?_ ?_ ?_ ?_ ?_ ?_ ?_ ?_ ?_ ?_ ?_ ?_ ?_ ?_ ?_ ?_ ?_ ?_ ?_ ?_ ?_ ?_ ?_ ?_ ?_ ?_ ?_ ?_ ?_ ?_ ?_ ?_ ?_ ?_ ?_ ?_ ?_ ?_ ?_ ?_ ?_ ?_ ?_ ?_ ?_ ?_ ?_ ?_ ?_ ?_ ?_ ?_ ?_ ?_ ?_ ?_ ?_ ?_ ?_ ?_ ?_ ?_ ?_ ?_ ?_ ?_ ?_ ?_ ?_ ?_ ?_ ?_ ?_ ?_ ?_ ?_ ?_ ?_ ?_ ?_ ?_ ?_ ?_ ?_ ?_ ?_ ?_ ?_ ?_ ?_ ?_ ?_ ?_
  any_goals first|exact RU _ _ _ _ _ _ _ _ _ _ _ _ _ _ _ _ (by k_is) (by rfl) (by kernel_rfl) (by k_is) (by kernel_rfl)|exact Pk.fi|k_is
#print axioms PySem.Challenge.cw_pebbletoll_k44_counted_by_trying_holds