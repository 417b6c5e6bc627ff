import PyProof.Rows.All
import Wide.All
import OpenK.AllK
import Wide.FinOn
import Lean
import PyProof.EqAt
import PyProof.EqKinds
import PyProof.TupleCall
import PyProof.P3Eq
import PyProof.NeData
import PyProof.FitsBits
import PyProof.ZipIter
import PyProof.TupleIter
import KE.KRevIter
import PyProof.TupleOfGen
import PyProof.ListRange
import KE.KIsAll
import PyProof.ExcArgsOwn
import OpenK.KDescr
import PyProof.StationsW
import PyProof.ExcBaseAll.ValueError
import OpenK.KOwn
import PyProof.RulesAs
import PyProof.RulesDel
import PyProof.Rows.SortWalk
import PyProof.CompUse
import KE.KDictSum
import PyProof.WalkInts
import KE.KSortTup
import PyProof.Rows.TupDisplay
import KE.KIntText
import PyProof.JoinWalk
import PyProof.ExcInit
import PyProof.ExcClass2
import KE.KRevSl
import KE.KSetAt
import PyProof.DictUpdate
import PySem.Challenge.RW_pebbletoll_k46_whole_numbers_there_and_b
set_option Elab.async false
set_option linter.all false
set_option maxRecDepth 100000
def fV:=@Array.getElem?_eq_some_iff
def nP:=@Array.length_toList
def b5:=@Bool.and_eq_true
def nK:=@Bool.and_eq_true_iff
def gR:=@Bool.eq_iff_iff
def jg:=@Bool.false_and
def dL:=@Bool.false_eq_true
def bj:=@Bool.false_ne_true
def nQ:=@Bool.false_or
def fX:=@Bool.not_eq_true'
def lH:=@Bool.or_true
def jb:=@Bool.true_and
def kI:=@PySem.Calls.Name_function_global
def gL:=@PySem.Calls.spliced_cons
def gW:=@PySem.Calls.spliced_nil
def j2:=@PySem.F.args_tuple_iterator_next_1
def kD:=@PySem.F.entry_tuple_iterator_next
def fS:=@PySem.F.slot_tuple_iterator_next
def jO:=@PySem.F.slot_zip_next
def aA:=@PySem.Heap.get?_push_of_some
def bc:=@PySem.Heap.get?_push_size
def di:=@PySem.Heap.get?_update_other
def eP:=@PySem.Heap.get?_update_self
def aI:=@PySem.Heap.lt_size
def dF:=@PySem.Heap.size_push
def nR:=@Int.add_comm
def eR:=@Int.add_mul
def jt:=@Int.add_mul_ediv_right
def lI:=@Int.add_zero
def ji:=@Int.ediv_eq_zero_of_lt
def jR:=@Int.ediv_nonneg
def cC:=@Int.emod_lt_of_pos
def dj:=@Int.emod_nonneg
def kL:=@Int.fdiv_eq_ediv_of_nonneg
def lD:=@Int.le_of_lt
def bC:=@Int.le_refl
def bE:=@Int.le_trans
def dh:=@Int.mul_add
def hG:=@Int.mul_assoc
def fh:=@Int.mul_comm
def mO:=@Int.mul_ediv_add_emod
def dE:=@Int.mul_le_mul
def cm:=@Int.mul_le_mul_of_nonneg_left
def ce:=@Int.mul_le_mul_of_nonneg_right
def dU:=@Int.mul_nonneg
def iU:=@Int.mul_one
def gX:=@Int.mul_sub
def iE:=@Int.mul_zero
def ja:=@Int.natAbs_add_le
def kh:=@Int.natAbs_mul
def kM:=@Int.natAbs_natCast
def dJ:=@Int.natCast_add
def iB:=@Int.natCast_mul
def my:=@Int.natCast_pow
def jP:=@Int.natCast_sub
def nS:=@Int.ne_of_gt
def o9:=@Int.neg_mul
def f8:=@Int.one_mul
def md:=@Int.pow_add
def nV:=@Int.sub_zero
def bu:=@Int.toNat_natCast
def bn:=@Int.toNat_of_nonneg
def cW:=@Int.zero_add
def g6:=@List.Perm.append_left
def mF:=@List.Perm.append_right
def nJ:=@List.all_cons
def fB:=@List.all_eq_true
def g9:=@List.any_cons
def bW:=@List.append_assoc
def bJ:=@List.append_nil
def gY:=@List.concat_eq_append
def dy:=@List.cons.inj
def ft:=@List.cons_append
def eK:=@List.contains_cons
def jQ:=@List.drop_append_of_le_length
def cq:=@List.drop_eq_getElem_cons
def mJ:=@List.drop_eq_nil_of_le
def fA:=@List.drop_length
def mz:=@List.drop_of_length_le
def j5:=@List.drop_succ_cons
def gS:=@List.drop_zero
def d4:=@List.eq_nil_iff_forall_not_mem
def gZ:=@List.eq_nil_or_concat
def gB:=@List.eq_of_mem_replicate
def eX:=@List.ext_getElem?
def iG:=@List.filterMap_cons
def cH:=@List.filter_append
def lX:=@List.filter_cons
def fF:=@List.filter_cons_of_neg
def gH:=@List.filter_cons_of_pos
def mB:=@List.filter_nil
def gF:=@List.find?_cons
def jH:=@List.findSome?_append
def ku:=@List.findSome?_cons
def j9:=@List.flatMap_append
def bD:=@List.flatMap_cons
def eZ:=@List.flatten_cons
def mq:=@List.forIn_cons
def bH:=@List.getD_eq_getElem?_getD
def c8:=@List.getElem?_append_left
def cT:=@List.getElem?_append_right
def iQ:=@List.getElem?_cons_succ
def ao:=@List.getElem?_eq_getElem
def bN:=@List.getElem?_eq_none
def ar:=@List.getElem?_eq_some_iff
def fH:=@List.getElem?_inj
def aH:=@List.getElem?_map
def cR:=@List.getElem?_of_mem
def fT:=@List.getElem?_range
def d5:=@List.getElem?_replicate
def jI:=@List.getElem?_replicate_of_lt
def b7:=@List.getElem?_reverse
def dZ:=@List.getElem?_set_ne
def gG:=@List.getElem?_set_self
def iJ:=@List.getElem?_take_of_lt
def lZ:=@List.getElem_cons_drop
def iY:=@List.getElem_map
def eW:=@List.getElem_mem
def d8:=@List.getElem_of_mem
def fI:=@List.getElem_take
def jJ:=@List.getLast?_append
def iu:=@List.getLast?_eq_none_iff
def aO:=@List.length_append
def aD:=@List.length_cons
def ee:=@List.length_drop
def b8:=@List.length_filter_le
def aa:=@List.length_map
def dY:=@List.length_nil
def bI:=@List.length_range
def bU:=@List.length_replicate
def aU:=@List.length_reverse
def dB:=@List.length_set
def bg:=@List.length_take
def lP:=@List.length_zip
def cP:=@List.lookup_cons
def aB:=@List.map_append
def bX:=@List.map_congr_left
def az:=@List.map_cons
def j8:=@List.map_drop
def kT:=@List.map_map
def dQ:=@List.map_nil
def gq:=@List.map_replicate
def d9:=@List.map_reverse
def eM:=@List.map_set
def mX:=@List.map_take
def aV:=@List.mem_append
def bq:=@List.mem_append_left
def aR:=@List.mem_append_right
def aq:=@List.mem_cons
def aF:=@List.mem_cons_of_mem
def aK:=@List.mem_cons_self
def mN:=@List.mem_erase_of_ne
def bG:=@List.mem_filter
def eY:=@List.mem_flatMap
def bz:=@List.mem_map
def dN:=@List.mem_nil_iff
def aJ:=@List.mem_of_getElem?
def fL:=@List.mem_of_getLast?
def cj:=@List.mem_of_mem_drop
def fJ:=@List.mem_of_mem_take
def fQ:=@List.mem_or_eq_of_mem_set
def cA:=@List.mem_range
def dM:=@List.mem_reverse
def aE:=@List.mem_singleton
def fW:=@List.nil_append
def dC:=@List.nodup_append
def bf:=@List.nodup_cons
def mm:=@List.nodup_nil
def kX:=@List.not_mem_nil
def ig:=@List.of_mem_zip
def ir:=@List.pairwise_iff_getElem
def mn:=@List.perm_append_comm
def ic:=@List.perm_append_singleton
def da:=@List.range_succ
def cD:=@List.replicate_succ
def ij:=@List.reverse_append
def dD:=@List.reverse_cons
def jK:=@List.reverse_reverse
def l9:=@List.reverse_singleton
def mI:=@List.singleton_append
def aQ:=@List.size_toArray
def eE:=@List.sum_append
def aW:=@List.sum_cons
def cI:=@List.take_add_one
def cw:=@List.take_append_drop
def bo:=@List.take_length
def df:=@List.take_of_length_le
def bQ:=@List.take_succ
def m6:=@List.take_succ_cons
def d7:=@List.take_zero
def gD:=@Nat.add_le_add
def fm:=@Nat.add_mul
def iZ:=@Nat.le_add_right
def kU:=@Nat.le_of_eq
def je:=@Nat.le_of_lt
def ax:=@Nat.le_refl
def fK:=@Nat.le_succ
def aN:=@Nat.le_trans
def oE:=@Nat.log2_lt
def c7:=@Nat.lt_irrefl
def fE:=@Nat.lt_of_le_of_lt
def aY:=@Nat.lt_of_lt_of_le
def gN:=@Nat.lt_succ_of_lt
def fP:=@Nat.lt_succ_self
def iT:=@Nat.lt_trichotomy
def oh:=@Nat.mul_add
def jf:=@Nat.mul_comm
def bR:=@Nat.mul_le_mul
def ip:=@Nat.mul_le_mul_left
def dA:=@Nat.mul_le_mul_right
def eO:=@Nat.ne_of_gt
def aX:=@Nat.ne_of_lt
def jD:=@Nat.not_lt_zero
def lO:=@Nat.one_mul
def eG:=@Nat.pow_add
def im:=@Nat.pow_le_pow_left
def bP:=@Nat.pow_le_pow_right
def mK:=@Nat.pow_lt_pow_right
def og:=@Nat.pow_mul
def gc:=@Nat.pow_succ
def dP:=@Nat.sub_self
def gm:=@Nat.sub_zero
def jh:=@Nat.succ.inj
def kP:=@Nat.zero_add
def bx:=@Nat.zero_le
def eD:=@PySem.Obj.data_mapFields
def gU:=@PySem.Obj.isFreed_of_fields
def eT:=@Option.isSome_iff_exists
def gK:=@Option.isSome_map
def eB:=@Option.map_eq_some_iff
def jF:=@Option.map_some
def br:=@Option.some.inj
def cL:=@PyProof.Rows.callWith_type1
def iI:=@PySem.F.slot_list_insert
def kb:=@PySem.W.callWith_K
def lY:=@PySem.W.cellsFrom_some
def de:=@PySem.W.kia_one
def nc:=@PySem.W.looks_mroIn
def bK:=@PySem.W.mg_of
def dH:=@PySem.mem_of_lookup
def jZ:=@beq_iff_eq
def jc:=@PySem.codeAny_mono
def iX:=@decide_eq_decide
def bw:=@decide_eq_false
def ba:=@decide_eq_true
def b4:=@decide_eq_true_eq
def ah:=@if_neg
def aj:=@if_pos
def bZ:=@of_decide_eq_true
def gC:=@PySem.wpAny_Call_Name_kw
def ak:=@PySem.wpAny_bind
def i9:=@PySem.wpAny_call_entry
def kW:=@PySem.wpAny_execs_cons
def fY:=@PySem.wpAny_execs_nil
def cM:=@PySem.wpAny_field
def ko:=@PySem.wpAny_holding
def fZ:=@PySem.wpAny_ite_split
def lF:=@PySem.wpAny_letGo
def hW:=@PySem.wpAny_loadPart'
def cV:=@PySem.wpAny_mono
def gO:=@PySem.wpAny_newObj_type
def j7:=@PySem.wpAny_onRaise
def fu:=@PySem.wpAny_passesOwn
def bh:=@PySem.wpAny_pure
def iP:=@PySem.wpAny_pyIter_list
def jL:=@PySem.wpAny_pyIter_revIter
def j3:=@PySem.wpAny_pyIter_tuple
def d6:=@PySem.wpAny_seqItems
def iC:=@PySem.wpAny_setField
def fC:=@PySem.wpAny_setField_rec
def lV:=@PySem.wpAny_specialOf
def kj:=@PySem.wpAny_standAt
def dc:=@PySem.wpAny_truthy_bool
def jM:=@PySem.wpAny_updateSeq_pair
namespace Hd
open PySem
def top(i:Nat):Stmt:=PySem.Challenge.pw_pebbletoll_k46_whole_numbers_there_and_b.main.body.getD i (.Pass ⟨0,0,0,0⟩)
def inC(s:Stmt)(j:Nat):Stmt:=match s with
 | .ClassDef _ _ _ b _ _ _ _ _ _ _=>b.getD j (.Pass ⟨0,0,0,0⟩)
 | _=>.Pass ⟨0,0,0,0⟩
def kA(s:Stmt):Arguments:=match s with
 | .FunctionDef _ a _ _ _ _ _ _ _ _=>a
 | _=>{ posonlyargs:=[],args:=[],vararg:=none,kwonlyargs:=[],kw_defaults:=[],kwarg:=none,defaults:=[] }
def kB(s:Stmt):List Stmt:=match s with
 | .FunctionDef _ _ b _ _ _ _ _ _ _=>b
 | _=>[]
def kS(s:Stmt):Scope:=match s with
 | .FunctionDef _ _ _ _ _ _ sc _ _ _=>sc
 | _=>{ kind:=.function,names:=[],isGenerator:=false,isCoroutine:=false }
theorem ws:(PySem.Challenge.rw_pebbletoll_k46_whole_numbers_there_and_b).wellSaid=true:=by kernel_rfl
open PySem.W PySem.Calls PyProof.Rows
def en(P:Params)(s:Str)(t:Tok)(v:Value):DictEntry:=.mk (PyData.keyHash P s) (.str s t) v
def cO(a b:Str)(i g h:Tok)(m p s f c:Int)(k:Value)(e:Bool)(j:Int)(t n r l q:Value)(o d:Int)(u:Tok):Obj:=.mk (.type "code") none (.fields #[.str a i,.str b g,.str "/claim/cut.py" h,.int m 0,.int p 0,.int s 0,.int f 0,.int c 0,k,.bool e,.int j 0,t,n,r,l,q,.int o 0,.int d 0,.str "/claim/cut.py" u]) #[]
def fR(a b:Str)(s:Stmt):Obj:=.mk .none none (.func (.mk a b (kA s) (.stmts (kB s)) (kS s) 0 [] .none .none .none .none none .none .none 0)) #[]
def fO(a b:Str)(s:Stmt)(c d:Value):Obj:=.mk (.type "function") none (.func (PySem.W.fnOf a b (kA s) (kB s) (kS s) .none .none .none c none d .none)) #[]
def tO(a:Array Value):Obj:=.mk (.type "tuple") none (.seq a 0) #[]
def fr(a:Str)(s:Stmt):Obj:=fR a a s
def fo(a:Str)(s:Stmt)(b c:Value):Obj:=fO a a s b c
def cF(a:Str)(t:Nat)(i j k:Int)(n q:Nat):Obj:=cO a a t (t+1) (t+2) i j 0 0 k (.ref n) true 181 (.ref (n+1)) .none (.ref (n+2)) (.ref (n+3)) (.ref (n+4)) q i (q+1)
def sT(t:Nat):List Str->List Value
 | []=>[]
 | s::l=>.str s t::sT (t+1) l
def tS(t:Nat)(l:List Str):Obj:=tO (sT t l).toArray
def tF:List (Int×Nat)->List Value
 | []=>[]
 | (i,a)::l=>.int i 0::.int 0 0::.ref a::tF l
def x0:Obj:=(tO #[])
def x1:Obj:=(.mk .none none (.fields #[]) #[])
def x2:Obj:=(cO "<module>" "<module>" 182 183 184 1 0 0 0 0 (.ref 11) false 181 (.ref 12) .none .none .none .none 185 1 186)
def x3:Obj:=(.mk (.type "frame") none .plain #[(some (.ref 13)),(some (.ref 3)),(some (.ref 3)),none,(some (.str "__main__" 164)),none,(some (.ref 0))])
noncomputable def ha(P:Params):Heap:=.mk (.mk (boot_o_0 P::boot_o_1 P::boot_o_2 P::boot_o_3 P::boot_o_4 P::boot_o_5 P::boot_o_6 P::boot_o_7 P::boot_o_8 P::boot_o_9 P::boot_o_10 P::x0::x1::x2::x3::[])) (.mk [] [] [] 0 [] [] false #[] [] 0 false false false 0 [2000,10,10] false 0 true [] [] 0 false)
noncomputable def hb(P:Params):Heap:=ha P
abbrev st0:List Stmt:=[top 0,top 1,top 2,top 3,top 4,top 5,top 6,top 7,top 8,top 9,top 10,top 11,top 12,top 13,top 14]
abbrev st1:List Stmt:=[top 15,top 16,top 17,top 18,top 19,top 20,top 21,top 22,top 23,top 24,top 25,top 26,top 27,top 28,top 29,top 30,top 31,top 32,top 33,top 34,top 35,top 36,top 37,top 38,top 39,top 40,top 41,top 42,top 43,top 44,top 45,top 46,top 47,top 48,top 49,top 50,top 51,top 52,top 53,top 54,top 55,top 56,top 57,top 58,top 59,top 60,top 61,top 62,top 63,top 64,top 65,top 66,top 67,top 68,top 69,top 70,top 71,top 72,top 73,top 74,top 75,top 76,top 77]
abbrev Zw:List Stmt:=[top 78,top 79,top 80,top 81,top 82,top 83,top 84,top 85,top 86,top 87,top 88,top 89]
abbrev bb:List Stmt:=st0++(st1++(Zw++([])))
def env:Env:={ scope:=PySem.Challenge.pw_pebbletoll_k46_whole_numbers_there_and_b.main.scope,locals:=mainNs,globals:=mainNs,cells:=[],code:=(.ref 13),frame:=some 14 }
abbrev cE:Code:=.body bb env
theorem WE(w:World)(os:OsState):topGo treeTable PySem.Challenge.pw_pebbletoll_k46_whole_numbers_there_and_b w 11 (some (.ref 6)) 12 (Shared.mk (boot_heap w.params) (.mk []) boot_drawn boot_toks os) (topStub PySem.Challenge.pw_pebbletoll_k46_whole_numbers_there_and_b)=some ((Shared.mk (ha w.params) (.mk []) (.mk 0 0 0 0) 187 os),Thread.mk (denote treeTable cE) cE (.mk 0 0 0 0) [topFrame (.mk 0 0 0 0)]):=by kernel_rfl
theorem WX(w:World)(os:OsState):segRun treeTable PySem.Challenge.pw_pebbletoll_k46_whole_numbers_there_and_b w 11 (some (.ref 6)) 1 1 (Shared.mk (ha w.params) (.mk []) (.mk 0 0 0 0) 187 os) (blockOf bb env cE (.mk 0 0 0 0) [topFrame (.mk 0 0 0 0)])=some (.next,(Shared.mk (hb w.params) (.mk []) (.mk 0 0 0 0) 187 os),cE,(.mk 0 0 0 0)):=by kernel_rfl
def x4(P:Params):Obj:=(.mk (.type "dict") none (.dict #[(en P "__name__" 165 (.str "pebbletoll.webs" 319)),(en P "__doc__" 166 .none),(en P "__package__" 167 .none),(en P "__loader__" 168 (.builtin "__main__.__loader__#opaque")),(en P "__spec__" 169 .none),(en P "__annotations__" 170 (.ref 6)),(en P "__builtins__" 171 (.ref 4)),(en P "__file__" 173 (.str "/claim/cut.py" 172)),(en P "__cached__" 174 .none),(en P "TollError" 206 (.ref 24)),(en P "BadWeb" 222 (.ref 37)),(en P "NoPlace" 238 (.ref 49)),(en P "NoRoad" 254 (.ref 61)),(en P "BadLaying" 270 (.ref 73)),(en P "BadWish" 286 (.ref 85)),(en P "TooMany" 302 (.ref 97)),(en P "NoNumber" 318 (.ref 109)),(en P "MOST_PLACES" 322 (.int 24 321)),(en P "LEAST_TOLL" 324 (.int 2 323)),(en P "MOST_TOLL" 326 (.int 1000000 325)),(en P "Web" 354 (.ref 126)),(en P "toll" 367 (.ref 137))] 22) #[])
def x5:Obj:=(.mk .none none (.fields (tF [(2,20),(4,33),(6,45),(8,57),(10,69),(12,81),(14,93),(16,105),(22,117),(33,136)]).toArray) #[])
def x6:Obj:=(tO #[(.type "ValueError")])
def x7:Obj:=(.mk (.type "builtin_function_or_method") none (.fields #[(.builtin "type.__prepare__"),(.type "type")]) #[])
def x8(P:Params):Obj:=(.mk (.type "dict") none (.dict #[(en P "__module__" 196 (.str "pebbletoll.errors" 187)),(en P "__qualname__" 198 (.str "TollError" 197)),(en P "__firstlineno__" 200 (.int 2 199)),(en P "__static_attributes__" 201 (.ref 22))] 4) #[])
def x9:Obj:=(cO "TollError" "TollError" 191 192 193 2 0 0 0 0 (.ref 18) false 181 (.ref 19) .none .none .none .none 194 2 195)
def x10:Obj:=(.mk (.type "frame") none .plain #[(some (.ref 20)),(some (.ref 3)),(some (.ref 17)),none,(some (.str "pebbletoll.errors" 187)),none,(some (.ref 0))])
def x11(P:Params):Obj:=(.mk (.type "dict") none (.dict #[(en P "__module__" 196 (.str "pebbletoll.errors" 187)),(en P "__firstlineno__" 200 (.int 2 199)),(en P "__static_attributes__" 201 (.ref 22)),(en P "__weakref__" 203 (.ref 25)),(en P "__doc__" 204 .none)] 3) #[])
def x12:Obj:=(.mk (.type "type") none (.cls (.mk "TollError" [(.type "ValueError")] [(.ref 24),(.type "ValueError"),(.type "Exception"),(.type "BaseException"),(.type "object")] 23 "TollError" true [] [(.ref 37),(.ref 49),(.ref 61),(.ref 73),(.ref 85),(.ref 97),(.ref 109)] false none false)) #[(some (.ref 15)),none,(some (.str "TollError" 189)),(some (.str "TollError" 197)),(some (.builtin "ValueError.__new__")),(some (.bool true))])
def x13:Obj:=(.mk (.type "getset_descriptor") none (.fields #[(.str "__weakref__" 202),(.ref 24),(.builtin "ExceptionGroup.__weakref__"),.none]) #[])
def x14:Obj:=(.mk (.type "super") none (.fields #[(.ref 24),(.ref 24),(.ref 24)]) #[])
def x15:Obj:=(.mk (.type "builtin_function_or_method") none (.fields #[(.builtin "object.__init_subclass__"),(.ref 24)]) #[])
def Xy:Obj:=(tO #[(.ref 24)])
def x17(P:Params):Obj:=(.mk (.type "dict") none (.dict #[(en P "__module__" 214 (.str "pebbletoll.errors" 187)),(en P "__qualname__" 216 (.str "BadWeb" 215)),(en P "__firstlineno__" 218 (.int 4 217)),(en P "__static_attributes__" 219 (.ref 35))] 4) #[])
def x18:Obj:=(cO "BadWeb" "BadWeb" 209 210 211 4 0 0 0 0 (.ref 31) false 181 (.ref 32) .none .none .none .none 212 4 213)
def x19:Obj:=(.mk (.type "frame") none .plain #[(some (.ref 33)),(some (.ref 3)),(some (.ref 30)),none,(some (.str "pebbletoll.errors" 187)),none,(some (.ref 0))])
def x20(P:Params):Obj:=(.mk (.type "dict") none (.dict #[(en P "__module__" 214 (.str "pebbletoll.errors" 187)),(en P "__firstlineno__" 218 (.int 4 217)),(en P "__static_attributes__" 219 (.ref 35)),(en P "__doc__" 220 .none)] 2) #[])
def x21:Obj:=(.mk (.type "type") none (.cls (.mk "BadWeb" [(.ref 24)] [(.ref 37),(.ref 24),(.type "ValueError"),(.type "Exception"),(.type "BaseException"),(.type "object")] 36 "BadWeb" true [] [] false none false)) #[(some (.ref 28)),none,(some (.str "BadWeb" 207)),(some (.str "BadWeb" 215)),(some (.builtin "ValueError.__new__")),(some (.bool true))])
def x22:Obj:=(.mk (.type "super") none (.fields #[(.ref 37),(.ref 37),(.ref 37)]) #[])
def x23:Obj:=(.mk (.type "builtin_function_or_method") none (.fields #[(.builtin "object.__init_subclass__"),(.ref 37)]) #[])
def x24(P:Params):Obj:=(.mk (.type "dict") none (.dict #[(en P "__module__" 230 (.str "pebbletoll.errors" 187)),(en P "__qualname__" 232 (.str "NoPlace" 231)),(en P "__firstlineno__" 234 (.int 6 233)),(en P "__static_attributes__" 235 (.ref 47))] 4) #[])
def x25:Obj:=(cO "NoPlace" "NoPlace" 225 226 227 6 0 0 0 0 (.ref 43) false 181 (.ref 44) .none .none .none .none 228 6 229)
def x26:Obj:=(.mk (.type "frame") none .plain #[(some (.ref 45)),(some (.ref 3)),(some (.ref 42)),none,(some (.str "pebbletoll.errors" 187)),none,(some (.ref 0))])
def x27(P:Params):Obj:=(.mk (.type "dict") none (.dict #[(en P "__module__" 230 (.str "pebbletoll.errors" 187)),(en P "__firstlineno__" 234 (.int 6 233)),(en P "__static_attributes__" 235 (.ref 47)),(en P "__doc__" 236 .none)] 2) #[])
def x28:Obj:=(.mk (.type "type") none (.cls (.mk "NoPlace" [(.ref 24)] [(.ref 49),(.ref 24),(.type "ValueError"),(.type "Exception"),(.type "BaseException"),(.type "object")] 48 "NoPlace" true [] [] false none false)) #[(some (.ref 40)),none,(some (.str "NoPlace" 223)),(some (.str "NoPlace" 231)),(some (.builtin "ValueError.__new__")),(some (.bool true))])
def x29:Obj:=(.mk (.type "super") none (.fields #[(.ref 49),(.ref 49),(.ref 49)]) #[])
def x30:Obj:=(.mk (.type "builtin_function_or_method") none (.fields #[(.builtin "object.__init_subclass__"),(.ref 49)]) #[])
def x31(P:Params):Obj:=(.mk (.type "dict") none (.dict #[(en P "__module__" 246 (.str "pebbletoll.errors" 187)),(en P "__qualname__" 248 (.str "NoRoad" 247)),(en P "__firstlineno__" 250 (.int 8 249)),(en P "__static_attributes__" 251 (.ref 59))] 4) #[])
def x32:Obj:=(cO "NoRoad" "NoRoad" 241 242 243 8 0 0 0 0 (.ref 55) false 181 (.ref 56) .none .none .none .none 244 8 245)
def x33:Obj:=(.mk (.type "frame") none .plain #[(some (.ref 57)),(some (.ref 3)),(some (.ref 54)),none,(some (.str "pebbletoll.errors" 187)),none,(some (.ref 0))])
def x34(P:Params):Obj:=(.mk (.type "dict") none (.dict #[(en P "__module__" 246 (.str "pebbletoll.errors" 187)),(en P "__firstlineno__" 250 (.int 8 249)),(en P "__static_attributes__" 251 (.ref 59)),(en P "__doc__" 252 .none)] 2) #[])
def x35:Obj:=(.mk (.type "type") none (.cls (.mk "NoRoad" [(.ref 24)] [(.ref 61),(.ref 24),(.type "ValueError"),(.type "Exception"),(.type "BaseException"),(.type "object")] 60 "NoRoad" true [] [] false none false)) #[(some (.ref 52)),none,(some (.str "NoRoad" 239)),(some (.str "NoRoad" 247)),(some (.builtin "ValueError.__new__")),(some (.bool true))])
def x36:Obj:=(.mk (.type "super") none (.fields #[(.ref 61),(.ref 61),(.ref 61)]) #[])
def x37:Obj:=(.mk (.type "builtin_function_or_method") none (.fields #[(.builtin "object.__init_subclass__"),(.ref 61)]) #[])
def x38(P:Params):Obj:=(.mk (.type "dict") none (.dict #[(en P "__module__" 262 (.str "pebbletoll.errors" 187)),(en P "__qualname__" 264 (.str "BadLaying" 263)),(en P "__firstlineno__" 266 (.int 10 265)),(en P "__static_attributes__" 267 (.ref 71))] 4) #[])
def x39:Obj:=(cO "BadLaying" "BadLaying" 257 258 259 10 0 0 0 0 (.ref 67) false 181 (.ref 68) .none .none .none .none 260 10 261)
def x40:Obj:=(.mk (.type "frame") none .plain #[(some (.ref 69)),(some (.ref 3)),(some (.ref 66)),none,(some (.str "pebbletoll.errors" 187)),none,(some (.ref 0))])
def x41(P:Params):Obj:=(.mk (.type "dict") none (.dict #[(en P "__module__" 262 (.str "pebbletoll.errors" 187)),(en P "__firstlineno__" 266 (.int 10 265)),(en P "__static_attributes__" 267 (.ref 71)),(en P "__doc__" 268 .none)] 2) #[])
def x42:Obj:=(.mk (.type "type") none (.cls (.mk "BadLaying" [(.ref 24)] [(.ref 73),(.ref 24),(.type "ValueError"),(.type "Exception"),(.type "BaseException"),(.type "object")] 72 "BadLaying" true [] [] false none false)) #[(some (.ref 64)),none,(some (.str "BadLaying" 255)),(some (.str "BadLaying" 263)),(some (.builtin "ValueError.__new__")),(some (.bool true))])
def x43:Obj:=(.mk (.type "super") none (.fields #[(.ref 73),(.ref 73),(.ref 73)]) #[])
def x44:Obj:=(.mk (.type "builtin_function_or_method") none (.fields #[(.builtin "object.__init_subclass__"),(.ref 73)]) #[])
def x45(P:Params):Obj:=(.mk (.type "dict") none (.dict #[(en P "__module__" 278 (.str "pebbletoll.errors" 187)),(en P "__qualname__" 280 (.str "BadWish" 279)),(en P "__firstlineno__" 282 (.int 12 281)),(en P "__static_attributes__" 283 (.ref 83))] 4) #[])
def x46:Obj:=(cO "BadWish" "BadWish" 273 274 275 12 0 0 0 0 (.ref 79) false 181 (.ref 80) .none .none .none .none 276 12 277)
def x47:Obj:=(.mk (.type "frame") none .plain #[(some (.ref 81)),(some (.ref 3)),(some (.ref 78)),none,(some (.str "pebbletoll.errors" 187)),none,(some (.ref 0))])
def x48(P:Params):Obj:=(.mk (.type "dict") none (.dict #[(en P "__module__" 278 (.str "pebbletoll.errors" 187)),(en P "__firstlineno__" 282 (.int 12 281)),(en P "__static_attributes__" 283 (.ref 83)),(en P "__doc__" 284 .none)] 2) #[])
def x49:Obj:=(.mk (.type "type") none (.cls (.mk "BadWish" [(.ref 24)] [(.ref 85),(.ref 24),(.type "ValueError"),(.type "Exception"),(.type "BaseException"),(.type "object")] 84 "BadWish" true [] [] false none false)) #[(some (.ref 76)),none,(some (.str "BadWish" 271)),(some (.str "BadWish" 279)),(some (.builtin "ValueError.__new__")),(some (.bool true))])
def x50:Obj:=(.mk (.type "super") none (.fields #[(.ref 85),(.ref 85),(.ref 85)]) #[])
def x51:Obj:=(.mk (.type "builtin_function_or_method") none (.fields #[(.builtin "object.__init_subclass__"),(.ref 85)]) #[])
def x52(P:Params):Obj:=(.mk (.type "dict") none (.dict #[(en P "__module__" 294 (.str "pebbletoll.errors" 187)),(en P "__qualname__" 296 (.str "TooMany" 295)),(en P "__firstlineno__" 298 (.int 14 297)),(en P "__static_attributes__" 299 (.ref 95))] 4) #[])
def x53:Obj:=(cO "TooMany" "TooMany" 289 290 291 14 0 0 0 0 (.ref 91) false 181 (.ref 92) .none .none .none .none 292 14 293)
def x54:Obj:=(.mk (.type "frame") none .plain #[(some (.ref 93)),(some (.ref 3)),(some (.ref 90)),none,(some (.str "pebbletoll.errors" 187)),none,(some (.ref 0))])
def x55(P:Params):Obj:=(.mk (.type "dict") none (.dict #[(en P "__module__" 294 (.str "pebbletoll.errors" 187)),(en P "__firstlineno__" 298 (.int 14 297)),(en P "__static_attributes__" 299 (.ref 95)),(en P "__doc__" 300 .none)] 2) #[])
def x56:Obj:=(.mk (.type "type") none (.cls (.mk "TooMany" [(.ref 24)] [(.ref 97),(.ref 24),(.type "ValueError"),(.type "Exception"),(.type "BaseException"),(.type "object")] 96 "TooMany" true [] [] false none false)) #[(some (.ref 88)),none,(some (.str "TooMany" 287)),(some (.str "TooMany" 295)),(some (.builtin "ValueError.__new__")),(some (.bool true))])
def x57:Obj:=(.mk (.type "super") none (.fields #[(.ref 97),(.ref 97),(.ref 97)]) #[])
def x58:Obj:=(.mk (.type "builtin_function_or_method") none (.fields #[(.builtin "object.__init_subclass__"),(.ref 97)]) #[])
def x59(P:Params):Obj:=(.mk (.type "dict") none (.dict #[(en P "__module__" 310 (.str "pebbletoll.errors" 187)),(en P "__qualname__" 312 (.str "NoNumber" 311)),(en P "__firstlineno__" 314 (.int 16 313)),(en P "__static_attributes__" 315 (.ref 107))] 4) #[])
def x60:Obj:=(cO "NoNumber" "NoNumber" 305 306 307 16 0 0 0 0 (.ref 103) false 181 (.ref 104) .none .none .none .none 308 16 309)
def x61:Obj:=(.mk (.type "frame") none .plain #[(some (.ref 105)),(some (.ref 3)),(some (.ref 102)),none,(some (.str "pebbletoll.errors" 187)),none,(some (.ref 0))])
def x62(P:Params):Obj:=(.mk (.type "dict") none (.dict #[(en P "__module__" 310 (.str "pebbletoll.errors" 187)),(en P "__firstlineno__" 314 (.int 16 313)),(en P "__static_attributes__" 315 (.ref 107)),(en P "__doc__" 316 .none)] 2) #[])
def x63:Obj:=(.mk (.type "type") none (.cls (.mk "NoNumber" [(.ref 24)] [(.ref 109),(.ref 24),(.type "ValueError"),(.type "Exception"),(.type "BaseException"),(.type "object")] 108 "NoNumber" true [] [] false none false)) #[(some (.ref 100)),none,(some (.str "NoNumber" 303)),(some (.str "NoNumber" 311)),(some (.builtin "ValueError.__new__")),(some (.bool true))])
def x64:Obj:=(.mk (.type "super") none (.fields #[(.ref 109),(.ref 109),(.ref 109)]) #[])
def x65:Obj:=(.mk (.type "builtin_function_or_method") none (.fields #[(.builtin "object.__init_subclass__"),(.ref 109)]) #[])
def x66(P:Params):Obj:=(.mk (.type "dict") none (.dict #[(en P "__module__" 334 (.str "pebbletoll.webs" 319)),(en P "__qualname__" 336 (.str "Web" 335)),(en P "__firstlineno__" 338 (.int 22 337)),(en P "__init__" 344 (.ref 123)),(en P "__static_attributes__" 347 (.ref 124))] 5) #[])
def x67:Obj:=(.mk .none none (.fields #[(.int 24 0),(.int 4 0),(.ref 122)]) #[])
def x68:Obj:=(cO "Web" "Web" 329 330 331 22 0 0 0 0 (.ref 115) false 181 (.ref 116) .none .none .none .none 332 22 333)
def x69:Obj:=(.mk (.type "frame") none .plain #[(some (.ref 117)),(some (.ref 3)),(some (.ref 114)),none,(some (.str "pebbletoll.webs" 319)),none,(some (.ref 0))])
def x70:Obj:=(fR "__init__" "Web.__init__" (inC (top 13) 0))
def x71:Obj:=(cO "__init__" "Web.__init__" 339 340 341 24 3 0 0 3 (.ref 119) true 181 (.ref 120) .none .none .none (.ref 121) 342 24 343)
def x72:Obj:=(fO "__init__" "Web.__init__" (inC (top 13) 0) (.str "pebbletoll.webs" 319) (.ref 122))
def x73:Obj:=(tS 345 ["many","roads"])
def x74(P:Params):Obj:=(.mk (.type "dict") none (.dict #[(en P "__module__" 334 (.str "pebbletoll.webs" 319)),(en P "__firstlineno__" 338 (.int 22 337)),(en P "__init__" 344 (.ref 123)),(en P "__static_attributes__" 347 (.ref 124)),(en P "__dict__" 349 (.ref 127)),(en P "__weakref__" 351 (.ref 128)),(en P "__doc__" 352 .none)] 4) #[])
def x75:Obj:=(.mk (.type "type") none (.cls (.mk "Web" [(.type "object")] [(.ref 126),(.type "object")] 125 "Web" true [] [] false none false)) #[none,none,(some (.str "Web" 327)),(some (.str "Web" 335)),(some (.builtin "object.__new__")),(some (.bool true))])
def x76:Obj:=(.mk (.type "getset_descriptor") none (.fields #[(.str "__dict__" 348),(.ref 126),(.builtin "function.__dict__"),(.builtin "function.__dict__#set")]) #[])
def x77:Obj:=(.mk (.type "getset_descriptor") none (.fields #[(.str "__weakref__" 350),(.ref 126),(.builtin "ExceptionGroup.__weakref__"),.none]) #[])
def x78:Obj:=(.mk (.type "super") none (.fields #[(.ref 126),(.ref 126),(.ref 126)]) #[])
def x79:Obj:=(.mk (.type "builtin_function_or_method") none (.fields #[(.builtin "object.__init_subclass__"),(.ref 126)]) #[])
def x80:Obj:=(tS 358 ["web","a","b","one","other","there","back"])
def x81:Obj:=(fr "toll" (top 14))
def x82:Obj:=(cF "toll" 355 33 3 3 131 365)
def x83:Obj:=(fo "toll" (top 14) (.str "pebbletoll.webs" 319) (.ref 136))
noncomputable def h0(P:Params):Heap:=.mk (.mk (boot_o_0 P::boot_o_1 P::boot_o_2 P::x4 P::boot_o_4 P::boot_o_5 P::boot_o_6 P::boot_o_7 P::boot_o_8 P::boot_o_9 P::boot_o_10 P::x0::x5::x2::x3::x6::x7::x8 P::x0::x1::x9::x10::x0::x11 P::x12::x13::x14::x15::Xy::x7::x17 P::x0::x1::x18::x19::x0::x20 P::x21::x22::x23::Xy::x7::x24 P::x0::x1::x25::x26::x0::x27 P::x28::x29::x30::Xy::x7::x31 P::x0::x1::x32::x33::x0::x34 P::x35::x36::x37::Xy::x7::x38 P::x0::x1::x39::x40::x0::x41 P::x42::x43::x44::Xy::x7::x45 P::x0::x1::x46::x47::x0::x48 P::x49::x50::x51::Xy::x7::x52 P::x0::x1::x53::x54::x0::x55 P::x56::x57::x58::Xy::x7::x59 P::x0::x1::x60::x61::x0::x62 P::x63::x64::x65::x0::x7::x66 P::x0::x67::x68::x69::x0::x1::x70::x71::x72::x73::x74 P::x75::x76::x77::x78::x79::x0::x1::x80::x0::x81::x82::x83::[])) (.mk [] [] [] 0 [] [] false #[] [] 0 false false false 0 [2000,10,10] false 0 true [] [] 0 false)
theorem WU(w:World)(os:OsState):segRun treeTable PySem.Challenge.pw_pebbletoll_k46_whole_numbers_there_and_b w 11 (some (.ref 6)) 1 1977 (Shared.mk (hb w.params) (.mk []) (.mk 0 0 0 0) 187 os) (piecesOf st0 env cE (.mk 0 0 0 0) [topFrame (.mk 0 0 0 0)])=some (.next,(Shared.mk (h0 w.params) (.mk []) (.mk 0 0 0 0) 368 os),cE,(.mk 33 0 41 50)):=by kernel_rfl
def x84(P:Params):Obj:=(.mk (.type "dict") none (.dict #[(en P "__name__" 165 (.str "law_pebbletoll_k46_whole_numbers_there_and_b" 872)),(en P "__doc__" 166 .none),(en P "__package__" 167 .none),(en P "__loader__" 168 (.builtin "__main__.__loader__#opaque")),(en P "__spec__" 169 .none),(en P "__annotations__" 170 (.ref 6)),(en P "__builtins__" 171 (.ref 4)),(en P "__file__" 173 (.str "/claim/cut.py" 172)),(en P "__cached__" 174 .none),(en P "TollError" 206 (.ref 24)),(en P "BadWeb" 222 (.ref 37)),(en P "NoPlace" 238 (.ref 49)),(en P "NoRoad" 254 (.ref 61)),(en P "BadLaying" 270 (.ref 73)),(en P "BadWish" 286 (.ref 85)),(en P "TooMany" 302 (.ref 97)),(en P "NoNumber" 318 (.ref 109)),(en P "MOST_PLACES" 322 (.int 24 321)),(en P "LEAST_TOLL" 324 (.int 2 323)),(en P "MOST_TOLL" 326 (.int 1000000 325)),(en P "Web" 354 (.ref 126)),(en P "toll" 367 (.ref 137)),(en P "neighbours" 375 (.ref 144)),(en P "check_place" 383 (.ref 151)),(en P "is_place" 391 (.ref 158)),(en P "check_counts" 399 (.ref 165)),(en P "check_ends" 407 (.ref 172)),(en P "check_tolls" 415 (.ref 179)),(en P "check_joined" 427 (.ref 186)),(en P "other_ends" 437 (.ref 193)),(en P "laying_of" 447 (.ref 200)),(en P "is_filled" 453 (.ref 205)),(en P "total" 460 (.ref 212)),(en P "ahead" 475 (.ref 219)),(en P "down" 488 (.ref 226)),(en P "kids" 494 (.ref 231)),(en P "inward" 500 (.ref 236)),(en P "gathered" 514 (.ref 243)),(en P "most" 523 (.ref 250)),(en P "borne" 535 (.ref 257)),(en P "bound_by" 548 (.ref 264)),(en P "check_wanted" 557 (.ref 271)),(en P "least_weights" 568 (.ref 278)),(en P "enough" 577 (.ref 285)),(en P "bearers" 589 (.ref 292)),(en P "is_heavy" 599 (.ref 299)),(en P "differences" 607 (.ref 304)),(en P "value_at" 619 (.ref 311)),(en P "first_values" 625 (.ref 316)),(en P "parted" 631 (.ref 321)),(en P "parted_at" 637 (.ref 326)),(en P "MOST_PEBBLES" 641 (.int 1000000000000 640)),(en P "is_worst" 653 (.ref 333)),(en P "worst_many" 662 (.ref 340)),(en P "worst_at" 673 (.ref 347)),(en P "worst_number" 683 (.ref 354)),(en P "check_told" 692 (.ref 361)),(en P "Tally" 724 (.ref 376)),(en P "rests_of" 730 (.ref 385)),(en P "is_free" 739 (.ref 392)),(en P "ways_of" 748 (.ref 399)),(en P "ways_given" 758 (.ref 406)),(en P "held_for" 768 (.ref 413)),(en P "laying_at" 781 (.ref 420)),(en P "handed_down" 797 (.ref 427)),(en P "given_by" 809 (.ref 434)),(en P "last_within" 821 (.ref 441)),(en P "ways_before" 832 (.ref 448)),(en P "course" 846 (.ref 455)),(en P "number_of" 856 (.ref 462)),(en P "number_beneath" 871 (.ref 469)),(en P "_law_cell" 881 (.ref 476)),(en P "_law_mixed" 890 (.ref 483)),(en P "_law_numbers" 901 (.ref 490)),(en P "_law_toll" 908 (.ref 497)),(en P "_law_web" 925 (.ref 504)),(en P "_law_to_twelve" 933 (.ref 511)),(en P "_law_tolls" 945 (.ref 518))] 78) #[])
def x85:Obj:=(.mk .none none (.fields (tF [(2,20),(4,33),(6,45),(8,57),(10,69),(12,81),(14,93),(16,105),(22,117),(33,136),(42,143),(45,150),(48,157),(50,164),(55,171),(60,178),(64,185),(75,192),(84,199),(88,204),(90,211),(93,218),(104,225),(114,230),(116,235),(120,242),(125,249),(128,256),(130,263),(136,270),(140,277),(145,284),(147,291),(154,298),(157,303),(164,310),(171,315),(173,320),(175,325),(179,332),(183,339),(186,346),(192,353),(197,360),(200,367),(211,384),(223,391),(225,398),(227,405),(229,412),(231,419),(240,426),(251,433),(258,440),(268,447),(272,454),(279,461),(284,468),(294,475),(298,482),(303,489),(313,496),(317,503),(340,510),(343,517)]).toArray) #[])
def x86:Obj:=(tS 371 ["web","a"])
def x87:Obj:=(fr "neighbours" (top 15))
def x88:Obj:=(cF "neighbours" 368 42 2 3 138 373)
def x89:Obj:=(fo "neighbours" (top 15) (.str "pebbletoll.webs" 319) (.ref 143))
def x90:Obj:=(tS 379 ["web","number"])
def x91:Obj:=(fr "check_place" (top 16))
def x92:Obj:=(cF "check_place" 376 45 2 3 145 381)
def x93:Obj:=(fo "check_place" (top 16) (.str "pebbletoll.webs" 319) (.ref 150))
def x94:Obj:=(tS 387 ["many","number"])
def x95:Obj:=(fr "is_place" (top 17))
def x96:Obj:=(cF "is_place" 384 48 2 3 152 389)
def x97:Obj:=(fo "is_place" (top 17) (.str "pebbletoll.webs" 319) (.ref 157))
def x98:Obj:=(tS 395 ["many","roads"])
def x99:Obj:=(fr "check_counts" (top 18))
def QZ:Obj:=(cF "check_counts" 392 50 2 3 159 397)
def Oh:Obj:=(fo "check_counts" (top 18) (.str "pebbletoll.webs" 319) (.ref 164))
def Ul:Obj:=(tS 403 ["many","road"])
def UL:Obj:=(fr "check_ends" (top 19))
def OH:Obj:=(cF "check_ends" 400 55 2 3 166 405)
def Rn:Obj:=(fo "check_ends" (top 19) (.str "pebbletoll.webs" 319) (.ref 171))
def TQ:Obj:=(tS 411 ["road","number"])
def Tv:Obj:=(fr "check_tolls" (top 20))
def Pe:Obj:=(cF "check_tolls" 408 60 1 3 173 413)
def NV:Obj:=(fo "check_tolls" (top 20) (.str "pebbletoll.webs" 319) (.ref 178))
def V0:Obj:=(tS 419 ["many","roads","reached","waiting","place","end"])
def Vg:Obj:=(fr "check_joined" (top 21))
def Pw:Obj:=(cF "check_joined" 416 64 2 3 180 425)
def OU:Obj:=(fo "check_joined" (top 21) (.str "pebbletoll.webs" 319) (.ref 185))
def VN:Obj:=(tS 431 ["roads","place","ends","road"])
def U7:Obj:=(fr "other_ends" (top 22))
def Qn:Obj:=(cF "other_ends" 428 75 2 3 187 435)
def QB:Obj:=(fo "other_ends" (top 22) (.str "pebbletoll.webs" 319) (.ref 192))
def UX:Obj:=(tS 443 ["web","numbers"])
def VT:Obj:=(fr "laying_of" (top 24))
def PU:Obj:=(cF "laying_of" 440 84 2 3 194 445)
def Rg:Obj:=(fo "laying_of" (top 24) (.str "pebbletoll.layings" 438) (.ref 199))
def Tl:Obj:=(fr "is_filled" (top 25))
def QY:Obj:=(cO "is_filled" "is_filled" 448 449 450 88 2 0 0 3 (.ref 201) true 181 (.ref 202) .none .none .none (.ref 203) 451 88 452)
def Pn:Obj:=(fo "is_filled" (top 25) (.str "pebbletoll.layings" 438) (.ref 204))
def VS:Obj:=(tO #[(.str "numbers" 457)])
def US:Obj:=(fr "total" (top 26))
def QH:Obj:=(cF "total" 454 90 1 3 206 458)
def NC:Obj:=(fo "total" (top 26) (.str "pebbletoll.layings" 438) (.ref 211))
def VZ:Obj:=(tS 466 ["web","r","nearer","waiting","place","front","kid"])
def Uq:Obj:=(fr "ahead" (top 28))
def Qq:Obj:=(cF "ahead" 463 93 2 3 213 473)
def Q6:Obj:=(fo "ahead" (top 28) (.str "pebbletoll.ways" 461) (.ref 218))
def UM:Obj:=(tS 479 ["web","r","nearer","places","waiting","place","kid"])
def VR:Obj:=(fr "down" (top 29))
def P5:Obj:=(cF "down" 476 104 2 3 220 486)
def Q4:Obj:=(fo "down" (top 29) (.str "pebbletoll.ways" 461) (.ref 225))
def UF:Obj:=(fr "kids" (top 30))
def Pq:Obj:=(cO "kids" "kids" 489 490 491 114 3 0 0 3 (.ref 227) true 181 (.ref 228) .none .none .none (.ref 229) 492 114 493)
def O0:Obj:=(fo "kids" (top 30) (.str "pebbletoll.ways" 461) (.ref 230))
def VH:Obj:=(fr "inward" (top 31))
def On:Obj:=(cO "inward" "inward" 495 496 497 116 2 0 0 3 (.ref 232) true 181 (.ref 233) .none .none .none (.ref 234) 498 116 499)
def NT:Obj:=(fo "inward" (top 31) (.str "pebbletoll.ways" 461) (.ref 235))
def Th:Obj:=(tS 506 ["web","laying","r","counts","place","front"])
def Vd:Obj:=(fr "gathered" (top 33))
def NF:Obj:=(cF "gathered" 503 120 3 3 237 512)
def NU:Obj:=(fo "gathered" (top 33) (.str "pebbletoll.bringing" 501) (.ref 242))
def S9:Obj:=(tS 518 ["web","laying","r"])
def U8:Obj:=(fr "most" (top 34))
def Pr:Obj:=(cF "most" 515 125 3 3 244 521)
def Q1:Obj:=(fo "most" (top 34) (.str "pebbletoll.bringing" 501) (.ref 249))
def SM:Obj:=(tS 529 ["web","weights","place","front"])
def Ti:Obj:=(fr "borne" (top 36))
def Nz:Obj:=(cF "borne" 526 128 4 3 251 533)
def Om:Obj:=(fo "borne" (top 36) (.str "pebbletoll.enough" 524) (.ref 256))
def TF:Obj:=(tS 539 ["web","r","wanted","weights","bound","place","front"])
def U0:Obj:=(fr "bound_by" (top 37))
def P7:Obj:=(cF "bound_by" 536 130 4 3 258 546)
def NA:Obj:=(fo "bound_by" (top 37) (.str "pebbletoll.enough" 524) (.ref 263))
def TV:Obj:=(tS 552 ["web","r","wanted"])
def S4:Obj:=(fr "check_wanted" (top 38))
def Rj:Obj:=(cF "check_wanted" 549 136 3 3 265 555)
def Rq:Obj:=(fo "check_wanted" (top 38) (.str "pebbletoll.enough" 524) (.ref 270))
def Uu:Obj:=(tS 561 ["web","r","weights","place","front"])
def Ur:Obj:=(fr "least_weights" (top 39))
def Ph:Obj:=(cF "least_weights" 558 140 2 3 272 566)
def Qp:Obj:=(fo "least_weights" (top 39) (.str "pebbletoll.enough" 524) (.ref 277))
def Tu:Obj:=(tS 572 ["web","r","wanted"])
def Vc:Obj:=(fr "enough" (top 40))
def Qb:Obj:=(cF "enough" 569 145 3 3 279 575)
def Q7:Obj:=(fo "enough" (top 40) (.str "pebbletoll.enough" 524) (.ref 284))
def Ui:Obj:=(tS 581 ["web","r","weights","chosen","place","front"])
def Ve:Obj:=(fr "bearers" (top 41))
def Ra:Obj:=(cF "bearers" 578 147 2 3 286 587)
def QC:Obj:=(fo "bearers" (top 41) (.str "pebbletoll.enough" 524) (.ref 291))
def T3:Obj:=(tS 593 ["web","weights","place","front"])
def UU:Obj:=(fr "is_heavy" (top 42))
def OV:Obj:=(cF "is_heavy" 590 154 4 3 293 597)
def OT:Obj:=(fo "is_heavy" (top 42) (.str "pebbletoll.enough" 524) (.ref 298))
def SW:Obj:=(fr "differences" (top 44))
def Qa:Obj:=(cO "differences" "differences" 602 603 604 157 1 0 0 3 (.ref 300) true 181 (.ref 301) .none .none .none (.ref 302) 605 157 606)
def Qd:Obj:=(fo "differences" (top 44) (.str "pebbletoll.polynomials" 600) (.ref 303))
def U1:Obj:=(tS 611 ["found","at","value","choices","k","difference"])
def VC:Obj:=(fr "value_at" (top 45))
def QX:Obj:=(cF "value_at" 608 164 2 3 305 617)
def QD:Obj:=(fo "value_at" (top 45) (.str "pebbletoll.polynomials" 600) (.ref 310))
def SX:Obj:=(fr "first_values" (top 46))
def Qi:Obj:=(cO "first_values" "first_values" 620 621 622 171 2 0 0 3 (.ref 312) true 181 (.ref 313) .none .none .none (.ref 314) 623 171 624)
def Pj:Obj:=(fo "first_values" (top 46) (.str "pebbletoll.polynomials" 600) (.ref 315))
def VA:Obj:=(fr "parted" (top 47))
def P1:Obj:=(cO "parted" "parted" 626 627 628 173 2 0 0 3 (.ref 317) true 181 (.ref 318) .none .none .none (.ref 319) 629 173 630)
def Qo:Obj:=(fo "parted" (top 47) (.str "pebbletoll.polynomials" 600) (.ref 320))
def Vp:Obj:=(fr "parted_at" (top 48))
def Qx:Obj:=(cO "parted_at" "parted_at" 632 633 634 175 3 0 0 3 (.ref 322) true 181 (.ref 323) .none .none .none (.ref 324) 635 175 636)
def QP:Obj:=(fo "parted_at" (top 48) (.str "pebbletoll.polynomials" 600) (.ref 325))
def VQ:Obj:=(tS 645 ["web","r","wanted","laying","least","counts"])
def Uv:Obj:=(fr "is_worst" (top 51))
def PM:Obj:=(cF "is_worst" 642 179 4 3 327 651)
def Py:Obj:=(fo "is_worst" (top 51) (.str "pebbletoll.worsts" 638) (.ref 332))
def TX:Obj:=(tS 657 ["web","r","wanted"])
def TZ:Obj:=(fr "worst_many" (top 52))
def Px:Obj:=(cF "worst_many" 654 183 3 3 334 660)
def O3:Obj:=(fo "worst_many" (top 52) (.str "pebbletoll.worsts" 638) (.ref 339))
def VE:Obj:=(tS 666 ["web","r","wanted","number","tally"])
def VM:Obj:=(fr "worst_at" (top 53))
def ND:Obj:=(cF "worst_at" 663 186 4 3 341 671)
def Ro:Obj:=(fo "worst_at" (top 53) (.str "pebbletoll.worsts" 638) (.ref 346))
def Um:Obj:=(tS 677 ["web","r","wanted","laying"])
def U6:Obj:=(fr "worst_number" (top 54))
def Of:Obj:=(cF "worst_number" 674 192 4 3 348 681)
def OZ:Obj:=(fo "worst_number" (top 54) (.str "pebbletoll.worsts" 638) (.ref 353))
def V6:Obj:=(tS 687 ["web","r","wanted"])
def UD:Obj:=(fr "check_told" (top 55))
def Ri:Obj:=(cF "check_told" 684 197 3 3 355 690)
def OG:Obj:=(fo "check_told" (top 55) (.str "pebbletoll.worsts" 638) (.ref 360))
def T8(P:Params):Obj:=(.mk (.type "dict") none (.dict #[(en P "__module__" 700 (.str "pebbletoll.worsts" 638)),(en P "__qualname__" 702 (.str "Tally" 701)),(en P "__firstlineno__" 704 (.int 200 703)),(en P "__init__" 710 (.ref 373)),(en P "__static_attributes__" 717 (.ref 374))] 5) #[])
def V4:Obj:=(.mk .none none (.fields #[(.int 202 0),(.int 4 0),(.ref 372)]) #[])
def Vy:Obj:=(cO "Tally" "Tally" 695 696 697 200 0 0 0 0 (.ref 365) false 181 (.ref 366) .none .none .none .none 698 200 699)
def Vi:Obj:=(.mk (.type "frame") none .plain #[(some (.ref 367)),(some (.ref 3)),(some (.ref 364)),none,(some (.str "pebbletoll.worsts" 638)),none,(some (.ref 0))])
def Vu:Obj:=(fR "__init__" "Tally.__init__" (inC (top 56) 0))
def PK:Obj:=(cO "__init__" "Tally.__init__" 705 706 707 202 3 0 0 3 (.ref 369) true 181 (.ref 370) .none .none .none (.ref 371) 708 202 709)
def O1:Obj:=(fO "__init__" "Tally.__init__" (inC (top 56) 0) (.str "pebbletoll.worsts" 638) (.ref 372))
def TN:Obj:=(tS 711 ["bearers","down","kids","rests","web","weights"])
def O2(P:Params):Obj:=(.mk (.type "dict") none (.dict #[(en P "__module__" 700 (.str "pebbletoll.worsts" 638)),(en P "__firstlineno__" 704 (.int 200 703)),(en P "__init__" 710 (.ref 373)),(en P "__static_attributes__" 717 (.ref 374)),(en P "__dict__" 719 (.ref 377)),(en P "__weakref__" 721 (.ref 378)),(en P "__doc__" 722 .none)] 4) #[])
def Pz:Obj:=(.mk (.type "type") none (.cls (.mk "Tally" [(.type "object")] [(.ref 376),(.type "object")] 375 "Tally" true [] [] false none false)) #[none,none,(some (.str "Tally" 693)),(some (.str "Tally" 701)),(some (.builtin "object.__new__")),(some (.bool true))])
def Ol:Obj:=(.mk (.type "getset_descriptor") none (.fields #[(.str "__dict__" 718),(.ref 376),(.builtin "function.__dict__"),(.builtin "function.__dict__#set")]) #[])
def Q9:Obj:=(.mk (.type "getset_descriptor") none (.fields #[(.str "__weakref__" 720),(.ref 376),(.builtin "ExceptionGroup.__weakref__"),.none]) #[])
def TR:Obj:=(.mk (.type "super") none (.fields #[(.ref 376),(.ref 376),(.ref 376)]) #[])
def TU:Obj:=(.mk (.type "builtin_function_or_method") none (.fields #[(.builtin "object.__init_subclass__"),(.ref 376)]) #[])
def Vf:Obj:=(fr "rests_of" (top 57))
def NP:Obj:=(cO "rests_of" "rests_of" 725 726 727 211 2 0 0 3 (.ref 381) true 181 (.ref 382) .none .none .none (.ref 383) 728 211 729)
def QG:Obj:=(fo "rests_of" (top 57) (.str "pebbletoll.worsts" 638) (.ref 384))
def Uc:Obj:=(tS 734 ["tally","place","kid"])
def Tt:Obj:=(fr "is_free" (top 58))
def PH:Obj:=(cF "is_free" 731 223 3 3 386 737)
def P4:Obj:=(fo "is_free" (top 58) (.str "pebbletoll.worsts" 638) (.ref 391))
def Ue:Obj:=(tS 743 ["tally","place","held"])
def Vm:Obj:=(fr "ways_of" (top 59))
def Q5:Obj:=(cF "ways_of" 740 225 3 3 393 746)
def QF:Obj:=(fo "ways_of" (top 59) (.str "pebbletoll.worsts" 638) (.ref 398))
def UW:Obj:=(tS 752 ["tally","place","kid","given"])
def Uw:Obj:=(fr "ways_given" (top 60))
def Rm:Obj:=(cF "ways_given" 749 227 4 3 400 756)
def Qc:Obj:=(fo "ways_given" (top 60) (.str "pebbletoll.worsts" 638) (.ref 405))
def Ub:Obj:=(tS 762 ["tally","place","kid","given"])
def Uj:Obj:=(fr "held_for" (top 61))
def OA:Obj:=(cF "held_for" 759 229 4 3 407 766)
def OC:Obj:=(fo "held_for" (top 61) (.str "pebbletoll.worsts" 638) (.ref 412))
def Tz:Obj:=(tS 772 ["tally","held","number","counts","waiting","place","own"])
def SO:Obj:=(fr "laying_at" (top 62))
def Ow:Obj:=(cF "laying_at" 769 231 3 3 414 779)
def PZ:Obj:=(fo "laying_at" (top 62) (.str "pebbletoll.worsts" 638) (.ref 419))
def U9:Obj:=(tS 785 ["tally","place","held","number","found","left","at","kid","given","ways_behind"])
def Vn:Obj:=(fr "handed_down" (top 63))
def O4:Obj:=(cF "handed_down" 782 240 4 3 421 795)
def Qy:Obj:=(fo "handed_down" (top 63) (.str "pebbletoll.worsts" 638) (.ref 426))
def TW:Obj:=(tS 801 ["tally","place","at","left","number","kid"])
def TD:Obj:=(fr "given_by" (top 64))
def PD:Obj:=(cF "given_by" 798 251 5 3 428 807)
def Qt:Obj:=(fo "given_by" (top 64) (.str "pebbletoll.worsts" 638) (.ref 433))
def VW:Obj:=(tS 813 ["before","top","number","low","high","middle"])
def V3:Obj:=(fr "last_within" (top 65))
def Og:Obj:=(cF "last_within" 810 258 3 3 435 819)
def O9:Obj:=(fo "last_within" (top 65) (.str "pebbletoll.worsts" 638) (.ref 440))
def V2:Obj:=(tS 825 ["tally","place","at","left","given"])
def T6:Obj:=(fr "ways_before" (top 66))
def NJ:Obj:=(cF "ways_before" 822 268 5 3 442 830)
def O6:Obj:=(fo "ways_before" (top 66) (.str "pebbletoll.worsts" 638) (.ref 447))
def VU:Obj:=(tS 836 ["tally","place","at","left","kid","before","given","ways_behind"])
def U3:Obj:=(fr "course" (top 67))
def QL:Obj:=(cF "course" 833 272 4 3 449 844)
def Oc:Obj:=(fo "course" (top 67) (.str "pebbletoll.worsts" 638) (.ref 454))
def Up:Obj:=(tS 850 ["tally","held","numbers","place"])
def T5:Obj:=(fr "number_of" (top 68))
def Pi:Obj:=(cF "number_of" 847 279 2 3 456 854)
def OB:Obj:=(fo "number_of" (top 68) (.str "pebbletoll.worsts" 638) (.ref 461))
def SN:Obj:=(tS 860 ["tally","place","held","numbers","number","left","at","kid","given"])
def Vz:Obj:=(fr "number_beneath" (top 69))
def PR:Obj:=(cF "number_beneath" 857 284 4 3 463 869)
def PV:Obj:=(fo "number_beneath" (top 69) (.str "pebbletoll.worsts" 638) (.ref 468))
def TL:Obj:=(tS 877 ["script","k"])
def S8:Obj:=(fr "_law_cell" (top 71))
def P0:Obj:=(cF "_law_cell" 874 294 2 3 470 879)
def O5:Obj:=(fo "_law_cell" (top 71) (.str "law_pebbletoll_k46_whole_numbers_there_and_b" 872) (.ref 475))
def Ts:Obj:=(tS 885 ["cell","k","m"])
def SR:Obj:=(fr "_law_mixed" (top 72))
def QE:Obj:=(cF "_law_mixed" 882 298 2 3 477 888)
def QT:Obj:=(fo "_law_mixed" (top 72) (.str "law_pebbletoll_k46_whole_numbers_there_and_b" 872) (.ref 482))
def Uh:Obj:=(tS 894 ["script","many","rest","numbers","k"])
def V9:Obj:=(fr "_law_numbers" (top 73))
def Pt:Obj:=(cF "_law_numbers" 891 303 2 3 484 899)
def Qh:Obj:=(fo "_law_numbers" (top 73) (.str "law_pebbletoll_k46_whole_numbers_there_and_b" 872) (.ref 489))
def Vx:Obj:=(tO #[(.str "rest" 905)])
def U2:Obj:=(fr "_law_toll" (top 74))
def Pg:Obj:=(cF "_law_toll" 902 313 1 3 491 906)
def Ov:Obj:=(fo "_law_toll" (top 74) (.str "law_pebbletoll_k46_whole_numbers_there_and_b" 872) (.ref 496))
def U5:Obj:=(tS 912 ["numbers","head","many","names","k","roads","rest","near","there","back","road"])
def UR:Obj:=(fr "_law_web" (top 75))
def Pf:Obj:=(cF "_law_web" 909 317 1 3 498 923)
def Rc:Obj:=(fo "_law_web" (top 75) (.str "law_pebbletoll_k46_whole_numbers_there_and_b" 872) (.ref 503))
def UG:Obj:=(tS 929 ["numbers","head"])
def U4:Obj:=(fr "_law_to_twelve" (top 76))
def Po:Obj:=(cF "_law_to_twelve" 926 340 1 3 505 931)
def Pu:Obj:=(fo "_law_to_twelve" (top 76) (.str "law_pebbletoll_k46_whole_numbers_there_and_b" 872) (.ref 510))
def UB:Obj:=(tS 937 ["roads","tolls","one","other","there","back"])
def TC:Obj:=(fr "_law_tolls" (top 77))
def Ox:Obj:=(cF "_law_tolls" 934 343 1 3 512 943)
def QU:Obj:=(fo "_law_tolls" (top 77) (.str "law_pebbletoll_k46_whole_numbers_there_and_b" 872) (.ref 517))
noncomputable def h1(P:Params):Heap:=.mk (.mk (boot_o_0 P::boot_o_1 P::boot_o_2 P::x84 P::boot_o_4 P::boot_o_5 P::boot_o_6 P::boot_o_7 P::boot_o_8 P::boot_o_9 P::boot_o_10 P::x0::x85::x2::x3::x6::x7::x8 P::x0::x1::x9::x10::x0::x11 P::x12::x13::x14::x15::Xy::x7::x17 P::x0::x1::x18::x19::x0::x20 P::x21::x22::x23::Xy::x7::x24 P::x0::x1::x25::x26::x0::x27 P::x28::x29::x30::Xy::x7::x31 P::x0::x1::x32::x33::x0::x34 P::x35::x36::x37::Xy::x7::x38 P::x0::x1::x39::x40::x0::x41 P::x42::x43::x44::Xy::x7::x45 P::x0::x1::x46::x47::x0::x48 P::x49::x50::x51::Xy::x7::x52 P::x0::x1::x53::x54::x0::x55 P::x56::x57::x58::Xy::x7::x59 P::x0::x1::x60::x61::x0::x62 P::x63::x64::x65::x0::x7::x66 P::x0::x67::x68::x69::x0::x1::x70::x71::x72::x73::x74 P::x75::x76::x77::x78::x79::x0::x1::x80::x0::x81::x82::x83::x0::x1::x86::x0::x87::x88::x89::x0::x1::x90::x0::x91::x92::x93::x0::x1::x94::x0::x95::x96::x97::x0::x1::x98::x0::x99::QZ::Oh::x0::x1::Ul::x0::UL::OH::Rn::x0::x1::TQ::x0::Tv::Pe::NV::x0::x1::V0::x0::Vg::Pw::OU::x0::x1::VN::x0::U7::Qn::QB::x0::x1::UX::x0::VT::PU::Rg::x0::x1::Tl::QY::Pn::x0::x1::VS::x0::US::QH::NC::x0::x1::VZ::x0::Uq::Qq::Q6::x0::x1::UM::x0::VR::P5::Q4::x0::x1::UF::Pq::O0::x0::x1::VH::On::NT::x0::x1::Th::x0::Vd::NF::NU::x0::x1::S9::x0::U8::Pr::Q1::x0::x1::SM::x0::Ti::Nz::Om::x0::x1::TF::x0::U0::P7::NA::x0::x1::TV::x0::S4::Rj::Rq::x0::x1::Uu::x0::Ur::Ph::Qp::x0::x1::Tu::x0::Vc::Qb::Q7::x0::x1::Ui::x0::Ve::Ra::QC::x0::x1::T3::x0::UU::OV::OT::x0::x1::SW::Qa::Qd::x0::x1::U1::x0::VC::QX::QD::x0::x1::SX::Qi::Pj::x0::x1::VA::P1::Qo::x0::x1::Vp::Qx::QP::x0::x1::VQ::x0::Uv::PM::Py::x0::x1::TX::x0::TZ::Px::O3::x0::x1::VE::x0::VM::ND::Ro::x0::x1::Um::x0::U6::Of::OZ::x0::x1::V6::x0::UD::Ri::OG::x0::x7::T8 P::x0::V4::Vy::Vi::x0::x1::Vu::PK::O1::TN::O2 P::Pz::Ol::Q9::TR::TU::x0::x1::Vf::NP::QG::x0::x1::Uc::x0::Tt::PH::P4::x0::x1::Ue::x0::Vm::Q5::QF::x0::x1::UW::x0::Uw::Rm::Qc::x0::x1::Ub::x0::Uj::OA::OC::x0::x1::Tz::x0::SO::Ow::PZ::x0::x1::U9::x0::Vn::O4::Qy::x0::x1::TW::x0::TD::PD::Qt::x0::x1::VW::x0::V3::Og::O9::x0::x1::V2::x0::T6::NJ::O6::x0::x1::VU::x0::U3::QL::Oc::x0::x1::Up::x0::T5::Pi::OB::x0::x1::SN::x0::Vz::PR::PV::x0::x1::TL::x0::S8::P0::O5::x0::x1::Ts::x0::SR::QE::QT::x0::x1::Uh::x0::V9::Pt::Qh::x0::x1::Vx::x0::U2::Pg::Ov::x0::x1::U5::x0::UR::Pf::Rc::x0::x1::UG::x0::U4::Po::Pu::x0::x1::UB::x0::TC::Ox::QU::[])) (.mk [] [] [] 0 [] [] false #[] [] 0 false false false 0 [2000,10,10] false 0 true [] [] 0 false)
theorem W0(w:World)(os:OsState):segRun treeTable PySem.Challenge.pw_pebbletoll_k46_whole_numbers_there_and_b w 11 (some (.ref 6)) 1 1998 (Shared.mk (h0 w.params) (.mk []) (.mk 0 0 0 0) 368 os) (piecesOf st1 env cE (.mk 33 0 41 50) [topFrame (.mk 0 0 0 0)])=some (.next,(Shared.mk (h1 w.params) (.mk []) (.mk 0 0 0 0) 946 os),cE,(.mk 343 0 348 16)):=by kernel_rfl
def TY(P:Params):Obj:=(.mk (.type "dict") none (.dict #[(en P "__name__" 165 (.str "law_pebbletoll_k46_whole_numbers_there_and_b" 872)),(en P "__doc__" 166 .none),(en P "__package__" 167 .none),(en P "__loader__" 168 (.builtin "__main__.__loader__#opaque")),(en P "__spec__" 169 .none),(en P "__annotations__" 170 (.ref 6)),(en P "__builtins__" 171 (.ref 4)),(en P "__file__" 173 (.str "/claim/cut.py" 172)),(en P "__cached__" 174 .none),(en P "TollError" 206 (.ref 24)),(en P "BadWeb" 222 (.ref 37)),(en P "NoPlace" 238 (.ref 49)),(en P "NoRoad" 254 (.ref 61)),(en P "BadLaying" 270 (.ref 73)),(en P "BadWish" 286 (.ref 85)),(en P "TooMany" 302 (.ref 97)),(en P "NoNumber" 318 (.ref 109)),(en P "MOST_PLACES" 322 (.int 24 321)),(en P "LEAST_TOLL" 324 (.int 2 323)),(en P "MOST_TOLL" 326 (.int 1000000 325)),(en P "Web" 354 (.ref 126)),(en P "toll" 367 (.ref 137)),(en P "neighbours" 375 (.ref 144)),(en P "check_place" 383 (.ref 151)),(en P "is_place" 391 (.ref 158)),(en P "check_counts" 399 (.ref 165)),(en P "check_ends" 407 (.ref 172)),(en P "check_tolls" 415 (.ref 179)),(en P "check_joined" 427 (.ref 186)),(en P "other_ends" 437 (.ref 193)),(en P "laying_of" 447 (.ref 200)),(en P "is_filled" 453 (.ref 205)),(en P "total" 460 (.ref 212)),(en P "ahead" 475 (.ref 219)),(en P "down" 488 (.ref 226)),(en P "kids" 494 (.ref 231)),(en P "inward" 500 (.ref 236)),(en P "gathered" 514 (.ref 243)),(en P "most" 523 (.ref 250)),(en P "borne" 535 (.ref 257)),(en P "bound_by" 548 (.ref 264)),(en P "check_wanted" 557 (.ref 271)),(en P "least_weights" 568 (.ref 278)),(en P "enough" 577 (.ref 285)),(en P "bearers" 589 (.ref 292)),(en P "is_heavy" 599 (.ref 299)),(en P "differences" 607 (.ref 304)),(en P "value_at" 619 (.ref 311)),(en P "first_values" 625 (.ref 316)),(en P "parted" 631 (.ref 321)),(en P "parted_at" 637 (.ref 326)),(en P "MOST_PEBBLES" 641 (.int 1000000000000 640)),(en P "is_worst" 653 (.ref 333)),(en P "worst_many" 662 (.ref 340)),(en P "worst_at" 673 (.ref 347)),(en P "worst_number" 683 (.ref 354)),(en P "check_told" 692 (.ref 361)),(en P "Tally" 724 (.ref 376)),(en P "rests_of" 730 (.ref 385)),(en P "is_free" 739 (.ref 392)),(en P "ways_of" 748 (.ref 399)),(en P "ways_given" 758 (.ref 406)),(en P "held_for" 768 (.ref 413)),(en P "laying_at" 781 (.ref 420)),(en P "handed_down" 797 (.ref 427)),(en P "given_by" 809 (.ref 434)),(en P "last_within" 821 (.ref 441)),(en P "ways_before" 832 (.ref 448)),(en P "course" 846 (.ref 455)),(en P "number_of" 856 (.ref 462)),(en P "number_beneath" 871 (.ref 469)),(en P "_law_cell" 881 (.ref 476)),(en P "_law_mixed" 890 (.ref 483)),(en P "_law_numbers" 901 (.ref 490)),(en P "_law_toll" 908 (.ref 497)),(en P "_law_web" 925 (.ref 504)),(en P "_law_to_twelve" 933 (.ref 511)),(en P "_law_tolls" 945 (.ref 518)),(en P "_law_down" 951 (.ref 523)),(en P "_law_least" 962 (.ref 530)),(en P "_law_load" 974 (.ref 537)),(en P "_law_bound" 987 (.ref 544)),(en P "_law_whole" 994 (.ref 551)),(en P "_law_spread" 1000 (.ref 556)),(en P "_law_rows_down" 1006 (.ref 561)),(en P "_law_want" 1018 (.ref 568)),(en P "_law_tuple" 1024 (.ref 573)),(en P "_law_beyond" 1035 (.ref 580)),(en P "_law_both_ways" 1041 (.ref 585)),(en P "law" 1061 (.ref 592))] 90) #[])
def Wz:Obj:=(.mk .none none (.fields (tF [(2,20),(4,33),(6,45),(8,57),(10,69),(12,81),(14,93),(16,105),(22,117),(33,136),(42,143),(45,150),(48,157),(50,164),(55,171),(60,178),(64,185),(75,192),(84,199),(88,204),(90,211),(93,218),(104,225),(114,230),(116,235),(120,242),(125,249),(128,256),(130,263),(136,270),(140,277),(145,284),(147,291),(154,298),(157,303),(164,310),(171,315),(173,320),(175,325),(179,332),(183,339),(186,346),(192,353),(197,360),(200,367),(211,384),(223,391),(225,398),(227,405),(229,412),(231,419),(240,426),(251,433),(258,440),(268,447),(272,454),(279,461),(284,468),(294,475),(298,482),(303,489),(313,496),(317,503),(340,510),(343,517),(349,522),(357,529),(363,536),(369,543),(374,550),(376,555),(398,560),(407,567),(414,572),(417,579),(424,584),(439,591)]).toArray) #[])
def WK:Obj:=(fr "_law_down" (top 78))
def Tj:Obj:=(cO "_law_down" "_law_down" 946 947 948 349 3 0 0 3 (.ref 519) true 181 (.ref 520) .none .none .none (.ref 521) 949 349 950)
def UO:Obj:=(fo "_law_down" (top 78) (.str "law_pebbletoll_k46_whole_numbers_there_and_b" 872) (.ref 522))
def Wu:Obj:=(tS 955 ["tolls","order","weights","place","near"])
def WN:Obj:=(fr "_law_least" (top 79))
def Vw:Obj:=(cF "_law_least" 952 357 2 3 524 960)
def S6:Obj:=(fo "_law_least" (top 79) (.str "law_pebbletoll_k46_whole_numbers_there_and_b" 872) (.ref 529))
def WZ:Obj:=(tS 966 ["tolls","order","laying","have","place","near"])
def Ww:Obj:=(fr "_law_load" (top 80))
def SL:Obj:=(cF "_law_load" 963 363 3 3 531 972)
def Vo:Obj:=(fo "_law_load" (top 80) (.str "law_pebbletoll_k46_whole_numbers_there_and_b" 872) (.ref 536))
def WB:Obj:=(tS 978 ["tolls","order","weights","wanted","bound","place","near"])
def Wv:Obj:=(fr "_law_bound" (top 81))
def To:Obj:=(cF "_law_bound" 975 369 4 3 538 985)
def SU:Obj:=(fo "_law_bound" (top 81) (.str "law_pebbletoll_k46_whole_numbers_there_and_b" 872) (.ref 543))
def WH:Obj:=(tO #[(.str "found" 991)])
def WF:Obj:=(fr "_law_whole" (top 82))
def Uy:Obj:=(cF "_law_whole" 988 374 1 3 545 992)
def UV:Obj:=(fo "_law_whole" (top 82) (.str "law_pebbletoll_k46_whole_numbers_there_and_b" 872) (.ref 550))
def WT:Obj:=(fr "_law_spread" (top 83))
def VD:Obj:=(cO "_law_spread" "_law_spread" 995 996 997 376 4 0 0 3 (.ref 552) true 181 (.ref 553) .none .none .none (.ref 554) 998 376 999)
def UA:Obj:=(fo "_law_spread" (top 83) (.str "law_pebbletoll_k46_whole_numbers_there_and_b" 872) (.ref 555))
def WO:Obj:=(fr "_law_rows_down" (top 84))
def Vl:Obj:=(cO "_law_rows_down" "_law_rows_down" 1001 1002 1003 398 1 0 0 3 (.ref 557) true 181 (.ref 558) .none .none .none (.ref 559) 1004 398 1005)
def Tp:Obj:=(fo "_law_rows_down" (top 84) (.str "law_pebbletoll_k46_whole_numbers_there_and_b" 872) (.ref 560))
def WD:Obj:=(tS 1010 ["tolls","order","cell","weights","bound","limit"])
def WC:Obj:=(fr "_law_want" (top 85))
def Vr:Obj:=(cF "_law_want" 1007 407 3 3 562 1016)
def S5:Obj:=(fo "_law_want" (top 85) (.str "law_pebbletoll_k46_whole_numbers_there_and_b" 872) (.ref 567))
def WM:Obj:=(fr "_law_tuple" (top 86))
def Uf:Obj:=(cO "_law_tuple" "_law_tuple" 1019 1020 1021 414 3 0 0 3 (.ref 569) true 181 (.ref 570) .none .none .none (.ref 571) 1022 414 1023)
def Ut:Obj:=(fo "_law_tuple" (top 86) (.str "law_pebbletoll_k46_whole_numbers_there_and_b" 872) (.ref 572))
def WV:Obj:=(tS 1028 ["web","r","wanted","number","told"])
def WS:Obj:=(fr "_law_beyond" (top 87))
def V7:Obj:=(cF "_law_beyond" 1025 417 4 3 574 1033)
def VL:Obj:=(fo "_law_beyond" (top 87) (.str "law_pebbletoll_k46_whole_numbers_there_and_b" 872) (.ref 579))
def WI:Obj:=(fr "_law_both_ways" (top 88))
def Ta:Obj:=(cO "_law_both_ways" "_law_both_ways" 1036 1037 1038 424 6 0 0 3 (.ref 581) true 181 (.ref 582) .none .none .none (.ref 583) 1039 424 1040)
def UI:Obj:=(fo "_law_both_ways" (top 88) (.str "law_pebbletoll_k46_whole_numbers_there_and_b" 872) (.ref 584))
def Wt:Obj:=(tS 1045 ["script","numbers","many","roads","tolls","r","order","wanted","web","count","cells","cell","laying","number"])
def W4:Obj:=(fr "law" (top 89))
def TB:Obj:=(cF "law" 1042 439 1 3 586 1059)
def V1:Obj:=(fo "law" (top 89) (.str "law_pebbletoll_k46_whole_numbers_there_and_b" 872) (.ref 591))
noncomputable def h2(P:Params):Heap:=.mk (.mk (boot_o_0 P::boot_o_1 P::boot_o_2 P::TY P::boot_o_4 P::boot_o_5 P::boot_o_6 P::boot_o_7 P::boot_o_8 P::boot_o_9 P::boot_o_10 P::x0::Wz::x2::x3::x6::x7::x8 P::x0::x1::x9::x10::x0::x11 P::x12::x13::x14::x15::Xy::x7::x17 P::x0::x1::x18::x19::x0::x20 P::x21::x22::x23::Xy::x7::x24 P::x0::x1::x25::x26::x0::x27 P::x28::x29::x30::Xy::x7::x31 P::x0::x1::x32::x33::x0::x34 P::x35::x36::x37::Xy::x7::x38 P::x0::x1::x39::x40::x0::x41 P::x42::x43::x44::Xy::x7::x45 P::x0::x1::x46::x47::x0::x48 P::x49::x50::x51::Xy::x7::x52 P::x0::x1::x53::x54::x0::x55 P::x56::x57::x58::Xy::x7::x59 P::x0::x1::x60::x61::x0::x62 P::x63::x64::x65::x0::x7::x66 P::x0::x67::x68::x69::x0::x1::x70::x71::x72::x73::x74 P::x75::x76::x77::x78::x79::x0::x1::x80::x0::x81::x82::x83::x0::x1::x86::x0::x87::x88::x89::x0::x1::x90::x0::x91::x92::x93::x0::x1::x94::x0::x95::x96::x97::x0::x1::x98::x0::x99::QZ::Oh::x0::x1::Ul::x0::UL::OH::Rn::x0::x1::TQ::x0::Tv::Pe::NV::x0::x1::V0::x0::Vg::Pw::OU::x0::x1::VN::x0::U7::Qn::QB::x0::x1::UX::x0::VT::PU::Rg::x0::x1::Tl::QY::Pn::x0::x1::VS::x0::US::QH::NC::x0::x1::VZ::x0::Uq::Qq::Q6::x0::x1::UM::x0::VR::P5::Q4::x0::x1::UF::Pq::O0::x0::x1::VH::On::NT::x0::x1::Th::x0::Vd::NF::NU::x0::x1::S9::x0::U8::Pr::Q1::x0::x1::SM::x0::Ti::Nz::Om::x0::x1::TF::x0::U0::P7::NA::x0::x1::TV::x0::S4::Rj::Rq::x0::x1::Uu::x0::Ur::Ph::Qp::x0::x1::Tu::x0::Vc::Qb::Q7::x0::x1::Ui::x0::Ve::Ra::QC::x0::x1::T3::x0::UU::OV::OT::x0::x1::SW::Qa::Qd::x0::x1::U1::x0::VC::QX::QD::x0::x1::SX::Qi::Pj::x0::x1::VA::P1::Qo::x0::x1::Vp::Qx::QP::x0::x1::VQ::x0::Uv::PM::Py::x0::x1::TX::x0::TZ::Px::O3::x0::x1::VE::x0::VM::ND::Ro::x0::x1::Um::x0::U6::Of::OZ::x0::x1::V6::x0::UD::Ri::OG::x0::x7::T8 P::x0::V4::Vy::Vi::x0::x1::Vu::PK::O1::TN::O2 P::Pz::Ol::Q9::TR::TU::x0::x1::Vf::NP::QG::x0::x1::Uc::x0::Tt::PH::P4::x0::x1::Ue::x0::Vm::Q5::QF::x0::x1::UW::x0::Uw::Rm::Qc::x0::x1::Ub::x0::Uj::OA::OC::x0::x1::Tz::x0::SO::Ow::PZ::x0::x1::U9::x0::Vn::O4::Qy::x0::x1::TW::x0::TD::PD::Qt::x0::x1::VW::x0::V3::Og::O9::x0::x1::V2::x0::T6::NJ::O6::x0::x1::VU::x0::U3::QL::Oc::x0::x1::Up::x0::T5::Pi::OB::x0::x1::SN::x0::Vz::PR::PV::x0::x1::TL::x0::S8::P0::O5::x0::x1::Ts::x0::SR::QE::QT::x0::x1::Uh::x0::V9::Pt::Qh::x0::x1::Vx::x0::U2::Pg::Ov::x0::x1::U5::x0::UR::Pf::Rc::x0::x1::UG::x0::U4::Po::Pu::x0::x1::UB::x0::TC::Ox::QU::x0::x1::WK::Tj::UO::x0::x1::Wu::x0::WN::Vw::S6::x0::x1::WZ::x0::Ww::SL::Vo::x0::x1::WB::x0::Wv::To::SU::x0::x1::WH::x0::WF::Uy::UV::x0::x1::WT::VD::UA::x0::x1::WO::Vl::Tp::x0::x1::WD::x0::WC::Vr::S5::x0::x1::WM::Uf::Ut::x0::x1::WV::x0::WS::V7::VL::x0::x1::WI::Ta::UI::x0::x1::Wt::x0::W4::TB::V1::[])) (.mk [] [] [] 0 [] [] false #[] [] 0 false false false 0 [2000,10,10] false 0 true [] [] 0 false)
theorem WR(w:World)(os:OsState):segRun treeTable PySem.Challenge.pw_pebbletoll_k46_whole_numbers_there_and_b w 11 (some (.ref 6)) 1 371 (Shared.mk (h1 w.params) (.mk []) (.mk 0 0 0 0) 946 os) (piecesOf Zw env cE (.mk 343 0 348 16) [topFrame (.mk 0 0 0 0)])=some (.next,(Shared.mk (h2 w.params) (.mk []) (.mk 0 0 0 0) 1062 os),cE,(.mk 439 0 462 15)):=by kernel_rfl
noncomputable def hf(P:Params):Heap:=h2 P
theorem WQ(w:World)(os:OsState):topRun treeTable PySem.Challenge.pw_pebbletoll_k46_whole_numbers_there_and_b w 11 (some (.ref 6)) 2 (Shared.mk (h2 w.params) (.mk []) (.mk 0 0 0 0) 1062 os) (restOf [] env cE (.mk 439 0 462 15) [topFrame (.mk 0 0 0 0)])=some (Shared.mk (hf w.params) (.mk []) (.mk 0 0 0 0) 1062 os):=by kernel_rfl
theorem run(w:World)(os:OsState):topRun treeTable PySem.Challenge.pw_pebbletoll_k46_whole_numbers_there_and_b w 11 (some (.ref 6)) (12+(1+(1977+(1998+(371+(2)))))) (Shared.mk (boot_heap w.params) (.mk []) boot_drawn boot_toks os) (topStub PySem.Challenge.pw_pebbletoll_k46_whole_numbers_there_and_b)=some (Shared.mk (hf w.params) (.mk []) (.mk 0 0 0 0) 1062 os):=go_top (WE w os) (piece_block (WX w os) (piece_app (WU w os) (piece_app (W0 w os) (piece_app (WR w os) (WQ w os)))))
theorem opn:∀w:World,(fencedOpening treeTable PySem.Challenge.pw_pebbletoll_k46_whole_numbers_there_and_b w 8812).map (λs=>(s.heap,s.gens,s.drawn,s.toks))=some (boot_heap w.params,Array.mk [],boot_drawn,boot_toks):=boot_open (by kernel_rfl) (by decide) λs=>by kernel_rfl
theorem siz(w:World):((boot_heap w.params).isNs mainGlobals&&(Array.mk ([]:List GenState)).size==0,(boot_heap w.params).objs.size,(boot_heap w.params).nsMap mainGlobals "__annotations__")=(true,11,(some (.ref 6))):=by kernel_rfl
noncomputable def KK:Params->Frag:=λP=>
 (nat_lit 2,boot_o_2 P)::(nat_lit 3,TY P)::(nat_lit 23,x11 P)::(nat_lit 24,x12)::(nat_lit 25,x13)::(nat_lit 36,x20 P)::(nat_lit 37,x21)::(nat_lit 48,x27 P)::(nat_lit 49,x28)::(nat_lit 60,x34 P)::(nat_lit 61,x35)::(nat_lit 72,x41 P)::(nat_lit 73,x42)::(nat_lit 84,x48 P)::(nat_lit 85,x49)::(nat_lit 96,x55 P)::(nat_lit 97,x56)::(nat_lit 108,x62 P)::(nat_lit 109,x63)::(nat_lit 122,x71)::(nat_lit 123,x72)::(nat_lit 125,x74 P)::(nat_lit 126,x75)::(nat_lit 127,x76)::(nat_lit 128,x77)::(nat_lit 136,x82)::(nat_lit 137,x83)::(nat_lit 143,x88)::(nat_lit 144,x89)::(nat_lit 150,x92)::(nat_lit 151,x93)::(nat_lit 157,x96)::(nat_lit 158,x97)::(nat_lit 164,QZ)::(nat_lit 165,Oh)::(nat_lit 171,OH)::(nat_lit 172,Rn)::(nat_lit 178,Pe)::(nat_lit 179,NV)::(nat_lit 185,Pw)::(nat_lit 186,OU)::(nat_lit 192,Qn)::(nat_lit 193,QB)::(nat_lit 199,PU)::(nat_lit 200,Rg)::(nat_lit 204,QY)::(nat_lit 205,Pn)::(nat_lit 211,QH)::(nat_lit 212,NC)::(nat_lit 218,Qq)::(nat_lit 219,Q6)::(nat_lit 225,P5)::(nat_lit 226,Q4)::(nat_lit 230,Pq)::(nat_lit 231,O0)::(nat_lit 235,On)::(nat_lit 236,NT)::(nat_lit 242,NF)::(nat_lit 243,NU)::(nat_lit 249,Pr)::(nat_lit 250,Q1)::(nat_lit 256,Nz)::(nat_lit 257,Om)::(nat_lit 263,P7)::(nat_lit 264,NA)::(nat_lit 270,Rj)::(nat_lit 271,Rq)::(nat_lit 277,Ph)::(nat_lit 278,Qp)::(nat_lit 284,Qb)::(nat_lit 285,Q7)::(nat_lit 291,Ra)::(nat_lit 292,QC)::(nat_lit 298,OV)::(nat_lit 299,OT)::(nat_lit 303,Qa)::(nat_lit 304,Qd)::(nat_lit 310,QX)::(nat_lit 311,QD)::(nat_lit 315,Qi)::(nat_lit 316,Pj)::(nat_lit 320,P1)::(nat_lit 321,Qo)::(nat_lit 325,Qx)::(nat_lit 326,QP)::(nat_lit 332,PM)::(nat_lit 333,Py)::(nat_lit 339,Px)::(nat_lit 340,O3)::(nat_lit 346,ND)::(nat_lit 347,Ro)::(nat_lit 353,Of)::(nat_lit 354,OZ)::(nat_lit 360,Ri)::(nat_lit 361,OG)::(nat_lit 372,PK)::(nat_lit 373,O1)::(nat_lit 375,O2 P)::(nat_lit 376,Pz)::(nat_lit 377,Ol)::(nat_lit 378,Q9)::(nat_lit 384,NP)::(nat_lit 385,QG)::(nat_lit 391,PH)::(nat_lit 392,P4)::(nat_lit 398,Q5)::(nat_lit 399,QF)::(nat_lit 405,Rm)::(nat_lit 406,Qc)::(nat_lit 412,OA)::(nat_lit 413,OC)::(nat_lit 419,Ow)::(nat_lit 420,PZ)::(nat_lit 426,O4)::(nat_lit 427,Qy)::(nat_lit 433,PD)::(nat_lit 434,Qt)::(nat_lit 440,Og)::(nat_lit 441,O9)::(nat_lit 447,NJ)::(nat_lit 448,O6)::(nat_lit 454,QL)::(nat_lit 455,Oc)::(nat_lit 461,Pi)::(nat_lit 462,OB)::(nat_lit 468,PR)::(nat_lit 469,PV)::(nat_lit 475,P0)::(nat_lit 476,O5)::(nat_lit 482,QE)::(nat_lit 483,QT)::(nat_lit 489,Pt)::(nat_lit 490,Qh)::(nat_lit 496,Pg)::(nat_lit 497,Ov)::(nat_lit 503,Pf)::(nat_lit 504,Rc)::(nat_lit 510,Po)::(nat_lit 511,Pu)::(nat_lit 517,Ox)::(nat_lit 518,QU)::(nat_lit 522,Tj)::(nat_lit 523,UO)::(nat_lit 529,Vw)::(nat_lit 530,S6)::(nat_lit 536,SL)::(nat_lit 537,Vo)::(nat_lit 543,To)::(nat_lit 544,SU)::(nat_lit 550,Uy)::(nat_lit 551,UV)::(nat_lit 555,VD)::(nat_lit 556,UA)::(nat_lit 560,Vl)::(nat_lit 561,Tp)::(nat_lit 567,Vr)::(nat_lit 568,S5)::(nat_lit 572,Uf)::(nat_lit 573,Ut)::(nat_lit 579,V7)::(nat_lit 580,VL)::(nat_lit 584,Ta)::(nat_lit 585,UI)::(nat_lit 591,TB)::(nat_lit 592,V1)::[]
abbrev qq:Program:=PySem.W.view PySem.Challenge.pw_pebbletoll_k46_whole_numbers_there_and_b [1,2,3,4,5,6,7,8,10,11,12,13,14,15,16,17,18,19,20,21,22,24,25,26,28,29,30,31,33,34,36,37,38,39,40,41,42,44,45,46,47,48,50,51,52,53,54,55,56,57,58,59,60,61,62,63,64,65,66,67,68,69,71,72,73,74,75,76,77,78,79,80,81,82,83,84,85,86,87,88,89]
abbrev asK:List Addr:=[2,3,23,24,25,36,37,48,49,60,61,72,73,84,85,96,97,108,109,122,123,125,126,127,128,136,137,143,144,150,151,157,158,164,165,171,172,178,179,185,186,192,193,199,200,204,205,211,212,218,219,225,226,230,231,235,236,242,243,249,250,256,257,263,264,270,271,277,278,284,285,291,292,298,299,303,304,310,311,315,316,320,321,325,326,332,333,339,340,346,347,353,354,360,361,372,373,375,376,377,378,384,385,391,392,398,399,405,406,412,413,419,420,426,427,433,434,440,441,447,448,454,455,461,462,468,469,475,476,482,483,489,490,496,497,503,504,510,511,517,518,522,523,529,530,536,537,543,544,550,551,555,556,560,561,567,568,572,573,579,580,584,585,591,592]
theorem Ϟ:∀P,asK=(KK P).map (·.1):=λ_=>by kernel_rfl
theorem Wg(w:World):(λos=>((staticsOk (importedModules PySem.Challenge.pw_pebbletoll_k46_whole_numbers_there_and_b.main.body) (boot_heap w.params) (hf w.params)&&namesBound PySem.Challenge.pw_pebbletoll_k46_whole_numbers_there_and_b (hf w.params)&&gensDone (Shared.mk (Hd.hf w.params) (.mk []) (.mk 0 0 0 0) 1062 os)&&laidKept (boot_heap w.params) (hf w.params)),openSeen qq [] (importedModules PySem.Challenge.pw_pebbletoll_k46_whole_numbers_there_and_b.main.body) (λs=>PySem.W.xlAt Hd.qq [] s&&PySem.W.recOk (PySem.W.RowW.records (PySem.W.OpenRow.toRowW (PySem.Challenge.rw_pebbletoll_k46_whole_numbers_there_and_b).row)) s) true (Shared.mk (Hd.hf w.params) (.mk []) (.mk 0 0 0 0) 1062 os),Hook.obs (PySem.W.kHook Hd.KK Hd.asK Hd.Ϟ) (Shared.mk (Hd.hf w.params) (.mk []) (.mk 0 0 0 0) 1062 os)))=λ_=>(true,openGood qq [],Hook.val (PySem.W.kHook Hd.KK Hd.asK Hd.Ϟ) w):=by kernel_rfl
theorem left:PySem.W.LeftO (PySem.Challenge.rw_pebbletoll_k46_whole_numbers_there_and_b).row.prog qq [] (λs=>PySem.W.xlAt Hd.qq [] s&&PySem.W.recOk (PySem.W.RowW.records (PySem.W.OpenRow.toRowW (PySem.Challenge.rw_pebbletoll_k46_whole_numbers_there_and_b).row)) s) (PySem.W.Hook.obs (PySem.W.kHook Hd.KK Hd.asK Hd.Ϟ)) (PySem.W.Hook.val (PySem.W.kHook Hd.KK Hd.asK Hd.Ϟ)) 8812:=LeftO.of_pieces opn siz run (by decide) Wg
end Hd
abbrev hR:=Int->Int->Int
abbrev hP:=List (Int×Nat×Int)
abbrev hL:=List PySem.Str
abbrev hH:=PySem.Str->Option PySem.Value
abbrev hD:=List PySem.Value
abbrev g8:=List PySem.Addr
abbrev gn:=List (PySem.Addr×PySem.Obj)
abbrev gh:=PySem.W.Frag
abbrev f5:=PySem.Value->PySem.Shared->Prop
abbrev fz:=Int->Nat
abbrev fc:=Int->Int
abbrev eu:=List Int
namespace L2
open PySem PySem.Spec PyProof.Rows
abbrev Key:=Sum Int Str
def yn:Key->Value->Bool
 | .inl k,v=>Value.isInt k v
 | .inr x,v=>Value.isStrOf x v
def Wx(w:World):Key->Int
 | .inl k=>hashInt k
 | .inr x=>hashStr w x
theorem jC:∀{k:Key}{v:Value},yn k v=true->(∃i t,k=Sum.inl i/\v=Value.int i t)\/(∃x t,k=Sum.inr x/\v=Value.str x t)
 | .inl i,v,h=>by
   obtain⟨t,e⟩:=Value.isInt_shape (k:=i) (v:=v) h;exact .inl ⟨i,t,rfl,e⟩
 | .inr x,v,h=>by
   obtain⟨t,e⟩:=Value.isStrOf_shape (x:=x) (v:=v) h;exact .inr ⟨x,t,rfl,e⟩
theorem My(i:Int)(t:Tok):yn (.inl i) (.int i t)=true:=by simp[yn,Value.isInt]
theorem MZ(x:Str)(t:Tok):yn (.inr x) (.str x t)=true:=by simp[yn,Value.isStrOf]
theorem UY(a b:Int):decide ((Sum.inl a:Key)=Sum.inl b)=(a==b):=by
 by_cases e:a=b
 .subst e;simp
 .have h:¬(Sum.inl a:Key)=Sum.inl b:=λq=>e (Sum.inl.inj q);rw[bw h];exact(beq_eq_false_iff_ne.mpr e).symm
theorem UT(a b:Str):decide ((Sum.inr a:Key)=Sum.inr b)=decide (a=b):=by
 by_cases e:a=b
 .subst e;simp
 .have h:¬(Sum.inr a:Key)=Sum.inr b:=λq=>e (Sum.inr.inj q);rw[bw h,bw e]
theorem Tr(a:Int)(b:Str):decide ((Sum.inl a:Key)=Sum.inr b)=false:=bw (λq=>nomatch q)
theorem Ua(a:Str)(b:Int):decide ((Sum.inr a:Key)=Sum.inl b)=false:=bw (λq=>nomatch q)
def iz(prog:Program)(w:World):PySem.KeyKind prog w Key where
 is:=yn
 hash:=Wx w
 inj:=λv a b d hb=>by
  rcases jC d with⟨i,t,rfl,rfl⟩|⟨x,t,rfl,rfl⟩
  .rcases jC hb with⟨j,u,rfl,e⟩|⟨y,u,rfl,e⟩
   .injection e with e1 _;rw[e1]
   .exact nomatch e
  .rcases jC hb with⟨j,u,rfl,e⟩|⟨y,u,rfl,e⟩
   .exact nomatch e
   .injection e with e1 _;rw[e1]
 byValue:=λk v h=>by
  rcases jC h with⟨i,t,rfl,rfl⟩|⟨x,t,rfl,rfl⟩<;>rfl
 pyHash:=λhv h=>by
  rcases jC hv with⟨i,t,rfl,rfl⟩|⟨x,t,rfl,rfl⟩
  .exact wpAny_pyHash_int h
  .exact wpAny_pyHash_str h
 eqBool:=λc hv h=>by
  rcases jC c with⟨i,t,rfl,rfl⟩|⟨x,t,rfl,rfl⟩
  .rcases jC hv with⟨j,u,rfl,rfl⟩|⟨y,u,rfl,rfl⟩
   .rw[UY]at h;exact wpAny_eqBool_int h
   .rw[Tr]at h;exact SeqAt.EqAt.int_str i t y u _ _ _ _ h
  .rcases jC hv with⟨j,u,rfl,rfl⟩|⟨y,u,rfl,rfl⟩
   .rw[Ua]at h;exact SeqAt.EqAt.str_int x t j u _ _ _ _ h
   .rw[UT]at h;exact wpAny_eqBool_str h
 «strs»:=λk x t v h=>by
  rcases jC h with⟨i,u,rfl,e⟩|⟨y,u,rfl,e⟩
  .exact nomatch e
  .injection e with e1 _
   subst e1;cases v<;>rfl
theorem Il(a:Program)(w:World)(i:Int)(t:Tok):(iz a w).is (.inl i) (.int i t)=true:=My i t
theorem HF(a:Program)(w:World)(x:Str)(t:Tok):(iz a w).is (.inr x) (.str x t)=true:=MZ x t
inductive V where
 | π|bl (b:Bool)|int (i:Int)|str (x:Str)|YW (b:Array UInt8)|flt (b:UInt64)|ref (a:Addr)|ty (n:String)
 deriving DecidableEq
def RelV:V->Value->Prop
 | .π,u=>u=Value.none
 | .bl b,u=>u=Value.bool b
 | .int i,u=>∃t,u=Value.int i t
 | .str x,u=>∃t,u=Value.str x t
 | .YW b,u=>∃t,u=Value.bytes b t
 | .flt b,u=>∃t,u=Value.float b t
 | .ref a,u=>u=Value.ref a
 | .ty n,u=>u=Value.type n
abbrev Vals:List V->List Value->Prop:=Paired RelV
theorem Vals.length{a:List V}{b:hD}(r:Vals a b):a.length=b.length:=Paired.length r
theorem Vals.get:∀{b:List V}{a:hD}{i:Nat}{x:V},Vals b a->b[i]?=some x->∃u,a[i]?=some u/\RelV x u
 | _,_,_,_,.nil,e=>by simp at e
 | _,_,0,_,.cons r _,e=>by simp at e;subst e;exact⟨_,rfl,r⟩
 | _,_,i+1,x,.cons _ t,e=>by
   obtain⟨u,d,c⟩:=Vals.get (i:=i) (x:=x) t (by simpa using e);exact⟨u,by simpa using d,c⟩
theorem Vals.set{x:V}{u:Value}(r:RelV x u):∀{b:List V}{a:hD}(i:Nat),Vals b a->Vals (b.set i x) (a.set i u)
 | _,_,_,.nil=>.nil
 | _,_,0,.cons _ t=>.cons r t
 | _,_,i+1,.cons q t=>.cons q (Vals.set r i t)
theorem Vals.append:∀{b a:List V}{d c:hD},Vals b d->Vals a c->Vals (b++a) (d++c)
 | _,_,_,_,.nil,s=>s
 | _,_,_,_,.cons r t,s=>.cons r (Vals.append t s)
theorem Vals.take:∀{a:List V}{b:hD}(n:Nat),Vals a b->Vals (a.take n) (b.take n)
 | _,_,0,_=>.nil
 | _,_,_+1,.nil=>.nil
 | _,_,n+1,.cons r t=>.cons r (Vals.take n t)
theorem Vals.drop:∀{a:List V}{b:hD}(n:Nat),Vals a b->Vals (a.drop n) (b.drop n)
 | _,_,0,r=>r
 | _,_,_+1,.nil=>.nil
 | _,_,n+1,.cons _ t=>Vals.drop n t
def rW:Option V->Option Value->Prop
 | some v,some u=>RelV v u
 | none,none=>True
 | _,_=>False
def KV{a:Type}:List (a×V)->List (a×Value)->Prop:=Paired λ(p:a×V)(q:a×Value)=>p.1=q.1/\RelV p.2 q.2
def kV:Key->V
 | .inl i=>.int i
 | .inr x=>.str x
inductive HO where
 /-- a list -/
 | lst (xs:List V)
 /-- a tuple (never changes) -/
 | tup (xs:List V)
 /-- a dict abL keys are ints and texts;one abL keys are tuples of ints and texts (Xm empty one is both) -/
 | dK (η:List (Key×V))|dT (η:List (List Key×V))
 /-- a set of ints: its members,its size -/
 | set (S:Int->Bool) (n:Nat)
 /-- an instance of Xm class at C,its dict at dx,its attributes -/
 | ins (C dx:Addr) (fs:List (Str×V))
 /-- Xm dict of Xm instance at x -/
 | own (x:Addr)
 /-- Xm dict of an exception -/
 | xd (fs:List (Str×V))
 /-- a bound method,f of x -/
 | met (f x:Addr)
 /-- a range object lo,lo+1,.. cY hi -/
 | Λ (lo hi:Int)
 /-- a thing acj is known to Xm object (Xm script;a dict while a loop walks it): read,never written while it is so -/
 | YX (o:Obj) (u:HO)
 /-- a code aec table -/
 | tbl (ps:Array Value)
 /-- any other thing,by YY is true of its one object (a def of alG own: aox a S n:=HO.ext λh=>..) -/
 | ext (φ:Heap->Prop)
abbrev Hp:=Addr->Option HO
def upd(H:Hp)(a:Addr)(o:HO):Hp:=λb=>if b=a then some o else H b
theorem aw{H:Hp}{a:Addr}{o:HO}:upd H a o a=some o:=by unfold upd;rw[aj rfl]
theorem aP{H:Hp}{a b:Addr}{o:HO}(h:b≠a):upd H a o b=H b:=by unfold upd;rw[ah h]
theorem sW{H:Hp}{a:Addr}{o u:HO}:upd (upd H a o) a u=upd H a u:=by
 funext b;unfold upd;split<;>rfl
theorem iR{H:Hp}{a b:Addr}{o u:HO}(h:H a=some o)(c:H b=some u)(d:o≠u):a≠b:=by
 intro e;subst e;rw[h]at c;exact d (br c)
theorem b9{H:Hp}{a b:Addr}{o:HO}(h:H a=some o)(c:H b=none):a≠b:=by
 intro e;subst e;rw[h]at c;cases c
section
variable(P:Program)(w:World)
def Γ(H:Hp)(h:Heap)(a:Addr):HO->Prop
 | .lst c=>c.length<=sizeLine/\∃(b:hD)(n:Nat),Vals c b/\h.get? a=some { cls:=.type "list",data:=.seq b.toArray n }
 | .tup c=>c.length<=sizeLine/\∃b:List Value,Vals c b/\IsTup h a b.toArray
 | .dK η=>η.length<=sizeLine/\(a==sysModules)=false/\∃i,KV η i/\h.DictOf (iz P w) a i
 | .dT η=>η.length<=sizeLine/\(a==sysModules)=false/\∃c:List (List Key×Addr×Value),Paired (λ(p:List Key×V)(q:List Key×Addr×Value)=>p.1=q.1/\H q.2.1=some (.tup (p.1.map kV))/\RelV p.2 q.2.2) η c/\∃o e k,h.get? a=some o/\o.ExactDict/\o.data=.dict e k/\e.toList=c.map (entryOfKey (tupleKind (iz P w)))/\(c.map (·.1)).Nodup
 | .set S n=>h.SetOf (intKind P w) a S n
 | .ins C dx fs=>H dx=some (.own a)/\fs.length<=1000/\dx≠a/\h.get? a=some (PySem.W.instObj C dx)/\∃d,h.Ns1 dx d/\(∀f,rW (fs.lookup f) (d f))/\PySem.Within d (fs.map (·.1))
 | .own _=>∃o,h.get? a=some o
 | .xd fs=>∃d,h.Ns1 a d/\∀f,rW (fs.lookup f) (d f)
 | .Λ lo hi=>∃t u v,h.get? a=some { cls:=.type "range",data:=.fields #[.int lo t,.int hi u,.int 1 v] }
 | .YX o u=>h.get? a=some o/\Γ H h a u
 | .tbl ps=>h.get? a=some { cls:=.none,data:=.fields ps }
 | .met f x=>h.get? a=some (PySem.W.methodObj (.ref f) (.ref x))
 | .ext φ=>φ h/\(∃o,h.get? a=some o)/\∀g j:Heap,φ g->(∀o,g.get? a=some o->j.get? a=some o)->φ j
def ϧ(H:Hp)(h:Heap):Prop:=∀a o,H a=some o->Γ P w H h a o
end
section
variable{P:Program}{w:World}{H g:Hp}{h h':Heap}{a:Addr}{o:HO}
theorem Γ.lt(x:Γ P w H h a o):a<h.objs.size:=by
 cases o with
 | lst xs=>obtain⟨_,_,_,_,e⟩:=x;exact aI e
 | tup xs=>obtain⟨_,_,_,p⟩:=x;exact p.lt
 | dK η=>obtain⟨_,_,_,_,o,_,_,e,_⟩:=x;exact aI e
 | dT η=>obtain⟨_,_,_,_,o,_,_,e,_⟩:=x;exact aI e
 | set S n=>obtain⟨o,_,_,_,e,_⟩:=x;exact aI e
 | ins C dx fs=>obtain⟨_,_,_,e,_⟩:=x;exact aI e
 | own y=>obtain⟨_,e⟩:=x;exact aI e
 | xd fs=>obtain⟨_,⟨_,_,_,e,_⟩,_⟩:=x;exact aI e
 | Λ lo hi=>obtain⟨_,_,_,e⟩:=x;exact aI e
 | YX ob u=>obtain⟨e,_⟩:=x;exact aI e
 | tbl ps=>exact aI (show h.get? a=some _ from x)
 | met f y=>exact aI (show h.get? a=some _ from x)
 | ext φ=>obtain⟨_,⟨_,e⟩,_⟩:=x;exact aI e
theorem Paired.aaO{i e:Type}{F G:i->e->Prop}:∀{d:List i}{c:List e},Paired F d c->(∀a b,F a b->G a b)->Paired G d c
 | _,_,.nil,_=>.nil
 | _,_,.cons r t,f=>.cons (f _ _ r) (Paired.aaO t f)
theorem Paired.imp'{i e:Type}{F G:i->e->Prop}(f:∀a b,F a b->G a b){d:List i}{c:List e}(r:Paired F d c):Paired G d c:=Paired.aaO r f
theorem Γ.gT(x:Γ P w H h a o)(k:∀b u,(b=a\/H b=some (.own a))->h.get? b=some u->h'.get? b=some u)(D:∀b,H b=some (.own a)->g b=some (.own a))(G:∀b s,H b=some (.tup s)->g b=some (.tup s)):Γ P w g h' a o:=by
 induction o with
 | lst s=>obtain⟨z,m,n,r,e⟩:=x;exact⟨z,m,n,r,k _ _ (.inl rfl) e⟩
 | tup s=>obtain⟨z,m,r,i,e,c⟩:=x;exact⟨z,m,r,i,k _ _ (.inl rfl) e,c⟩
 | dK η=>obtain⟨z,y,F,r,i,l,j,e,c⟩:=x;exact⟨z,y,F,r,i,l,j,k _ _ (.inl rfl) e,c⟩
 | dT η=>
   obtain⟨z,y,s,r,i,l,j,e,c⟩:=x;exact⟨z,y,s,Paired.aaO r λp q z=>⟨z.1,G _ _ z.2.1,z.2.2⟩,i,l,j,k _ _ (.inl rfl) e,c⟩
 | set S n=>obtain⟨i,l,j,t,e,c⟩:=x;exact⟨i,l,j,t,k _ _ (.inl rfl) e,c⟩
 | ins C dx fs=>
   obtain⟨d,z,ne,e,A,⟨B,l,j,E,c⟩,r⟩:=x;exact⟨D _ d,z,ne,k _ _ (.inl rfl) e,A,⟨B,l,j,k _ _ (.inr d) E,c⟩,r⟩
 | own y=>obtain⟨i,e⟩:=x;exact⟨i,k _ _ (.inl rfl) e⟩
 | xd fs=>obtain⟨A,⟨B,l,j,e,c⟩,r⟩:=x;exact⟨A,⟨B,l,j,k _ _ (.inl rfl) e,c⟩,r⟩
 | Λ lo hi=>obtain⟨t,u,v,e⟩:=x;exact⟨t,u,v,k _ _ (.inl rfl) e⟩
 | YX i u ih=>obtain⟨e,q⟩:=x;exact⟨k _ _ (.inl rfl) e,ih q⟩
 | tbl ps=>
   have e:h.get? a=some { cls:=.none,data:=.fields ps }:=x;show h'.get? a=some { cls:=.none,data:=.fields ps };exact k a _ (.inl rfl) e
 | met f y=>
   have e:h.get? a=some (PySem.W.methodObj (.ref f) (.ref y)):=x;show h'.get? a=some (PySem.W.methodObj (.ref f) (.ref y));exact k a _ (.inl rfl) e
 | ext φ=>obtain⟨p,⟨o,e⟩,st⟩:=x;exact⟨st _ _ p λo q=>k _ _ (.inl rfl) q,⟨o,k _ _ (.inl rfl) e⟩,st⟩
theorem ϧ.lt(x:ϧ P w H h)(e:H a=some o):a<h.objs.size:=(x a o e).lt
theorem ϧ.fresh(x:ϧ P w H h)(e:h.objs.size<=a):H a=none:=by
 cases q:H a with
 | none=>rfl
 | some u=>exact absurd (aY (x.lt q) e) (c7 _)
theorem ϧ.kept(x:ϧ P w H h)(k:∀b u,h.get? b=some u->h'.get? b=some u):ϧ P w H h':=λa o e=>
 (x a o e).gT (λb u _ q=>k b u q) (λ_ q=>q) λ_ _ q=>q
theorem ϧ.laid(x:ϧ P w H h)(k:∀b u,h.get? b=some u->h'.get? b=some u)(j:h.objs.size<=a)(d:Γ P w (upd H a o) h' a o):ϧ P w (upd H a o) h':=λb u e=>by
 have i:=x.fresh j;by_cases f:b=a
 .subst f;rw[aw]at e;cases e;exact d
 .rw[aP f]at e;exact(x b u e).gT (λc v _ q=>k c v q) (λc q=>by rw[aP (b9 q i)];exact q) λc l q=>by rw[aP (b9 q i)];exact q
end
def Rd(H:Hp)(a:Addr)(u:HO):Prop:=H a=some u\/∃o,H a=some (.YX o u)
theorem Rd.ok{P:Program}{w:World}{H:Hp}{h:Heap}{a:Addr}{u:HO}(r:Rd H a u)(x:ϧ P w H h):Γ P w H h a u:=by
 rcases r with r|⟨o,r⟩
 .exact x a u r
 .obtain⟨_,q⟩:=x a _ r;exact q
def Mut:Option HO->Prop
 | some (.lst _)=>True
 | some (.dK _)=>True
 | some (.dT _)=>True
 | some (.set _ _)=>True
 | some (.ins _ _ _)=>True
 | some (.ext _)=>True
 | _=>False
section
variable{P:Program}{w:World}{H:Hp}{h a:Heap}{x e:Addr}{d:HO}
theorem ϧ.write(t:ϧ P w H h)(j:Mut (H x))(p:e=x\/H e=some (.own x))(k:∀b u,b≠e->h.get? b=some u->a.get? b=some u)(o:∃u,a.get? e=some u)(m:Γ P w (upd H x d) a x d):ϧ P w (upd H x d) a:=λb u q=>by
 have g:∀c y,H c=some (.own y)->c≠x:=λc y r z=>by subst z;rw[r]at j;exact j
 have n:∀c i,H c=some (.tup i)->c≠x:=λc i r z=>by subst z;rw[r]at j;exact j
 by_cases l:b=x
 .subst l;rw[aw]at q;cases q;exact m
 .rw[aP l]at q;by_cases f:b=e
  .have q':H b=some (.own x):=by
    rcases p with z|z
    .exact absurd (f.trans z) l
    .rw[f];exact z
   rw[q]at q';cases q';obtain⟨v,s⟩:=o;exact⟨v,by rw[f];exact s⟩
  .refine(t b u q).gT (λc v hc r=>k c v ?_ r) (λc r=>by rw[aP (g c b r)];exact r) λc i r=>by rw[aP (n c i r)];exact r
   rcases hc with rfl|hc
   .exact f
   .rintro rfl;rcases p with z|z
    .exact g c b hc z
    .rw[hc]at z;cases z;exact l rfl
end
structure Un(fs ex:g8)(H H':Hp)(h h':Heap):Prop where
 keep:∀b o,h.get? b=some o->H b=none->b∉fs->b∉ex->h'.get? b=some o
 slot:∀b o,h.get? b=some o->H b=none->b∈fs->b∉ex->∃sl,h'.get? b=some { o with slots:=sl }
 free:∀b o,h.get? b=some o->H b=none->b∉ex->H' b=none
 there:∀b o,h.get? b=some o->b∉ex->∃o',h'.get? b=some o'
 iD:∀b xs,H b=some (.tup xs)->H' b=some (.tup xs)
 ϸ:∀b o u,H b=some (.YX o u)->H' b=some (.YX o u)
 iF:∀b ps,H b=some (.tbl ps)->∃more,H' b=some (.tbl (ps++more))
section
variable{c i d g:g8}{H j l:Hp}{h f m h':Heap}{a x e:Addr}{o:HO}
theorem Un.any(u:Un c d H j h f){b:Addr}{k:Obj}(q:h.get? b=some k)(n:H b=none)(r:b∉d):∃s,f.get? b=some { k with slots:=s }:=by
 by_cases p:b∈c
 .exact u.slot b k q n p r
 .exact⟨k.slots,u.keep b k q n p r⟩
theorem Un.kept(k:∀b u,h.get? b=some u->h'.get? b=some u):Un c d H H h h':=⟨λb p q _ _ _=>k b p q,λb p q _ _ _=>⟨p.slots,k b p q⟩,λ_ _ _ n _=>n,λb p q _=>⟨p,k b p q⟩,λ_ _ q=>q,λ_ _ _ q=>q,λ_ r q=>⟨#[],by rw[q];simp⟩⟩
theorem Un.refl:Un c d H H h h:=Un.kept λ_ _ q=>q
theorem Un.laid(k:∀b u,h.get? b=some u->h'.get? b=some u)(r:h.objs.size<=a)(p:H a=none):Un c d H (upd H a o) h h' where
 keep:=λb u q _ _ _=>k b u q
 slot:=λb u q _ _ _=>⟨u.slots,k b u q⟩
 free:=λb u q n _=>by rw[aP (aX (aY (aI q) r))];exact n
 there:=λb u q _=>⟨u,k b u q⟩
 iD:=λb s q=>by rw[aP (b9 q p)];exact q
 ϸ:=λb u s q=>by rw[aP (b9 q p)];exact q
 iF:=λb t q=>⟨#[],by rw[aP (b9 q p),q];simp⟩
theorem Un.write(s:Mut (H x))(A:e=x\/H e=some (.own x))(k:∀b u,b≠e->h.get? b=some u->h'.get? b=some u)(v:∃u,h'.get? e=some u):Un c d H (upd H x o) h h':=by
 have y:∀b,H b=none->b≠x:=λb n z=>by subst z;rw[n]at s;exact s
 have w:∀b,H b=none->b≠e:=λb n z=>by
  subst z;rcases A with r|r
  .exact y b n r
  .rw[n]at r;cases r
 have t:∀b u,H b=some u->¬Mut (some u)->b≠x:=λb u q B z=>by subst z;rw[q]at s;exact B s
 refine⟨λb u q n _ _=>k b u (w b n) q,λb u q n _ _=>⟨u.slots,k b u (w b n) q⟩,λb u q n _=>by rw[aP (y b n)];exact n,λb u q _=>?_,λb C q=>by rw[aP (t b _ q λz=>z)];exact q,λb u C q=>by rw[aP (t b _ q λz=>z)];exact q,λb D q=>⟨#[],by rw[aP (t b _ q λz=>z),q];simp⟩⟩
 by_cases p:b=e
 .subst p;exact v
 .exact⟨u,k b u p q⟩
end
def trk(h:Heap)(H:Hp):List Addr:=(List.range h.objs.size).filter λa=>(H a).isSome
def we(h:Heap)(H:Hp):Heap:=PySem.W.hideAll h (trk h H)
theorem M0(h:Heap)(H:Hp):(we h H).objs.size=h.objs.size:=PySem.W.hideAll_size _ _
theorem Ny{h:Heap}{H:Hp}{b:Addr}{o:Obj}(e:h.get? b=some o)(n:H b=none):(we h H).get? b=some o:=PySem.W.hideAll_get _ e λa=>by
 have q:(H b).isSome=true:=(bG.mp a).2;rw[n]at q;simp at q
theorem SF{h:Heap}{H:Hp}{b:Addr}{o:Obj}(e:(we h H).get? b=some o):h.get? b=some o/\H b=none:=by
 have a:h.get? b=some o:=PySem.W.of_hideAll (trk h H) e;refine⟨a,?_⟩;cases q:H b with
 | none=>rfl
 | some x=>
   have c:b∈trk h H:=bG.mpr ⟨cA.mpr (aI a),by simp[q]⟩;have z:(we h H).get? b=none:=PySem.W.hideAll_none (trk h H) c;rw[z]at e;cases e
def R5(g h:Heap)(L:Addr):List (Addr×Obj):=(List.range h.objs.size).filterMap λa=>if a=L\/(g.get? a).isSome=true then none else(h.get? a).map λo=>(a,o)
def rest(g h:Heap)(L d:Addr):List (Addr×Obj):=(R5 g h L).filter λp=>decide (p.1≠d)
structure Mod(K:gh)(mg:hH)(base:Heap):Prop where
 kin:K.In base
 glob:base.Ns mainGlobals mg
 blt:∃mb,base.Ns builtinsNs mb/\∀x:Str,x≠"__name__"->mb x=bootBuiltins x
 nolimit:base.NoLimit
structure Cx where
 prog:Program
 w:World
 K:PySem.W.Frag
 mg:Str->Option Value
 base:Heap
 A:Around
 N:List Str
 s₀:Shared
 H₀:Hp
 env:Env
 outer:List Env
 stack:List Env
 ex:List Addr
 fn:Str->Bool
 calm:Bool
 pn:List (Addr×Obj)
 xe:Value->Shared->Prop
def ϝ(l:List Env):List Addr:=l.filterMap (·.frame)
abbrev Cx.fs(X:Cx):List Addr:=ϝ X.outer
def Vis(a:Scope)(x:Str):Prop:=a.names.lookup x=some .local\/a.names.lookup x=some .cell\/a.names.lookup x=some .free
def Loc(a:Scope)(x:Str):Prop:=a.names.lookup x=some .local\/a.names.lookup x=some .cell
def Wy(a:Env)(h:Heap)(m:hH)(x:Str)(u:Value):Prop:=(a.kindOf x=some .local/\m x=some u)\/((a.kindOf x=some .cell\/a.kindOf x=some .free)/\∃c,a.cells.lookup x=some c/\h.IsCell c (some u))
structure Cx.Ok(X:Cx):Prop where
 mod:Mod X.K X.mg X.base
 kind:X.env.scope.kind=.function
 glob:X.env.globals=mainGlobals
 blt:X.env.builtins=builtinsNs
 above:X.s₀.heap.objs.size<=X.env.locals
 inj:∀x y c,X.env.cells.lookup x=some c->X.env.cells.lookup y=some c->x=y
 has:∀x,(X.env.kindOf x=some .cell\/X.env.kindOf x=some .free)->∃c,X.env.cells.lookup x=some c
 cab:∀x c,X.fn x=true->X.env.cells.lookup x=some c->X.s₀.heap.objs.size<=c
 hd:X.calm=true->X.A.handled=none
 frames:X.A.frames=some X.stack
 stk:X.stack=X.outer\/(X.stack=X.env::X.outer/\X.env.frame=some X.env.locals)
 exf:∀b∈X.ex,b≠X.env.locals/\∀x c,X.env.cells.lookup x=some c->c≠b
 bs:∀b o,X.base.get? b=some o->X.s₀.heap.get? b=some o/\X.H₀ b=none
 ZY:X.base.objs.size<=X.s₀.heap.objs.size
 Yp:∀b o,X.base.get? b=some o->b∉X.ex
 X2:∀b∈X.ex,b∉X.fs
 Ϲ:X.s₀.heap.FunFrames X.base X.outer
 frf:∀b∈X.fs,X.H₀ b=none
structure Inv(X:Cx)(pins:gn)(σ:List (Option V))(H:Hp)(s:Shared):Prop where
 ok:X.Ok
 os:s.os=X.s₀.os
 bare:AllBare s.gens
 base:Un X.fs X.ex X.H₀ H X.s₀.heap s.heap
 loc:∃m,s.heap.Ns X.env.locals m/\∀(i:Nat)(x:Str)(v:V),X.N[i]?=some x->σ[i]?=some (some v)->Vis X.env.scope x->∃u,RelV v u/\Wy X.env s.heap m x u
 cell:∀x c,X.env.cells.lookup x=some c->∃v,s.heap.IsCell c v
 free:H X.env.locals=none
 ϊ:∀x c,X.env.cells.lookup x=some c->H c=none
 pin:∀p∈X.pn++pins,s.heap.get? p.1=some p.2/\H p.1=none/\p.1≠X.env.locals/\p.1∉X.fs/\∀v,p.2.data≠.cell v
 χ:ϧ X.prog X.w H s.heap
 len:σ.length=X.N.length
section
variable{X:Cx}{f:gn}{g:List (Option V)}{H B:Hp}{s:Shared}{h':Heap}
theorem Cx.Ok.ajd(a:X.Ok){b:Addr}{o:Obj}(e:X.base.get? b=some o):b∉X.fs:=λc=>by
 have:=(a.Ϲ.mem c).1;rw[e]at this;cases this
theorem Inv.bs(I:Inv X f g H s):∀b o,X.base.get? b=some o->s.heap.get? b=some o/\H b=none:=λb o e=>
 ⟨I.base.keep b o (I.ok.bs b o e).1 (I.ok.bs b o e).2 (I.ok.ajd e) (I.ok.Yp b o e),I.base.free b o (I.ok.bs b o e).1 (I.ok.bs b o e).2 (I.ok.Yp b o e)⟩
theorem Inv.bk(I:Inv X f g H s):∀b o,X.base.get? b=some o->s.heap.get? b=some o:=λb o e=>(I.bs b o e).1
theorem Inv.mod(I:Inv X f g H s):Mod X.K X.mg X.base:=I.ok.mod
theorem Inv.Rw(I:Inv X f g H s):X.K.In s.heap:=I.ok.mod.kin.keeps I.bk
theorem Inv.lt(I:Inv X f g H s):X.env.locals<s.heap.objs.size:=let ⟨_,hn,_⟩:=I.loc;hn.lt
theorem Inv.sz(I:Inv X f g H s):X.s₀.heap.objs.size<=s.heap.objs.size:=aN I.ok.above (je I.lt)
theorem Inv.aje(I:Inv X f g H s){a:Addr}(h:s.heap.objs.size<=a):a∉X.fs:=λc=>by
 obtain⟨_,o,b,_⟩:=I.ok.Ϲ.mem c;exact absurd (aY (aI b) (aN I.sz h)) (c7 _)
theorem Inv.cne(I:Inv X f g H s):∀x c,X.env.cells.lookup x=some c->c≠X.env.locals:=λx c e z=>by
 obtain⟨v,o,b,d⟩:=I.cell x c e;obtain⟨m,⟨k,j,i,h,a,_⟩,_⟩:=I.loc;rw[z,h]at b;cases b;rw[a]at d;cases d
theorem Inv.Ϲ(I:Inv X f g H s):s.heap.FunFrames X.base X.outer:=by
 have c:∀(l:List Env),(∀b∈ϝ l,b∈X.fs)->X.s₀.heap.FunFrames X.base l->s.heap.FunFrames X.base l:=by
  intro l
  induction l with
  | nil=>intro _ _;trivial
  | cons env r ih=>
    intro i n;obtain⟨m,⟨L,o,d,q,j,p⟩,k⟩:=n;have a:L∈X.fs:=i L (by unfold ϝ;rw[iG,d];exact aK);obtain⟨t,e⟩:=I.base.slot L o j (I.ok.frf L a) a λz=>I.ok.X2 L z a;exact⟨m,⟨L,_,d,q,e,p⟩,ih (λb h=>i b (by unfold ϝ;rw[iG,d];exact aF _ h)) k⟩
 exact c X.outer (λ_ h=>h) I.ok.Ϲ
theorem Inv.stack(I:Inv X f g H s):s.heap.FunFrames X.base X.stack:=by
 rcases I.ok.stk with e|⟨e,b⟩
 .rw[e];exact I.Ϲ
 .rw[e];obtain⟨m,a,_⟩:=I.loc;refine .cons (by rw[I.ok.kind];decide) b a ?_ I.Ϲ;exact Heap.get?_none_of_le (aN I.ok.ZY I.ok.above)
theorem Inv.X3(I:Inv X f g H s):∀b∈ϝ X.stack,b∈X.env.locals::X.fs:=λb a=>by
 rcases I.ok.stk with e|⟨e,c⟩
 .rw[e]at a;exact aF _ a
 .rw[e]at a;unfold ϝ at a;rw[iG,c]at a;exact a
theorem Inv.iN(I:Inv X f g H s):∀b∈ϝ X.stack,H b=none:=λb hb=>by
 rcases aq.mp (I.X3 b hb)with e|hb
 .rw[e];exact I.free
 .obtain⟨_,o,ho,_⟩:=I.ok.Ϲ.mem hb;exact I.base.free b o ho (I.ok.frf b hb) λz=>I.ok.X2 b z hb
theorem Inv.step{g':Array GenState}{t':Nat}{d':Drawn}{ch:g8}(I:Inv X f g H s)(F:∀b∈ch,(b∈X.ex\/X.s₀.heap.objs.size<=b)/\b≠X.env.locals/\(∀x c,X.env.cells.lookup x=some c->c≠b)/\∀p∈X.pn++f,p.1≠b)(keep:∀b o,b≠X.env.locals->b∉X.fs->b∉ch->s.heap.get? b=some o->H b=none->h'.get? b=some o)(slot:∀b o,b≠X.env.locals->b∈X.fs->b∉ch->s.heap.get? b=some o->H b=none->∃M,h'.get? b=some { o with slots:=M })(free:∀b o,b∉ch->s.heap.get? b=some o->H b=none->B b=none)(there:∀b o,b∉ch->s.heap.get? b=some o->∃K,h'.get? b=some K)(iD:∀b A,H b=some (.tup A)->B b=some (.tup A))(ϸ:∀b o u,H b=some (.YX o u)->B b=some (.YX o u))(iF:∀b L,H b=some (.tbl L)->∃E,B b=some (.tbl (L++E)))(R:∀m,s.heap.Ns X.env.locals m->h'.Ns X.env.locals m)(V:ϧ X.prog X.w B h')(U:AllBare g'):Inv X f g B { s with heap:=h',gens:=g',drawn:=d',toks:=t' }:=by
 have G:∀b o,X.s₀.heap.get? b=some o->b≠X.env.locals:=λb o e=>aX (aY (aI e) I.ok.above);have y:∀b o,X.s₀.heap.get? b=some o->b∉X.ex->b∉ch:=λb o e a C=>by
  rcases(F b C).1 with z|z
  .exact a z
  .exact absurd (aY (aI e) z) (c7 _)
 have h:∀x c,X.env.cells.lookup x=some c->∀v,s.heap.IsCell c v->h'.IsCell c v:=λx c e v ⟨o,D,N⟩=>by
  have j:c∉ch:=λz=>(F c z).2.2.1 x c e rfl;by_cases Q:c∈X.fs
  .obtain⟨M,q⟩:=slot c o (I.cne x c e) Q j D (I.ϊ x c e);exact⟨_,q,N⟩
  .exact⟨o,keep c o (I.cne x c e) Q j D (I.ϊ x c e),N⟩
 refine⟨I.ok,I.os,U,⟨λb o e n C a=>?_,λb o e n C a=>?_,λb o e n a=>?_,λb o e a=>?_,λb A e=>iD b A (I.base.iD b A e),λb o A e=>ϸ b o A (I.base.ϸ b o A e),λb L e=>?_⟩,?_,λx c e=>?_,?_,λx c e=>?_,λp P=>?_,V,I.len⟩
 .exact keep b o (G b o e) C (y b o e a) (I.base.keep b o e n C a) (I.base.free b o e n a)
 .obtain⟨M,t⟩:=I.base.slot b o e n C a;obtain⟨O,J⟩:=slot b _ (G b o e) C (y b o e a) t (I.base.free b o e n a);exact⟨O,J⟩
 .obtain⟨K,t⟩:=I.base.there b o e a;exact free b K (y b o e a) t (I.base.free b o e n a)
 .obtain⟨K,t⟩:=I.base.there b o e a;exact there b K (y b o e a) t
 .obtain⟨m1,t⟩:=I.base.iF b L e;obtain⟨T,J⟩:=iF b _ t;exact⟨m1++T,by rw[J,Array.append_assoc]⟩
 .obtain⟨m,hn,hl⟩:=I.loc;refine⟨m,R m hn,λi x v t J S=>?_⟩;obtain⟨u,r,l⟩:=hl i x v t J S;refine⟨u,r,?_⟩;rcases l with l|⟨k,c,e,z⟩
  .exact .inl l
  .exact .inr ⟨k,c,e,h x c e _ z⟩
 .obtain⟨v,z⟩:=I.cell x c e;exact⟨v,h x c e v z⟩
 .obtain⟨m,⟨o,_,_,D,_⟩,_⟩:=I.loc;exact free _ o (λz=>(F _ z).2.1 rfl) D I.free
 .obtain⟨v,o,D,N⟩:=I.cell x c e;exact free c o (λz=>(F c z).2.2.1 x c e rfl) D (I.ϊ x c e)
 .obtain⟨e,n,ne,nf,d⟩:=I.pin p P;have j:p.1∉ch:=λz=>(F p.1 z).2.2.2 p P rfl;exact⟨keep p.1 p.2 ne nf j e n,free p.1 p.2 j e n,ne,nf,d⟩
theorem Inv.un{t':Nat}(I:Inv X f g H s)(u:Un X.fs [] H B s.heap h')(p:ϧ X.prog X.w B h'):Inv X f g B { s with heap:=h',toks:=t' }:=by
 obtain⟨m,⟨o,v,t,h,r⟩,_⟩:=id I.loc;obtain⟨q,j⟩:=u.any h I.free (by simp);exact I.step (g':=s.gens) (d':=s.drawn) (ch:=[]) (λ_ z=>nomatch z) (λb o _ c _ e n=>u.keep b o e n c (by simp)) (λb o _ c _ e n=>u.slot b o e n c (by simp)) (λb o _ e n=>u.free b o e n (by simp)) (λb o _ e=>u.there b o e (by simp)) u.iD u.ϸ u.iF (λx l=>by
  obtain⟨y,d,a,i,k⟩:=l;rw[h]at i;cases i;exact⟨_,d,a,j,k⟩) p I.bare
theorem Inv.call{g':Array GenState}{t':Nat}{d':Drawn}{ch:g8}(I:Inv X f g H s)(u:Un (ϝ X.stack) ch H B s.heap h')(A:ϧ X.prog X.w B h')(t:AllBare g')(j:∀b∈ch,(b∈X.ex\/X.s₀.heap.objs.size<=b)/\b≠X.env.locals/\(∀x c,X.env.cells.lookup x=some c->c≠b)/\∀p∈X.pn++f,p.1≠b):Inv X f g B { s with heap:=h',gens:=g',drawn:=d',toks:=t' }:=by
 obtain⟨m,⟨o,E,D,k,r⟩,_⟩:=id I.loc;obtain⟨C,d⟩:=u.any k I.free λz=>(j _ z).2.1 rfl;exact I.step (ch:=ch) j (λb o d y a e n=>u.keep b o e n (λz=>(aq.mp (I.X3 b z)).elim d y) a) (λb o _ _ a e n=>u.any e n a) (λb o a e n=>u.free b o e n a) (λb o a e=>u.there b o e a) u.iD u.ϸ u.iF (λF v=>by
  obtain⟨G,i,h,l,q⟩:=v;rw[k]at l;cases l;exact⟨_,i,h,d,q⟩) A t
theorem Inv.turned{t':Nat}{it:Addr}(I:Inv X f g H s)(k:∀b o,b≠it->s.heap.get? b=some o->h'.get? b=some o)(l:H it=none)(h:it≠X.env.locals)(j:it∈X.ex\/X.s₀.heap.objs.size<=it)(y:∀x c,X.env.cells.lookup x=some c->c≠it)(i:∀p∈X.pn++f,p.1≠it):Inv X f g H { s with heap:=h',toks:=t' }:=by
 have d:∀b u,H b=some u->b≠it:=λb u e z=>by rw[z,l]at e;cases e
 refine I.step (g':=s.gens) (d':=s.drawn) (ch:=[it]) (λb w=>?_) (λb o _ _ a e _=>k b o (λz=>a (by simp[z])) e) (λb o _ _ a e _=>⟨o.slots,k b o (λz=>a (by simp[z])) e⟩) (λ_ _ _ _ n=>n)
  (λb o a e=>⟨o,k b o (λz=>a (by simp[z])) e⟩) (λ_ _ e=>e) (λ_ _ _ e=>e) (λb A e=>⟨#[],by rw[e];simp⟩) (λm t=>?_) (λb u e=>?_) I.bare
 .have e:b=it:=by simpa using w
  subst e;exact⟨j,h,y,i⟩
 .obtain⟨o,es,ep,ho,r⟩:=t;exact⟨o,es,ep,k _ o (Ne.symm h) ho,r⟩
 .refine(I.χ b u e).gT (λc v a q=>k c v ?_ q) (λ_ q=>q) λ_ _ q=>q;rcases a with z|z
  .rw[z];exact d b u e
  .exact d c _ z
theorem Inv.tok(I:Inv X f g H s)(t:Nat):Inv X f g H { s with toks:=t }:=I.un (h':=s.heap) (t':=t) Un.refl I.χ
theorem Inv.kept{t':Nat}(I:Inv X f g H s)(k:∀b u,s.heap.get? b=some u->h'.get? b=some u):Inv X f g H { s with heap:=h',toks:=t' }:=I.un (Un.kept k) (I.χ.kept k)
theorem Inv.laid{a:Addr}{o:HO}{t':Nat}(I:Inv X f g H s)(k:∀b u,s.heap.get? b=some u->h'.get? b=some u)(c:s.heap.objs.size<=a)(d:Γ X.prog X.w (upd H a o) h' a o):Inv X f g (upd H a o) { s with heap:=h',toks:=t' }:=I.un (Un.laid k c (I.χ.fresh c)) (I.χ.laid k c d)
theorem Inv.write{x e:Addr}{o:HO}{i:Nat}(I:Inv X f g H s)(d:Mut (H x))(h:e=x\/H e=some (.own x))(k:∀b u,b≠e->s.heap.get? b=some u->h'.get? b=some u)(a:∃u,h'.get? e=some u)(c:Γ X.prog X.w (upd H x o) h' x o):Inv X f g (upd H x o) { s with heap:=h',toks:=i }:=I.un (Un.write d h k a) (I.χ.write d h k a c)
theorem Inv.Zc{a:gn}(I:Inv X f g H s)(h:∀p∈a,s.heap.get? p.1=some p.2/\H p.1=none/\p.1≠X.env.locals/\p.1∉X.fs/\∀v,p.2.data≠.cell v):Inv X a g H s:=⟨I.ok,I.os,I.bare,I.base,I.loc,I.cell,I.free,I.ϊ,λp b=>(aV.mp b).elim (λz=>I.pin p (bq _ z)) (h p),I.χ,I.len⟩
theorem FB{N:hL}(e:N.Nodup){i j:Nat}{x:Str}(a:N[i]?=some x)(b:N[j]?=some x):i=j:=by
 obtain⟨k,c⟩:=ar.mp a;obtain⟨h,d⟩:=ar.mp b;exact(List.getElem_inj e).mp (c.trans d.symm)
theorem Ep{M:Model}{A:Around}{E:f5}{i:Nat}{x:Str}{v:V}{u:Value}{Q:Unit->Shared->Prop}(I:Inv X f g H s)(hN:X.N.Nodup)(K:X.N[i]?=some x)(D:Loc X.env.scope x)(r:RelV v u)(h:∀W,Inv X f (g.set i (some v)) H W->(∃a,Heap.SameBut a s.heap W.heap/\(a=X.env.locals\/X.env.cells.lookup x=some a))->Q () W)(hf:X.fn x=true\/X.env.scope.names.lookup x=some .local:=by first|exact .inl rfl|exact .inr rfl|assumption):wpAny M A (storeName X.env x u) Q E s:=by
 obtain⟨m,hn,hl⟩:=id I.loc;have ae:(X.env.scope.kind==.class||(X.env.scope.kind==.module&&X.env.locals != X.env.globals))=false:=by rw[I.ok.kind];rfl
 have J:i<g.length:=by rw[I.len];exact(ar.mp K).1
 have cne:=I.cne;have C:∀{a:Addr}{h':Heap},(∃o,s.heap.get? a=some o/\H a=none)->Heap.SameBut a s.heap h'->ϧ X.prog X.w H h':=λ{a h'} ha l b ob e=>by
  obtain⟨_,_,Yr⟩:=ha;refine(I.χ b ob e).gT (λc O hc q=>(l.2 c ?_).trans q) (λ_ q=>q) λ_ _ q=>q;rintro rfl;rcases hc with rfl|hc
  .rw[Yr]at e;cases e
  .rw[Yr]at hc;cases hc
 rcases D with hk|hk
 .refine wpAny_storeName_local hk hn (λh' Y l=>?_) ae;obtain⟨oL,_,_,U,_⟩:=id hn;refine h _ ⟨I.ok,I.os,I.bare,⟨λb o e n G D=>?_,λb o e n G D=>?_,I.base.free,λb o e D=>?_,I.base.iD,I.base.ϸ,I.base.iF⟩,⟨_,Y,λj y R t F T=>?_⟩,λy c e=>?_,I.free,I.ϊ,λp S=>?_,C ⟨oL,U,I.free⟩ l,by simpa using I.len⟩ ⟨_,l,.inl rfl⟩
  .exact(l.2 b (aX (aY (aI e) I.ok.above))).trans (I.base.keep b o e n G D)
  .obtain⟨sl,t⟩:=I.base.slot b o e n G D;exact⟨sl,(l.2 b (aX (aY (aI e) I.ok.above))).trans t⟩
  .obtain⟨o',t⟩:=I.base.there b o e D;exact⟨o',(l.2 b (aX (aY (aI e) I.ok.above))).trans t⟩
  .by_cases hj:j=i
   .subst hj;rw[K]at t;cases t;rw[gG J]at F;cases F;exact⟨u,r,.inl ⟨hk,by simp⟩⟩
   .rw[dZ (Ne.symm hj)]at F;obtain⟨u',r',q⟩:=hl j y R t F T;refine⟨u',r',?_⟩;rcases q with⟨k,e⟩|⟨k,c,e,z⟩
    .refine .inl ⟨k,?_⟩;have:y≠x:=λe=>hj (FB hN t (e▸K));simp[this,e]
    .exact .inr ⟨k,c,e,z.sameBut l (cne y c e)⟩
  .obtain⟨O,z⟩:=I.cell y c e;exact⟨O,z.sameBut l (cne y c e)⟩
  .obtain⟨e,n,ne,nf,d⟩:=I.pin p S;exact⟨(l.2 p.1 ne).trans e,n,ne,nf,d⟩
 .have hfn:X.fn x=true:=by
   rcases hf with z|z
   .exact z
   .rw[z]at hk;cases hk
  obtain⟨c,hc⟩:=I.ok.has x (.inl hk);obtain⟨O,z⟩:=I.cell x c hc;refine wpAny_storeName_cell I.ok.kind hk hc z (λh' Zx l=>?_);obtain⟨oc,L,Z⟩:=id z;refine h { s with heap:=h' } ⟨I.ok,I.os,I.bare,⟨λb o e n G D=>?_,λb o e n G D=>?_,I.base.free,λb o e D=>?_,I.base.iD,I.base.ϸ,I.base.iF⟩,⟨m,hn.sameBut l (Ne.symm (cne x c hc)),λj y R t F T=>?_⟩,λy P e=>?_,I.free,I.ϊ,λp S=>?_,C ⟨oc,L,I.ϊ x c hc⟩ l,by simpa using I.len⟩ ⟨c,l,.inr hc⟩
  .exact(l.2 b (aX (aY (aI e) (I.ok.cab x c hfn hc)))).trans (I.base.keep b o e n G D)
  .obtain⟨sl,t⟩:=I.base.slot b o e n G D;exact⟨sl,(l.2 b (aX (aY (aI e) (I.ok.cab x c hfn hc)))).trans t⟩
  .obtain⟨o',t⟩:=I.base.there b o e D;exact⟨o',(l.2 b (aX (aY (aI e) (I.ok.cab x c hfn hc)))).trans t⟩
  .by_cases hj:j=i
   .subst hj;rw[K]at t;cases t;rw[gG J]at F;cases F;exact⟨u,r,.inr ⟨.inl hk,c,hc,Zx⟩⟩
   .rw[dZ (Ne.symm hj)]at F;obtain⟨u',r',q⟩:=hl j y R t F T;refine⟨u',r',?_⟩;rcases q with q|⟨k,P,e,z'⟩
    .exact .inl q
    .refine .inr ⟨k,P,e,z'.sameBut l ?_⟩;rintro rfl;exact hj (FB hN t (I.ok.inj _ _ _ e hc▸K))
  .by_cases hcc:P=c
   .subst hcc;exact⟨_,Zx⟩
   .obtain⟨w2,z2⟩:=I.cell y P e;exact⟨w2,z2.sameBut l hcc⟩
  .obtain⟨e,n,ne,nf,d⟩:=I.pin p S;refine⟨(l.2 p.1 ?_).trans e,n,ne,nf,d⟩;intro q;rw[q,L]at e;have q':oc=p.2:=br e;exact d O (by rw[<-q'];exact Z)
theorem Au{M:Model}{A:Around}{E:f5}{i:Nat}{x:Str}{v:V}{u:Value}{Q:Unit->Shared->Prop}(I:Inv X f g H s)(e:X.N.Nodup)(b:X.N[i]?=some x)(c:Loc X.env.scope x)(r:RelV v u)(h:∀a,Inv X f (g.set i (some v)) H a->Q () a)(d:X.fn x=true\/X.env.scope.names.lookup x=some .local:=by first|exact .inl rfl|exact .inr rfl|assumption):wpAny M A (storeName X.env x u) Q E s:=Ep I e b c r (λa j _=>h a j) d
theorem Inv.ZZ{s':Shared}{ch:g8}(I:Inv X f g H s)(a:s'.os=s.os)(u:Un (ϝ X.stack) ch H B s.heap s'.heap)(j:ϧ X.prog X.w B s'.heap)(i:AllBare s'.gens)(d:∀b∈ch,(b∈X.ex\/X.s₀.heap.objs.size<=b)/\b≠X.env.locals/\(∀x c,X.env.cells.lookup x=some c->c≠b)/\∀p∈X.pn++f,p.1≠b):Inv X f g B s':=by
 obtain⟨h',g',d',t',h⟩:=s';have e:h=s.os:=a;subst e;exact I.call (g':=g') (t':=t') (d':=d') u j i d
end
abbrev XK:=Value->Option Addr->Hp->Prop
abbrev St:=List (Option V)
abbrev VK:=V->Hp->Prop
abbrev TE:=St->Hp->VK->Prop
abbrev TT:=St->Hp->(Bool->Hp->Prop)->Prop
abbrev TA:=St->Hp->(List V->Hp->Prop)->Prop
structure Ends where
 nx:St->Hp->Prop
 rt:VK
 bk:St->Hp->Prop:=λ_ _=>False
 ct:St->Hp->Prop:=λ_ _=>False
abbrev TS:=Ends->St->Hp->Prop
def EP(X:Cx)(a:gn)(c:St)(Q:VK)(u:Value)(d:Shared):Prop:=∃v b,Inv X a c b d/\RelV v u/\Q v b
def TP(X:Cx)(a:gn)(d:St)(Q:Bool->Hp->Prop)(b:Bool)(e:Shared):Prop:=∃c,Inv X a d c e/\Q b c
def AP(X:Cx)(a:gn)(d:St)(Q:List V->Hp->Prop)(e:hD)(f:Shared):Prop:=∃b c,Inv X a d c f/\Vals b e/\Q b c
def SP(X:Cx)(b:gn)(D:Ends)(f:Flow)(d:Shared):Prop:=match f with
 | .next=>∃a c,Inv X b a c d/\D.nx a c
 | .brk=>∃a c,Inv X b a c d/\D.bk a c
 | .cont=>∃a c,Inv X b a c d/\D.ct a c
 | .ret u=>∃v a c,Inv X b a c d/\RelV v u/\D.rt v c
def PE(X:Cx)(e:Expr)(t:TE):Prop:=∀(a:gn)(s:Shared)(b:St)(H:Hp)(Q:VK),Inv X a b H s->t b H Q->wpAny (model X.prog X.w) X.A (eval e X.env) (EP X a b Q) X.xe s
def PT(X:Cx)(e:Expr)(t:TT):Prop:=∀(a:gn)(s:Shared)(b:St)(H:Hp)(Q:Bool->Hp->Prop),Inv X a b H s->t b H Q->wpAny (model X.prog X.w) X.A (isTrue e X.env (eval e X.env)) (TP X a b Q) X.xe s
def PW(X:Cx)(e:Expr)(t:TT):Prop:=∀(b:Sem Value)(a:gn)(s:Shared)(c:St)(H:Hp)(Q:Bool->Hp->Prop),Inv X a c H s->t c H Q->wpAny (model X.prog X.w) X.A (isTrue e X.env b) (TP X a c Q) X.xe s
theorem PW.pt{X:Cx}{e:Expr}{t:TT}(h:PW X e t):PT X e t:=h _
def PA(X:Cx)(d:List Expr)(t:TA):Prop:=∀(b:Pos)(a:gn)(s:Shared)(c:St)(H:Hp)(Q:List V->Hp->Prop),Inv X a c H s->t c H Q->wpAny (model X.prog X.w) X.A (spliced (backTo b (starEach d X.env))) (AP X a c Q) X.xe s
def PS(X:Cx)(st:Stmt)(t:TS):Prop:=∀(a:gn)(s:Shared)(b:St)(H:Hp)(D:Ends),Inv X a b H s->t D b H->wpAny (model X.prog X.w) X.A (exec st X.env) (SP X a D) X.xe s
def YS(X:Cx)(st:List Stmt)(t:TS):Prop:=∀(a:gn)(s:Shared)(b:St)(H:Hp)(D:Ends),Inv X a b H s->t D b H->wpAny (model X.prog X.w) X.A (execs st X.env) (SP X a D) X.xe s
theorem ϋ{b:Type}{t:Sem b}{Q c:b->Shared->Prop}{M:Model}{A:Around}{E:f5}{s:Shared}(h:wpAny M A t Q E s)(d:∀a s,Q a s->c a s):wpAny M A t c E s:=cV h d λ_ _ x=>x
theorem dX{t:Sem Value}{X:Cx}{a:gn}{b:St}{Q:VK}{c:f5}{M:Model}{A:Around}{E:f5}{s:Shared}(h:wpAny M A t (EP X a b Q) E s)(d:∀u s v H,Inv X a b H s->RelV v u->Q v H->c u s):wpAny M A t c E s:=ϋ h λu s ⟨v,H,I,r,q⟩=>d u s v H I r q
theorem uP{t:Sem (List Value)}{X:Cx}{a:gn}{b:St}{Q:List V->Hp->Prop}{c:List Value->Shared->Prop}{M:Model}{A:Around}{E:f5}{s:Shared}(h:wpAny M A t (AP X a b Q) E s)(d:∀u s v H,Inv X a b H s->Vals v u->Q v H->c u s):wpAny M A t c E s:=ϋ h λu s ⟨v,H,I,r,q⟩=>d u s v H I r q
theorem CV{t:Sem Bool}{X:Cx}{a:gn}{b:St}{Q:Bool->Hp->Prop}{c:Bool->Shared->Prop}{M:Model}{A:Around}{E:f5}{s:Shared}(h:wpAny M A t (TP X a b Q) E s)(d:∀u s H,Inv X a b H s->Q u H->c u s):wpAny M A t c E s:=ϋ h λu s ⟨H,I,q⟩=>d u s H I q
section
variable{X:Cx}
def xZ(i:Nat):TE:=λa H Q=>∃v,a[i]?=some (some v)/\Q v H
def tC(v:V):TE:=λ_ H Q=>Q v H
theorem Gi{i:Nat}{x:Str}{d:Pos}(p:X.N[i]?=some x)(k:Vis X.env.scope x)(f:(x==("__debug__":Str))=false:=by decide)(j:(x==("__classdict__":Str))=false:=by decide):PE X (.Name x d) (xZ i):=by
 intro b s g H Q I h;obtain⟨v,e,h⟩:=h;obtain⟨m,o,n⟩:=I.loc;obtain⟨u,r,l⟩:=n i x v p e k;have a:EP X b g Q u s:=⟨v,H,I,r,h⟩;rcases l with⟨hk,hm⟩|⟨hk,c,hc,ϴ⟩
 .exact wpAny_Name (wpAny_loadName_local I.ok.kind hk o hm a) f
 .rcases hk with hk|hk
  .exact wpAny_Name (wpAny_loadName_cell I.ok.kind hk hc ϴ a) f
  .exact wpAny_Name (wpAny_loadName_free I.ok.kind hk hc ϴ a j) f
theorem aL{i j pos}:PE X (.Constant (.int i) j pos) (tC (.int i)):=λ_ _ _ H _ I h=>wpAny_Constant_int ⟨.int i,H,I.tok _,⟨_,rfl⟩,h⟩
theorem qz{b j pos}:PE X (.Constant (.bool b) j pos) (tC (.bl b)):=λ_ _ _ H _ I h=>Constant_bool ⟨.bl b,H,I,rfl,h⟩
theorem B9{j pos}:PE X (.Constant .none j pos) (tC .π):=λ_ _ _ H _ I h=>Constant_none ⟨.π,H,I,rfl,h⟩
theorem nO{x j pos}:PE X (.Constant (.str x) j pos) (tC (.str x)):=λ_ _ _ H _ I h=>Calls.Constant_str ⟨.str x,H,I.tok _,⟨_,rfl⟩,h⟩
def Gl(X:Cx)(x:Str):Prop:=X.env.kindOf x=some .globalImplicit
theorem sY{E:f5}{a:gn}{s:Shared}{c:St}{H:Hp}{x:Str}{u:Value}{b:Pos}{Q:f5}(I:Inv X a c H s)(f:Gl X x)(d:X.mg x=some u)(h:Q u s)(e:(x==("__debug__":Str))=false:=by decide):wpAny (model X.prog X.w) X.A (eval (.Name x b) X.env) Q E s:=kI I.ok.kind f (Calls.loadGlobal_global (by rw[I.ok.glob];exact I.mod.glob.keeps I.bk) d h) e
theorem pG{E:f5}{a:gn}{s:Shared}{c:St}{H:Hp}{x:Str}{u:Value}{b:Pos}{Q:f5}(I:Inv X a c H s)(i:Gl X x)(j:X.mg x=none)(e:bootBuiltins x=some u)(h:Q u s)(g:x≠"__name__":=by decide)(f:(x==("__debug__":Str))=false:=by decide):wpAny (model X.prog X.w) X.A (eval (.Name x b) X.env) Q E s:=by
 obtain⟨l,d,k⟩:=I.mod.blt;exact kI I.ok.kind i (Calls.loadGlobal_builtin (by rw[I.ok.glob];exact I.mod.glob.keeps I.bk) j (by rw[I.ok.blt];exact d.keeps I.bk) ((k x g).trans e) h) f
theorem RC{x:Str}{v:V}{u:Value}{a:Pos}(d:Gl X x)(b:X.mg x=some u)(r:RelV v u)(c:(x==("__debug__":Str))=false:=by decide):PE X (.Name x a) (tC v):=λ_ _ _ H _ I h=>sY I d b ⟨v,H,I,r,h⟩ c
theorem DJ{x:Str}{v:V}{u:Value}{a:Pos}(d:Gl X x)(b:X.mg x=none)(c:bootBuiltins x=some u)(r:RelV v u)(hn:x≠"__name__":=by decide)(hd:(x==("__debug__":Str))=false:=by decide):PE X (.Name x a) (tC v):=λ_ _ _ H _ I h=>pG I d b c ⟨v,H,I,r,h⟩ hn hd
variable{a b:Expr}{g o:TE}{pos:Pos}
def PC(X:Cx)(h:CmpOp)(a b:Expr)(t:TE):Prop:=∀(c:gn)(s:Shared)(f:St)(H:Hp)(Q:VK),Inv X c f H s->t f H Q->wpAny (model X.prog X.w) X.A (eval a X.env) (λv d=>wpAny (model X.prog X.w) X.A (eval b X.env) (λu e=>wpAny (model X.prog X.w) X.A (compareOp h v u) (EP X c f Q) X.xe e) X.xe d) X.xe s
theorem QM(b:Expr){c:CmpOp}(h:c≠.In)(f:c≠.NotIn):behindInMarks c b=false:=by
 have d:(c==CmpOp.In)=false:=by cases c<;>first|rfl|exact absurd rfl h
 have e:(c==CmpOp.NotIn)=false:=by cases c<;>first|rfl|exact absurd rfl f
 cases b<;>simp[behindInMarks,d,e]
def Lp(g:TE):TE:=λc H Q=>g c H λx d=>Q (.bl (!decide (x=.π))) d
theorem RelV.Z0{x:V}{v:Value}(r:RelV x v):(v==Value.none)=decide (x=.π):=by
 cases x with
 | π=>cases r;rfl
 | bl _=>cases r;rfl
 | int _=>obtain⟨t,rfl⟩:=r;rfl
 | str _=>obtain⟨t,rfl⟩:=r;rfl
 | YW _=>obtain⟨t,rfl⟩:=r;rfl
 | flt _=>obtain⟨t,rfl⟩:=r;rfl
 | ref _=>cases r;rfl
 | ty _=>cases r;rfl
theorem JU{j pos'}(ha:PE X a g):PC X .IsNot a (.Constant .none j pos') (Lp g):=by
 intro c s e H Q I h;refine dX (ha c s e H _ I h) λv l x k f d i=>?_;exact Constant_none (isnot_none_gen ⟨.bl _,k,f,by rw[d.Z0];rfl,i⟩)
def tB(t:TE):TT:=λd H Q=>t d H λx e=>∃c,x=.bl c/\Q c e
theorem Ce{f:CmpOp}{t:TE}(h:PC X f a b t)(i:behindInMarks f b=false:=by first|exact QM _ (by decide) (by decide)|rfl):PT X (.Compare a [f] [b] pos) (tB t):=by
 intro e s l H Q I n;refine wpAny_isTrue_Compare1 (ϋ (h e s l H _ I n) λv w i=>ϋ i λu y r=>ϋ r λc z ⟨x,j,m,k,p⟩=>?_) i;obtain⟨d,rfl,q⟩:=p;cases k;exact dc ⟨j,m,q⟩
theorem mE{e:Expr}{t:TE}(h:PE X e t)(i:∀c,isTrue e X.env c=(do let v <-c;standAt e.pos;holding [v] (truthy v)):=by intro _;rfl):PT X e (tB t):=by
 intro f s l H Q I n;refine isTrue_plain (dX (h f s l H _ I n) λv r x j m k p=>?_) (i _);obtain⟨d,rfl,q⟩:=p;cases k;exact dc ⟨j,m,q⟩
variable{k n:TT}{f:List Expr}
def OX(t u:TT):TT:=λd H Q=>t d H λc e=>if c=true then u d e Q else Q false e
def tOr(t u:TT):TT:=λd H Q=>t d H λc e=>if c=true then Q true e else u d e Q
def OI(t:TT):TT:=λd H Q=>t d H λc e=>Q (!c) e
theorem Dq(j:PT X a k):PW X (.BoolOp .And [a] pos) k:=by
 intro m d s i H Q I h;refine isTrue_and (ϋ (j d s i H Q I h) λc l e=>?_);cases c with
 | true=>exact isTrue_and_nil e
 | false=>exact e
theorem ye(j:PT X a k):PW X (.BoolOp .Or [a] pos) k:=by
 intro m d s i H Q I h;refine isTrue_or (ϋ (j d s i H Q I h) λc l e=>?_);cases c with
 | false=>exact isTrue_or_nil e
 | true=>exact e
theorem GN(q:PT X a k)(p:PW X (.BoolOp .And (b::f) pos) n):PW X (.BoolOp .And (a::b::f) pos) (OX k n):=by
 intro r d s e H Q I h;refine isTrue_and (CV (q d s e H _ I h) λc m l i j=>?_);cases c with
 | true=>exact p r d m e l Q i j
 | false=>exact⟨l,i,j⟩
theorem wK(q:PT X a k)(p:PW X (.BoolOp .Or (b::f) pos) n):PW X (.BoolOp .Or (a::b::f) pos) (tOr k n):=by
 intro r d s e H Q I h;refine isTrue_or (CV (q d s e H _ I h) λc m l i j=>?_);cases c with
 | true=>exact⟨l,i,j⟩
 | false=>exact p r d m e l Q i j
theorem kK(i:PT X a k):PT X (.UnaryOp .Not a pos) (OI k):=by
 intro d s e H Q I h;exact isTrue_not (i d s e H (λc j=>Q (!c) j) I h)
def Lu(g o:TE):TE:=λd H Q=>g d H λx e=>∃c,x=.bl c/\if c=true then o d e Q else Q (.bl false) e
def Lj(g:TE):TE:=λd H Q=>g d H λx e=>∃c,x=.bl c/\Q (.bl (!c)) e
theorem vg{op}{t:TE}(h:PE X a t):PE X (.BoolOp op [a] pos) t:=λc s d H Q I e=>BoolOp_one (h c s d H Q I e)
theorem vo(r:PE X a g)(q:PE X (.BoolOp .And (b::f) pos) o):PE X (.BoolOp .And (a::b::f) pos) (Lu g o):=by
 intro d s i H Q I h;refine BoolOp_and (dX (r d s i H _ I h) λv p x l j m e=>?_);obtain⟨c,rfl,e⟩:=e;cases m;refine dc ?_;cases c with
 | true=>exact q d p i l Q j e
 | false=>exact⟨.bl false,l,j,rfl,e⟩
theorem UQ(m:PE X a g):PE X (.UnaryOp .Not a pos) (Lj g):=by
 intro d s j H Q I h;refine UnaryOp_ (dX (m d s j H _ I h) λv q x p l i e=>?_);obtain⟨c,rfl,e⟩:=e;cases i;exact not_of (dc ⟨.bl (!c),p,l,rfl,e⟩)
end
def μ(K:gh)(H:Hp)(a:Addr)(xs:List V):Prop:=Rd H a (.lst xs)\/∃(o:Obj)(b:Array Value)(n:Nat),K.lookup a=some o/\o.cls=.type "list"/\o.dict=none/\o.data=.seq b n/\b.size<=sizeLine/\Vals xs b.toList
def Ι(K:gh)(H:Hp)(a:Addr)(xs:List V):Prop:=Rd H a (.tup xs)\/∃(o:Obj)(b:Array Value)(n:Nat),K.lookup a=some o/\o.cls=.type "tuple"/\o.data=.seq b n/\b.size<=sizeLine/\Vals xs b.toList
def WJ:Value->Option V
 | .none=>some .π
 | .bool b=>some (.bl b)
 | .int i _=>some (.int i)
 | .str x _=>some (.str x)
 | .bytes b _=>some (.YW b)
 | .float b _=>some (.flt b)
 | .ref a=>some (.ref a)
 | .type n=>some (.ty n)
 | _=>none
theorem RelV.abs{x:V}{u:Value}(r:RelV x u):WJ u=some x:=by
 cases x with
 | π=>cases r;rfl
 | bl _=>cases r;rfl
 | int _=>obtain⟨t,rfl⟩:=r;rfl
 | str _=>obtain⟨t,rfl⟩:=r;rfl
 | YW _=>obtain⟨t,rfl⟩:=r;rfl
 | flt _=>obtain⟨t,rfl⟩:=r;rfl
 | ref _=>cases r;rfl
 | ty _=>cases r;rfl
theorem RelV.inj{x y:V}{u:Value}(r:RelV x u)(q:RelV y u):x=y:=br (r.abs.symm.trans q.abs)
theorem Vals.inj{d a:List V}{b:hD}(h:Vals d b)(c:Vals a b):d=a:=by
 induction h generalizing a with
 | nil=>cases c;rfl
 | cons r _ ih=>cases c with|cons r2 t2=>rw[r.inj r2,ih t2]
section
variable{X:Cx}{b:gn}{c:St}{H:Hp}{s:Shared}{a:Addr}{xs f:List V}
theorem μ.of{K:gh}(h:H a=some (.lst xs)):μ K H a xs:=.inl (.inl h)
theorem Ι.of{K:gh}(h:H a=some (.tup xs)):Ι K H a xs:=.inl (.inl h)
theorem Inv.list(I:Inv X b c H s)(h:μ X.K H a xs):∃d:List Value,Vals xs d/\PlainL s.heap a d.toArray/\xs.length<=sizeLine:=by
 rcases h with h|⟨o,d,n,j,g,hd,i,k,r⟩
 .obtain⟨z,d,n,r,e⟩:=h.ok I.χ;exact⟨d,r,⟨_,n,e,rfl,rfl,rfl⟩,z⟩
 .refine⟨d.toList,r,⟨o,n,I.Rw a o j,g,hd,by simpa using i⟩,?_⟩;have e:=r.length;simp only[nP]at e
  lia
theorem Inv.tuple(I:Inv X b c H s)(h:Ι X.K H a xs):∃d:List Value,Vals xs d/\IsTup s.heap a d.toArray/\xs.length<=sizeLine:=by
 rcases h with h|⟨o,d,n,j,g,i,k,r⟩
 .obtain⟨z,d,r,p⟩:=h.ok I.χ;exact⟨d,r,p,z⟩
 .refine⟨d.toList,r,⟨o,I.Rw a o j,g,n,by simpa using i⟩,?_⟩;have e:=r.length;simp only[nP]at e
  lia
theorem Inv.iO(I:Inv X b c H s)(h:μ X.K H a xs)(m:μ X.K H a f):xs=f:=by
 obtain⟨i,r,⟨o,n,e,_,_,d⟩,_⟩:=I.list h;obtain⟨g,l,⟨q,p,k,_,_,j⟩,_⟩:=I.list m;rw[e]at k;cases k;rw[d]at j;injection j with d1 _
 have:i=g:=by simpa using congrArg Array.toList d1
 subst this;exact r.inj l
theorem Inv.XM(I:Inv X b c H s)(h:Ι X.K H a xs)(m:Ι X.K H a f):xs=f:=by
 obtain⟨i,r,⟨o,e,_,n,d⟩,_⟩:=I.tuple h;obtain⟨g,l,⟨q,k,_,p,j⟩,_⟩:=I.tuple m;rw[e]at k;cases k;rw[d]at j;injection j with d1 _
 have:i=g:=by simpa using congrArg Array.toList d1
 subst this;exact r.inj l
end
abbrev Cx.RW(X:Cx)(E:f5):Cx:={ X with xe:=E }
abbrev Cx.nox(X:Cx):Cx:=X.RW λ_ _=>False
theorem Cx.Ok.RW{X:Cx}(a:X.Ok)(E:f5):(X.RW E).Ok:=⟨a.mod,a.kind,a.glob,a.blt,a.above,a.inj,a.has,a.cab,a.hd,a.frames,a.stk,a.exf,a.bs,a.ZY,a.Yp,a.X2,a.Ϲ,a.frf⟩
theorem Cx.Ok.ύ{X:Cx}{E:f5}(a:(X.RW E).Ok):X.Ok:=⟨a.mod,a.kind,a.glob,a.blt,a.above,a.inj,a.has,a.cab,a.hd,a.frames,a.stk,a.exf,a.bs,a.ZY,a.Yp,a.X2,a.Ϲ,a.frf⟩
section
variable{X:Cx}{a:gn}{b:St}{H:Hp}{s:Shared}{E:f5}
theorem Inv.RW(I:Inv X a b H s)(E:f5):Inv (X.RW E) a b H s:=⟨I.ok.RW E,I.os,I.bare,I.base,I.loc,I.cell,I.free,I.ϊ,I.pin,I.χ,I.len⟩
theorem Inv.ύ(I:Inv (X.RW E) a b H s):Inv X a b H s:=⟨I.ok.ύ,I.os,I.bare,I.base,I.loc,I.cell,I.free,I.ϊ,I.pin,I.χ,I.len⟩
theorem SP.ύ{D:Ends}{f:Flow}{e:Shared}(h:SP (X.RW E) a D f e):SP X a D f e:=by
 cases f with
 | next=>obtain⟨c,d,I,q⟩:=h;exact⟨c,d,I.ύ,q⟩
 | brk=>obtain⟨c,d,I,q⟩:=h;exact⟨c,d,I.ύ,q⟩
 | cont=>obtain⟨c,d,I,q⟩:=h;exact⟨c,d,I.ύ,q⟩
 | ret u=>obtain⟨v,c,d,I,r,q⟩:=h;exact⟨v,c,d,I.ύ,r,q⟩
theorem YS.nox{st:List Stmt}{t:TS}(h:YS X.nox st t):YS X st t:=λa s b H D I c=>
 cV (h a s b H D (I.RW _) c) (λ_ _ q=>q.ύ) λ_ _ z=>False.elim z
end
section
variable{X:Cx}{k:Stmt}{j:List Stmt}{t u:TS}{e:Expr}{i:TE}{g:Pos}
def Z1:TS:=λD a H=>D.nx a H
def KC(t u:TS):TS:=λD a H=>t { D with nx:=u D } a H
theorem cN:YS X [] Z1:=λ_ _ a H _ I h=>fY ⟨a,H,I,h⟩
theorem ap(o:PS X k t)(m:YS X j u):YS X (k::j) (KC t u):=by
 intro a s c H D I h;refine kW (ϋ (o a s c H { D with nx:=u D } I h) λf d q=>?_);cases f with
 | next=>
   obtain⟨b,l,n,q⟩:=q;exact m a d b l D n q
 | ret v=>exact q
 | brk=>exact q
 | cont=>exact q
theorem aM(c:PS X k t):YS X [k] t:=by
 intro a s b H D I h;refine kW (ϋ (c a s b H D I h) λf d q=>?_);cases f with
 | next=>exact fY q
 | ret v=>exact q
 | brk=>exact q
 | cont=>exact q
theorem Inv.quiet{a:gn}{b:St}{H:Hp}{s:Shared}(I:Inv X a b H s):interactive X.env=false:=by simp[interactive,I.ok.kind]
def K4(i:TE):TS:=λD a H=>i a H λ_ b=>D.nx a b
theorem dI(f:PE X e i)(l:swapsWith e none g.line X.env=pure false:=by rfl):PS X (.Expr e g) (K4 i):=by
 intro a s b H D I h;exact wpAny_Expr_any (dX (f a s b H _ I h) λv o x m c n d=>⟨b,m,c,d⟩) I.quiet l
def NZ(i:TE):TS:=λD a H=>i a H D.rt
theorem bL(l:PE X e i):PS X (.Return (some e) g) (NZ i):=by
 intro a s b H D I h;exact wpAny_Return_some (dX (l a s b H _ I h) λv n x m d c f=>⟨x,b,m,d,c,f⟩)
def OD(c:TT)(t u:TS):TS:=λD a H=>c a H λb d=>if b=true then t D a d else u D a d
theorem dG{c:Expr}{a b:List Stmt}{p:TT}(r:PT X c p)(v:YS X a t)(w:YS X b u):PS X (.If c a b g) (OD p t u):=by
 intro f s l H D I h;refine wpAny_If (CV (r f s l H _ I h) λd m n o q=>?_);cases d with
 | true=>exact v f m l n D o q
 | false=>exact w f m l n D o q
def Z2:TS:=λ_ _ _=>False
theorem rj:PS X k Z2:=λ_ _ _ _ _ _ h=>h.elim
end
abbrev TG:=V->St->Hp->(St->Hp->Prop)->Prop
abbrev TGs:=List V->St->Hp->(St->Hp->Prop)->Prop
def PG(X:Cx)(a:Expr)(t:TG):Prop:=∀(b:gn)(s:Shared)(d:St)(H:Hp)(v:V)(u:Value)(Q:St->Hp->Prop),Inv X b d H s->RelV v u->t v d H Q->wpAny (model X.prog X.w) X.A (assign a X.env u) (λ_ f=>∃c e,Inv X b c e f/\Q c e) X.xe s
def PGs(X:Cx)(g:List Expr)(t:TGs):Prop:=∀(a:gn)(s:Shared)(c:St)(H:Hp)(d:List V)(e:hD)(Q:St->Hp->Prop),Inv X a c H s->Vals d e->t d c H Q->wpAny (model X.prog X.w) X.A (assignInOrder ((assignEach g X.env).map (·.2)) e) (λ_ h=>∃b f,Inv X a b f h/\Q b f) X.xe s
abbrev GF:=V->V->V->Hp->(Hp->Prop)->Prop
def Op(X:Cx)(t:GF):Prop:=∀(a:gn)(s:Shared)(b:St)(H:Hp)(o i v:V)(d e u:Value)(Q:Hp->Prop),Inv X a b H s->RelV o d->RelV i e->RelV v u->t o i v H Q->wpAny (model X.prog X.w) X.A (setItem d e u) (λ_ f=>∃c,Inv X a b c f/\Q c) X.xe s
abbrev TIp:=V->V->Hp->VK->Prop
def PIp(X:Cx)(c:Operator)(t:TIp):Prop:=∀(a:gn)(s:Shared)(b:St)(H:Hp)(x y:V)(v u:Value)(Q:VK),Inv X a b H s->RelV x v->RelV y u->t x y H Q->wpAny (model X.prog X.w) X.A (inplaceOp c v u) (EP X a b Q) X.xe s
section
variable{X:Cx}{d:Pos}
def ww(i:Nat):TG:=λv a H Q=>Q (a.set i (some v)) H
theorem fe{i:Nat}{x:Str}(c:X.N.Nodup)(f:X.N[i]?=some x)(b:Loc X.env.scope x)(g:X.fn x=true\/X.env.scope.names.lookup x=some .local:=by first|exact .inl rfl|exact .inr rfl|assumption):PG X (.Name x d) (ww i):=by
 intro a s j H v u Q I r h;exact wpAny_assign_Name (Au I c f b r (λk e=>⟨_,H,e,h⟩) g)
def aco:TGs:=λa b H Q=>a=[]/\Q b H
def Lk(t:TG)(u:TGs):TGs:=λb c H Q=>∃v r,b=v::r/\t v c H λa e=>u r a e Q
theorem iA:PGs X [] aco:=by
 intro a s b H c f Q I r h;obtain⟨e,h⟩:=h;subst e;cases r;exact assignInOrder_nil ⟨b,H,I,h⟩
theorem cG{e:Expr}{b:List Expr}{t:TG}{u:TGs}(l:PG X e t)(o:PGs X b u)(m:(assignEach (e::b) X.env).map (·.2)=assign e X.env::(assignEach b X.env).map (·.2):=by rfl):PGs X (e::b) (Lk t u):=by
 intro a s j H q w Q I r h;obtain⟨v,p,g,h⟩:=h;subst g;cases r with
 | cons r rr=>
   rw[m];refine assignInOrder_cons (ϋ (l a s j H _ _ _ I r h) λ_ f ⟨c,i,k,n⟩=>?_);exact o a f c i _ _ Q k rr n
def Kq(K:gh)(n:Nat)(t:TGs):TG:=λv c H Q=>∃a b,v=.ref a/\Ι K H a b/\b.length=n/\t b c H Q
theorem j0{f:List Expr}{k:Nat}{t:TGs}{n:Nat}(x:X.calm=true)(h:PGs X f t)(C:(assignEach f X.env).length=n:=by rfl)(i:(assignEach f X.env).findIdx? (·.1)=none:=by rfl):PG X (.Tuple f k d) (Kq X.K n t):=by
 intro c s j H v u Q I r g;obtain⟨a,p,m,q,z,g⟩:=g;subst m;cases r;obtain⟨A,l,D,E⟩:=I.tuple q;refine assign_Tuple_tuple (I.ok.hd x) D (by simp[C,<-z,l.length]) i λB y=>?_;have w:Inv X c j H { s with heap:=B }:=I.kept (t':=s.toks) λb o e=>y b o (aX (aI e)) e;exact h c _ j H p _ Q w (by simpa using l) g
def NY(g b:TE)(t:GF):TG:=λv a H Q=>g a H λo e=>b a e λi f=>t o i v f λc=>Q a c
theorem ow{o i:Expr}{g f:TE}{t:GF}(l:PE X o g)(F:PE X i f)(B:Op X t)(A:∀v,assign (.Subscript o i d) X.env v=(do
 let b <-holding [v] (eval o X.env)
 let c <-holding [v,b] (eval i X.env)
 standAt d
 holding [v,b,c] (setItem b c v)
 release [v,b,c] []):=by intro _;rfl):PG X (.Subscript o i d) (NY g f t):=by
 intro a s e H v u Q I r h;rw[A];refine ak (ko (dX (l a s e H _ I h) λb j x k n m G=>?_));refine ak (ko (dX (F a j e k _ n G) λc E y D z J p=>?_));refine ak (kj (ak (ko (ϋ (B a E e D x y v b c u _ z m J r p) λ_ K ⟨C,w,q⟩=>?_))));exact wpAny_release ⟨e,C,w,q⟩
def CL(b:TE)(g:TG):TS:=λD a H=>b a H λx c=>g x a c D.nx
theorem mw{b e:Expr}{c:TE}{g:TG}(j:PE X e c)(r:PG X b g)(p:swapsWithSole [b] e d.line X.env=pure false:=by rfl)(m:swappedStores [b] e X.env=pure none:=by rfl)(o:(assignEach [b] X.env).map (·.2)=[assign b X.env]:=by rfl):PS X (.Assign [b] e d) (CL c g):=by
 intro a s f H D I h;refine wpAny_Assign_stores (dX (j a s f H _ I h) λv i x k n l t=>?_) p m;rw[o];exact ϋ (r a i f k x v _ n l t) λ_ u q=>q
theorem t7{i:Nat}{x:Str}{e:Expr}{c:TE}{a:Pos}(t:X.N.Nodup)(q:X.N[i]?=some x)(m:Loc X.env.scope x)(f:PE X e c)(p:swapsWith e (some (.Name x a)) d.line X.env=pure false:=by rfl)(n:X.fn x=true\/X.env.scope.names.lookup x=some .local:=by first|exact .inl rfl|exact .inr rfl|assumption):PS X (.Assign [.Name x a] e d) (CL c (ww i)):=by
 intro b s k H D I h;refine wpAny_Assign_Name (dX (f b s k H _ I h) λv u y g l j r=>?_) p;exact Au l t q m j (λw o=>⟨_,g,o,r⟩) n
def NH(i:Nat)(b:TE)(c:TIp):TS:=λD a H=>∃x,a[i]?=some (some x)/\b a H λy e=>c x y e λz f=>D.nx (a.set i (some z)) f
theorem tH{i:Nat}{x:Str}{e:Expr}{p:TE}{j:Operator}{q:TIp}{f:Pos}(W:X.N.Nodup)(C:X.N[i]?=some x)(n:Loc X.env.scope x)(G:PE X e p)(K:PIp X j q)(P:X.fn x=true\/X.env.scope.names.lookup x=some .local:=by first|exact .inl rfl|exact .inr rfl|assumption):PS X (.AugAssign (.Name x f) j e d) (NH i p q):=by
 intro a s B H D I h;obtain⟨v,F,h⟩:=h;obtain⟨m,U,S⟩:=I.loc;have o:Vis X.env.scope x:=by rcases n with k|k;exact .inl k;exact .inr (.inl k)
 obtain⟨u,r,l⟩:=S i x v C F o;refine wpAny_AugAssign_Name ?_;have t:wpAny (model X.prog X.w) X.A (eval e X.env) (λw b=>wpAny (model X.prog X.w) X.A (inplaceOp j u w) (λr g=>wpAny (model X.prog X.w) X.A (storeName X.env x r) (λ_=>SP X a D .next) X.xe g) X.xe b) X.xe s:=by
  refine ϋ (G a s B H _ I h) λw E ⟨y,J,M,L,V⟩=>?_;refine ϋ (K a E B J v y u w _ M r L V) λz s2 ⟨Z,T,R,Y,O⟩=>?_;exact Au R W C n Y (λs3 Q=>⟨_,T,Q,O⟩) P
 rcases l with⟨hk,hm⟩|⟨hk,c,hc,ϴ⟩
 .exact wpAny_loadName_local I.ok.kind hk U hm t
 .rcases hk with hk|hk
  .exact wpAny_loadName_cell I.ok.kind hk hc ϴ t
  .rcases n with k|k
   .have:X.env.scope.names.lookup x=some .free:=hk;rw[k]at this;cases this
   .have:X.env.scope.names.lookup x=some .free:=hk;rw[k]at this;cases this
def Kp(j g f:TE)(e:V->V->Hp->VK->Prop)(c:TIp)(b:GF):TS:=λD a H=>j a H λo h=>g a h λi m=>e o i m λx l=>f a l λy k=>c x y k λz p=>b o i z p λn=>D.nx a n
def Uk(X:Cx)(t:V->V->Hp->VK->Prop):Prop:=∀(a:gn)(s:Shared)(b:St)(H:Hp)(o i:V)(c e:Value)(Q:VK),Inv X a b H s->RelV o c->RelV i e->t o i H Q->wpAny (model X.prog X.w) X.A (getItem c e) (EP X a b Q) X.xe s
theorem Si{o i e:Expr}{t p n:TE}{l:V->V->Hp->VK->Prop}{k:TIp}{j:GF}{w:Operator}{y:Pos}(F:PE X o t)(hi:PE X i p)(hg:Uk X l)(C:PE X e n)(z:PIp X w k)(Y:Op X j)(U:∀c g b,augStore i c g b=(do holding [b,c,g] (setItem c g b);release [b,c,g] [];pure .next):=by intros;rfl):PS X (.AugAssign (.Subscript o i y) w e d) (Kp t p n l k j):=by
 intro a s f H D I h;refine wpAny_AugAssign_SubscriptAny (dX (F a s f H _ I h) λc A q E J u q1=>?_) U;refine dX (hi a A f E _ J q1) λg s2 r H2 S x K=>?_;refine ϋ (hg a s2 f H2 q r c g _ S u x K) λm s3 ⟨x3,H3,P,r3,N⟩=>?_;refine dX (C a s3 f H3 _ P N) λv O x4 T M r4 R=>?_;refine ϋ (z a O f T x3 x4 m v _ M r3 r4 R) λb G ⟨Z,H5,W,L,q5⟩=>?_;exact ϋ (Y a G f H5 q r Z c g b _ W u x L q5) λ_ s6 ⟨H6,Q,B⟩=>⟨f,H6,Q,B⟩
def ipI(f:hR):TIp:=λx y H Q=>∃i j,x=.int i/\y=.int j/\Q (.int (f i j)) H
theorem xU:PIp X .Add (ipI λi j=>i+j):=by
 intro a s g H x y v u Q I c f h;obtain⟨i,j,b,e,q⟩:=h;subst b;subst e;obtain⟨t,rfl⟩:=c;obtain⟨k,rfl⟩:=f;exact iadd_int ⟨.int _,H,I.tok _,⟨_,rfl⟩,q⟩
theorem Gs:PIp X .Sub (ipI λi j=>i-j):=by
 intro a s g H x y v u Q I c f h;obtain⟨i,j,b,e,q⟩:=h;subst b;subst e;obtain⟨t,rfl⟩:=c;obtain⟨k,rfl⟩:=f;exact isub_int ⟨.int _,H,I.tok _,⟨_,rfl⟩,q⟩
end
section
variable{X:Cx}{a:Pos}
def FJ(c:TT)(i:TS):TS:=λD d H=>∃W:Nat->St->Hp->Prop,(∃m,W m d H)/\∀m d H,W m d H->c d H λb h=>if b=true then ∃N:St->Hp->Prop,(∀e g,N e g->∃f,f<m/\W f e g)/\i { D with nx:=N,ct:=N,bk:=D.nx } d h else D.nx d h
theorem pQ{c:Expr}{i:List Stmt}{E:TT}{z:TS}(x:PassesOwn (model X.prog X.w) X.A X.env X.xe)(P:PT X c E)(T:YS X i z):PS X (.While c i [] a) (FJ E z):=by
 intro d s L H D I h;obtain⟨W,⟨K,S⟩,j⟩:=h;refine wpAny_While (codeAny_whileLoop (λn Q=>∃k F,Inv X d k F Q/\W n k F) ?_ K ⟨L,H,I,S⟩);rintro n J ⟨g,y,O,M⟩;refine fu x (CV (P d J g y _ O (j n g y M)) λb R C B m=>?_);cases b with
 | true=>
   obtain⟨N,G,m⟩:=m;rw[aj rfl];refine fu x (ϋ (T d R g C _ B m) λf U o=>?_);cases f with
   | next=>
     obtain⟨e,l,q,p⟩:=o;obtain⟨r,t,u⟩:=G e l p;exact⟨r,t,e,l,q,u⟩
   | cont=>
     obtain⟨e,l,q,p⟩:=o;obtain⟨r,t,u⟩:=G e l p;exact⟨r,t,e,l,q,u⟩
   | brk=>exact o
   | ret v=>exact o
 | false=>
   rw[ah bj];exact fY ⟨g,C,B,m⟩
end
structure It where
 go:Nat->Hp->Prop
 yld:Nat->Hp->V->Hp->Prop
 stop:Nat->Hp->Prop
def pO(X:Cx)(a:gn)(H:Hp)(b:Addr):Prop:=H b=none/\b≠X.env.locals/\b∉X.fs/\(b∈X.ex\/X.s₀.heap.objs.size<=b)/\(∀x c,X.env.cells.lookup x=some c->c≠b)/\∀p∈X.pn++a,p.1≠b
theorem Inv.Zz{X:Cx}{a:gn}{g:St}{H f:Hp}{s:Shared}{b:Addr}(I:Inv X a g H s)(d:s.heap.objs.size<=b)(i:f b=none):pO X a f b:=by
 refine⟨i,eO (aY I.lt d),I.aje d,.inr (aN I.sz d),λx c e z=>?_,λp h z=>?_⟩
 .obtain⟨v,q⟩:=I.cell x c e;exact absurd (aY q.lt (by rw[z];exact d)) (c7 _)
 .exact absurd (aY (aI (I.pin p h).1) (by rw[z];exact d)) (c7 _)
structure Turn(P:Program)(w:World)(K:gh)(tg:Expr)(J:It)(fp:g8)(it:Addr)(tn:Nat->Heap->Prop):Prop where
 mem:it∈fp
 obj:∀i h,tn i h->∀b∈fp,∃o,h.get? b=some o/\∀v,o.data≠.cell v
 keep:∀i h h',tn i h->(∀b∈fp,∀o,h.get? b=some o->h'.get? b=some o)->tn i h'
 item:∀(X:Cx),X.prog=P->X.w=w->X.K=K->X.calm=true->∀(i:Nat)(pins:gn)(s:Shared)(σ:St)(H:Hp)(E:f5),Inv X pins σ H s->(∀b∈fp,pO X pins H b)->tn i s.heap->J.go i H->wpAny (model P w) X.A (pyNext (.ref it)) (λr s1=>∃u,r=some u/\wpAny (model P w) X.A (letOwnedTupleGo tg (.ref it) u) (λ_ s2=>∃x H',Inv X pins σ H' s2/\RelV x u/\J.yld i H x H'/\tn (i+1) s2.heap/\∀b∈fp,H' b=none) E s1) E s
 done:∀(X:Cx),X.prog=P->X.w=w->X.K=K->X.calm=true->∀(i:Nat)(pins:gn)(s:Shared)(σ:St)(H:Hp)(E:f5),Inv X pins σ H s->(∀b∈fp,pO X pins H b)->tn i s.heap->J.stop i H->wpAny (model P w) X.A (pyNext (.ref it)) (λr s1=>r=none/\Inv X pins σ H s1) E s
 self:∀(A:Around)(i:Nat)(s:Shared)(Q:f5)(E:f5),tn i s.heap->Q (.ref it) s->wpAny (model P w) A (pyIter (.ref it)) Q E s
abbrev TI:=St->Hp->(It->Hp->Prop)->Prop
def PIE(X:Cx)(a:gn)(i:St)(j:Expr)(R:It->Hp->Prop)(d:Value)(g:Shared):Prop:=∃(e:Addr)(f:g8)(h:Nat->Heap->Prop)(J:It)(c:Hp),d=.ref e/\Inv X a i c g/\Turn X.prog X.w X.K j J f e h/\h 0 g.heap/\(∀b∈f,pO X a c b)/\R J c
def PI(X:Cx)(e b:Expr)(f:TI):Prop:=∀(a:gn)(s:Shared)(c:St)(H:Hp)(R:It->Hp->Prop),Inv X a c H s->f c H R->wpAny (model X.prog X.w) X.A (eval b X.env) (λv d=>wpAny (model X.prog X.w) X.A (pyIter v) (PIE X a c e R) X.xe d) X.xe s
theorem Fk{M:Model}{A:Around}{E:f5}{s:Shared}{c:Expr}{d:Addr}{u:Value}{o:Obj}{n:String}{b:Array Value}{Q:Unit->Shared->Prop}(i:s.heap.get? d=some o)(e:o.cls=.type n)(f:o.data=.fields b)(g:["enumerate","zip","dict_itemiterator","dict_reverseitemiterator","odict_iterator","itertools.zip_longest","itertools.pairwise"].contains n=false)(a:Q () s):wpAny M A (letOwnedTupleGo c (.ref d) u) Q E s:=by
 unfold letOwnedTupleGo;cases c<;>first
  | exact bh a
  | (cases u<;>first
   | exact bh a
   | (refine ak (wpAny_load i ?_)
      rw[e,f];show wpAny M A (if(["enumerate","zip","dict_itemiterator","dict_reverseitemiterator","odict_iterator","itertools.zip_longest","itertools.pairwise"].contains n&&b[0]?==some (rawInt _))=true then _ else _) Q E s;rw[ah (by intro h;rw[g,jg]at h;cases h)];exact bh a))
def Itl(K:gh)(a:Addr):It:=⟨λi H=>∃b x,μ K H a b/\b[i]?=some x,λi H x c=>c=H/\∀b,μ K H a b->b[i]?=some x,λi H=>∃b,μ K H a b/\b.length<=i⟩
def Itt(K:gh)(a:Addr):It:=⟨λi H=>∃b x,Ι K H a b/\b[i]?=some x,λi H x c=>c=H/\∀b,Ι K H a b->b[i]?=some x,λi H=>∃b,Ι K H a b/\b.length<=i⟩
def Itr(lo:Int)(n:Nat):It:=⟨λi _=>i<n,λi H x a=>a=H/\x=.int (lo+i),λi _=>n<=i⟩
theorem MT{P:Program}{w:World}{K:gh}{Y:Expr}(a g:Addr):Turn P w K Y (Itl K a) [g] g (λi h=>h.IsListIter g a i) where
 mem:=by simp
 obj:=λi h st b hb=>by
  have e:b=g:=by simpa using hb
  subst e;obtain⟨o,e,c,d⟩:=st;exact⟨o,e,λv z=>by rw[d]at z;cases z⟩
 keep:=λi h m st k=>st.at λo e=>k g (by simp) o e
 item:=by
  intro X D hw y L i f s J H E I l st F;subst D hw y;obtain⟨Q,x,j,t⟩:=F;obtain⟨B,G,p,T⟩:=I.list j;obtain⟨u,U,V⟩:=G.get t;obtain⟨C,r,N,q,A,n⟩:=l g (by simp);refine wpAny_pyNext_list_item st p.isList (x:=u) (by simpa using U) λm M R=>?_;have S:Inv X f J H { s with heap:=m }:=I.turned (t':=s.toks) (λb o hb e=>(R.2 b hb).trans e) C r q A n;obtain⟨o,e,c,d⟩:=id M;exact⟨u,rfl,Fk (s:={ s with heap:=m }) e c d (by decide) ⟨x,H,S,V,⟨rfl,λys O=>by rw[I.iO O j];exact t⟩,M,λb hb=>(l b hb).1⟩⟩
 done:=by
  intro X D hw y L i f s J H E I l st F;subst D hw y;obtain⟨Q,j,t⟩:=F;obtain⟨B,G,p,T⟩:=I.list j;obtain⟨C,r,N,q,A,n⟩:=l g (by simp);have hl:=G.length;exact wpAny_pyNext_list_end (I.ok.hd L) st p.isList (by simp;lia) λm Z=>⟨rfl,I.turned (t':=s.toks) (λb o hb e=>Z b o hb e) C r q A n⟩
 self:=λ_ _ _ _ _ st h=>wpAny_pyIter_listiter st h
theorem Kf{P:Program}{w:World}{K:gh}{Y:Expr}(a j:Addr):Turn P w K Y (Itt K a) [j] j (λi h=>h.IsTupleIter j a i) where
 mem:=by simp
 obj:=λi h st b hb=>by
  have e:b=j:=by simpa using hb
  subst e;obtain⟨o,e,c,d⟩:=st;exact⟨o,e,λv z=>by rw[d]at z;cases z⟩
 keep:=λi h n st k=>st.at λo e=>k j (by simp) o e
 item:=by
  intro X D hw A L i f s J H E I m st F;subst D hw A;obtain⟨Q,x,l,y⟩:=F;obtain⟨g,G,p,T⟩:=I.tuple l;obtain⟨u,U,V⟩:=G.get y;obtain⟨C,t,N,r,B,q⟩:=m j (by simp);refine wpAny_pyNext_tuple_item st (show s.heap.IsTuple a g.toArray from p) (x:=u) (by simpa using U) λn M R=>?_;have S:Inv X f J H { s with heap:=n }:=I.turned (t':=s.toks) (λb o hb e=>(R.2 b hb).trans e) C t r B q;obtain⟨o,e,c,d⟩:=id M;exact⟨u,rfl,Fk (s:={ s with heap:=n }) e c d (by decide) ⟨x,H,S,V,⟨rfl,λys O=>by rw[I.XM O l];exact y⟩,M,λb hb=>(m b hb).1⟩⟩
 done:=by
  intro X D hw A L i f s J H E I m st F;subst D hw A;obtain⟨Q,l,y⟩:=F;obtain⟨g,G,p,T⟩:=I.tuple l;obtain⟨C,t,N,r,B,q⟩:=m j (by simp);have hl:=G.length;exact wpAny_pyNext_tuple_end (I.ok.hd L) st (show s.heap.IsTuple a g.toArray from p) (by simp;lia) λn Z=>⟨rfl,I.turned (t':=s.toks) (λb o hb e=>Z b o hb e) C t r B q⟩
 self:=λ_ _ _ _ _ st h=>wpAny_pyIter_tupleiter st h
theorem KD{P:Program}{w:World}{K:gh}{G:Expr}(c:Addr)(lo:Int)(n:Nat):Turn P w K G (Itr lo n) [c] c (λi h=>IsRangeIter h c (lo+(i:Nat)*1) ((n:Int)-(i:Nat)) 1) where
 mem:=by simp
 obj:=λi h st b hb=>by
  have e:b=c:=by simpa using hb
  subst e;exact⟨_,st,λv z=>by
   have D:Data.fields _=Data.cell v:=z;cases D⟩
 keep:=λi h f st k=>k c (by simp) _ st
 item:=by
  intro X u hw p m i a s y H E I d st x;subst u hw p;obtain⟨r,l,B,j,q,g⟩:=d c (by simp);have W:=Walks.range (prog:=X.prog) (w:=X.w) (I.ok.hd m) c lo 1 n;refine W.item i s _ _ x st λv f tk hv A C=>?_;obtain⟨t,rfl⟩:=hv;have F:Inv X a y H { s with heap:=f,toks:=tk }:=I.turned (λb o hb e=>C b o (by simpa using hb) e) r l j q g;refine⟨_,rfl,Fk (s:={ s with heap:=f,toks:=tk }) (n:="range_iterator") A rfl rfl (by decide) ⟨.int (lo+i),H,F,⟨t,?_⟩,⟨rfl,rfl⟩,A,λb hb=>(d b hb).1⟩⟩;rw[iU]
 done:=by
  intro X u hw p m i a s y H E I d st x;subst u hw p;obtain⟨r,l,B,j,q,g⟩:=d c (by simp);exact wpAny_pyNext_range_end (I.ok.hd m) st (by have:n<=i:=x;lia) λf J=>⟨rfl,I.turned (t':=s.toks) (λb o hb e=>J b o hb e) r l j q g⟩
 self:=λ_ _ _ _ _ st h=>wpAny_pyIter_rangeiter st h
section
variable{X:Cx}{c:Expr}
def Ly(K:gh)(e:TE):TI:=λd H R=>e d H λx b=>∃a,x=.ref a/\(∃f,μ K b a f)/\R (Itl K a) b
def Q8(K:gh)(e:TE):TI:=λd H R=>e d H λx b=>∃a,x=.ref a/\(∃f,Ι K b a f)/\R (Itt K a) b
theorem gQ{l:Expr}{i:TE}(r:PE X l i):PI X c l (Ly X.K i):=by
 intro d s n H R I h;refine dX (r d s n H _ I h) λv f x j g m w=>?_;obtain⟨a,e,⟨y,k⟩,q⟩:=w;subst e;cases m;obtain⟨t,A,p,z⟩:=g.list k;refine iP p.isList ?_;refine⟨f.heap.objs.size,[f.heap.objs.size],_,_,j,rfl,g.kept (t':=f.toks) λb o e=>aA _ e,MT a _,⟨_,bc _ rfl,rfl,rfl⟩,λb u=>?_,q⟩;have e:b=f.heap.objs.size:=by simpa using u
 subst e;exact g.Zz (ax _) (g.χ.fresh (ax _))
theorem vF{l:Expr}{j:TE}(t:PE X l j):PI X c l (Q8 X.K j):=by
 intro f s r H R I h;refine dX (t f s r H _ I h) λv d x k g n w=>?_;obtain⟨a,e,⟨y,m⟩,q⟩:=w;subst e;cases n;obtain⟨i,A,p,z⟩:=g.tuple m;refine j3 (show d.heap.IsTuple a i.toArray from p) ?_;refine⟨d.heap.objs.size,[d.heap.objs.size],_,_,k,rfl,g.kept (t':=d.toks) λb o e=>aA _ e,Kf a _,⟨_,bc _ rfl,rfl,rfl⟩,λb u=>?_,q⟩;have e:b=d.heap.objs.size:=by simpa using u
 subst e;exact g.Zz (ax _) (g.χ.fresh (ax _))
theorem G9{d:gn}{f:St}{H:Hp}{s:Shared}{R:It->Hp->Prop}{E:f5}{lo a:Int}{t u v:Tok}{h:Nat}(I:Inv X d f H s)(l:-(2^62)<=lo)(n:lo<2^62)(i:-(2^62)<=a)(j:a<2^62)(q:R (Itr lo (a-lo).toNat) H):wpAny (model X.prog X.w) X.A (pyIter (.ref s.heap.objs.size)) (PIE X d f c R) E { s with heap:=s.heap.push { cls:=.type "range",data:=.fields #[.int lo t,.int a u,.int 1 v] },toks:=h }:=by
 refine wpAny_pyIter_range (IsRange.new ..) (small_one l n i j) ?_;have g:Inv X d f H { s with heap:=s.heap.push { cls:=.type "range",data:=.fields #[.int lo t,.int a u,.int 1 v] },toks:=h }:=I.kept λb o e=>aA _ e;refine⟨(s.heap.push { cls:=.type "range",data:=.fields #[.int lo t,.int a u,.int 1 v] }).objs.size,[(s.heap.push { cls:=.type "range",data:=.fields #[.int lo t,.int a u,.int 1 v] }).objs.size],_,_,H,rfl,g.kept (t':=h) λb o e=>aA _ e,KD _ lo (a-lo).toNat,?_,λb m=>?_,q⟩
 .have e1:lo+((0:Nat):Int)*1=lo:=by simp
  have k:(((a-lo).toNat:Nat):Int)-((0:Nat):Int)=Builtin.Range.rangeSize lo a 1:=by rw[rangeSize_one];split<;>lia
  show IsRangeIter _ _ (lo+((0:Nat):Int)*1) ((((a-lo).toNat:Nat):Int)-((0:Nat):Int)) 1;rw[e1,k];exact bc _ rfl
 .have e:b=(s.heap.push { cls:=.type "range",data:=.fields #[.int lo t,.int a u,.int 1 v] }).objs.size:=by simpa using m
  subst e;exact g.Zz (ax _) (g.χ.fresh (ax _))
def Kz(a:TA):TI:=λd H R=>a d H λb e=>∃j:Int,b=[.int j]/\-(2^62)<=j/\j<2^62/\R (Itr 0 j.toNat) e
def LF(a:TA):TI:=λd H R=>a d H λb e=>∃i j:Int,b=[.int i,.int j]/\(-(2^62)<=i/\i<2^62/\-(2^62)<=j/\j<2^62)/\R (Itr i (j-i).toNat) e
theorem mM{a:Expr}{g:TA}{p d:Pos}(u:Gl X "range")(v:X.mg "range"=none)(n:PA X [a] g)(o:starEach [a] X.env=[(false,eval a X.env)]:=by rfl):PI X c (.Call (.Name "range" p) [a] [] d) (Kz g):=by
 intro b s k H R I h;refine Call_ (pG I u v boot_range (cL (uP (n d b s k H _ I h) λz w y x l i f=>?_) o rfl));obtain⟨j,e,f,m,q⟩:=f;subst e;cases i with
 | cons r rr=>
   cases rr;obtain⟨t,rfl⟩:=r;exact call_range_1 (G9 l (by lia) (by lia) f m (by simpa using q))
theorem Mq{a b:Expr}{l:TA}{p f:Pos}(z:Gl X "range")(A:X.mg "range"=none)(x:PA X [a,b] l)(y:starEach [a,b] X.env=[(false,eval a X.env),(false,eval b X.env)]:=by rfl)(g:starEach [b] X.env=[(false,eval b X.env)]:=by rfl):PI X c (.Call (.Name "range" p) [a,b] [] f) (LF l):=by
 intro d s n H R I h;refine Call_ (pG I z A boot_range (cL (uP (x f d s n H _ I h) λE B D C o m k=>?_) (by rw[y,g]) (by rw[g];rfl)));obtain⟨i,j,e,⟨k,u,v,w⟩,q⟩:=k;subst e;cases m with
 | cons r rr=>
   cases rr with
   | cons r' rr=>
     cases rr;obtain⟨t,rfl⟩:=r;obtain⟨F,rfl⟩:=r';exact call_range_2 (G9 o k u v w q)
def TJ(j:TI)(g:TG)(l:TS):TS:=λD a H=>j a H λJ h=>∃W:Nat->Nat->St->Hp->Prop,(∃m,W 0 m a h)/\∀i m a H,W i m a H->(J.stop i H/\D.nx a H)\/(J.go i H/\∃N:St->Hp->Prop,(∀b d,N b d->∃f,f<m/\W (i+1) f b d)/\∀x d,J.yld i H x d->g x a d λe k=>l { D with nx:=N,ct:=N,bk:=D.nx } e k)
def vO(a:g8)(h:Heap):List (Addr×Obj):=a.filterMap λb=>(h.get? b).map λo=>(b,o)
theorem oZ{a:g8}{h:Heap}{b:Addr}{o:Obj}(d:b∈a)(e:h.get? b=some o):(b,o)∈vO a h:=List.mem_filterMap.mpr ⟨b,d,by rw[e];rfl⟩
theorem Md{a:g8}{h:Heap}{p:Addr×Obj}(d:p∈vO a h):p.1∈a/\h.get? p.1=some p.2:=by
 obtain⟨b,f,e⟩:=List.mem_filterMap.mp d;cases q:h.get? b with
 | none=>rw[q]at e;cases e
 | some o=>
   rw[q]at e;have g:(b,o)=p:=br e;subst g;exact⟨f,q⟩
theorem Inv.pinned{a:gn}{g:St}{H:Hp}{s:Shared}{f:g8}(I:Inv X a g H s)(n:∀b∈f,pO X a H b)(l:∀b∈f,∃o,s.heap.get? b=some o/\∀v,o.data≠.cell v):Inv X (a++vO f s.heap) g H s:=I.Zc λp j=>(aV.mp j).elim (λz=>I.pin p (aR _ z)) λz=>by
 obtain⟨i,e⟩:=Md z;obtain⟨q,m,k,_⟩:=n p.1 i;obtain⟨o,h,d⟩:=l p.1 i;rw[e]at h;cases h;exact⟨e,q,m,k,d⟩
theorem Inv.Ϩ{a d:gn}{b:St}{H:Hp}{s:Shared}(I:Inv X (a++d) b H s):Inv X a b H s:=I.Zc λp e=>I.pin p (aR _ (bq _ e))
theorem fq{t:Expr}{E:List Stmt}{wi:TI}{g:TG}{tb:TS}{R:Pos}(P:PassesOwn (model X.prog X.w) X.A X.env X.xe)(hc:X.calm=true)(hi:PI X c t wi)(hg:PG X c g)(l:YS X E tb)(hs:∀x,foldedSetIterable t X.env x=pure x:=by intro _;rfl):PS X (.For c t E [] R) (TJ wi g tb):=by
 intro a s σ H D I h;refine wpAny_For (ϋ (hi a s σ H _ I h) λv s1 h1=>ϋ h1 λb2 s2 h2=>?_) hs;obtain⟨it,O,tn,J,H2,e,I2,T,Zw,f2,W,⟨m0,w0⟩,L⟩:=h2;subst e;have y:∀{C:Hp},(∀b∈O,C b=none)->∀b∈O,pO X a C b:=λhn b l=>⟨hn b l,(f2 b l).2⟩;refine codeAny_forLoop_any (λn s'=>∃i z C,Inv X a z C s'/\tn i s'.heap/\(∀b∈O,C b=none)/\W i n z C) ?_ m0 ⟨0,σ,H2,I2,Zw,λb l=>(f2 b l).1,w0⟩;rintro n s3 ⟨i,B,Q,I3,M,G,w3⟩;rcases L i n B Q w3 with⟨stop,qn⟩|⟨go,N,hN,step⟩
 .refine fu P (ϋ (T.done X rfl rfl rfl hc i a s3 B Q X.xe I3 (y G) M stop) λr s4 ⟨Z,I4⟩=>?_);subst Z;exact fY ⟨B,Q,I4,qn⟩
 .refine fu P (ϋ (T.item X rfl rfl rfl hc i a s3 B Q X.xe I3 (y G) M go) λr s4 ⟨u,Z,h4⟩=>?_);subst Z;refine fu P (ϋ h4 λ_ s5 ⟨x,H5,I5,r5,y5,S,Y⟩=>?_);have ab:=I5.pinned (y Y) (T.obj _ _ S);refine fu P (ϋ (hg _ s5 B H5 x u _ ab r5 (step x H5 y5)) λ_ s6 ⟨U,H6,I6,q6⟩=>?_);refine fu P (ϋ (l _ s6 U H6 _ I6 q6) λf V F=>?_);have k:∀{j:St}{p:Hp},Inv X (a++vO O s5.heap) j p V->N j p->∃m,m<n/\∃i z C,Inv X a z C V/\tn i V.heap/\(∀b∈O,C b=none)/\W i m z C:=λ{j p} q K=>by
   obtain⟨m',hm,w7⟩:=hN j p K;refine⟨m',hm,i+1,j,p,q.Ϩ,T.keep _ _ _ S λb l o e=>(q.pin (b,o) (aR _ (aR _ (oZ l e)))).1,λb l=>?_,w7⟩;obtain⟨o,e,d⟩:=T.obj _ _ S b l;exact(q.pin (b,o) (aR _ (aR _ (oZ l e)))).2.1
  cases f with
  | next=>obtain⟨j,p,q,K⟩:=F;exact k q K
  | cont=>obtain⟨j,p,q,K⟩:=F;exact k q K
  | brk=>obtain⟨j,p,q,F⟩:=F;exact⟨j,p,q.Ϩ,F⟩
  | ret v=>obtain⟨x7,j,p,q,r7,F⟩:=F;exact⟨x7,j,p,q.Ϩ,r7,F⟩
end
theorem QJ{K:gh}{a:Addr}{c:List V}{g:TG}{l:TS}{D:Ends}{b:St}{H:Hp}(d:Nat->St->Hp->Prop)(w:d 0 b H)(s:∀i b H,i<=c.length->d i b H->μ K H a c)(u:∀i x b H,c[i]?=some x->d i b H->g x b H λf k=>l { D with nx:=d (i+1),ct:=d (i+1),bk:=D.nx } f k)(t:∀b H,d c.length b H->D.nx b H):∃W:Nat->Nat->St->Hp->Prop,(∃m,W 0 m b H)/\∀i m b H,W i m b H->((Itl K a).stop i H/\D.nx b H)\/((Itl K a).go i H/\∃N:St->Hp->Prop,(∀h j,N h j->∃n,n<m/\W (i+1) n h j)/\∀x j,(Itl K a).yld i H x j->g x b j λf k=>l { D with nx:=N,ct:=N,bk:=D.nx } f k):=by
 refine⟨λi m b H=>m=c.length-i/\i<=c.length/\d i b H,⟨c.length,by simp,bx _,w⟩,?_⟩;rintro i m b H ⟨rfl,v,p⟩;have q:=s i b H v p;by_cases o:i<c.length
 .refine .inr ⟨⟨c,c[i],q,by simp[o]⟩,d (i+1),λh j r=>⟨c.length-(i+1),by lia,rfl,o,r⟩,λx j y=>?_⟩;obtain⟨e,y⟩:=y;subst e;exact u i x b _ (y c q) p
 .have e:i=c.length:=by lia
  subst e;exact .inl ⟨⟨c,q,ax _⟩,t b H p⟩
theorem CY{K:gh}{a:Addr}{xs:List V}{g:TG}{k:TS}{D:Ends}{b:St}{H:Hp}(c:Nat->St->Hp->Prop)(v:c 0 b H)(r:∀i b H,i<=xs.length->c i b H->Ι K H a xs)(t:∀i x b H,xs[i]?=some x->c i b H->g x b H λd j=>k { D with nx:=c (i+1),ct:=c (i+1),bk:=D.nx } d j)(s:∀b H,c xs.length b H->D.nx b H):∃W:Nat->Nat->St->Hp->Prop,(∃m,W 0 m b H)/\∀i m b H,W i m b H->((Itt K a).stop i H/\D.nx b H)\/((Itt K a).go i H/\∃N:St->Hp->Prop,(∀f h,N f h->∃l,l<m/\W (i+1) l f h)/\∀x h,(Itt K a).yld i H x h->g x b h λd j=>k { D with nx:=N,ct:=N,bk:=D.nx } d j):=by
 refine⟨λi m b H=>m=xs.length-i/\i<=xs.length/\c i b H,⟨xs.length,by simp,bx _,v⟩,?_⟩;rintro i m b H ⟨rfl,u,p⟩;have q:=r i b H u p;by_cases n:i<xs.length
 .refine .inr ⟨⟨xs,xs[i],q,by simp[n]⟩,c (i+1),λf h o=>⟨xs.length-(i+1),by lia,rfl,n,o⟩,λx h y=>?_⟩;obtain⟨e,y⟩:=y;subst e;exact t i x b _ (y xs q) p
 .have e:i=xs.length:=by lia
  subst e;exact .inl ⟨⟨xs,q,ax _⟩,s b H p⟩
theorem MM{lo:Int}{n:Nat}{g:TG}{k:TS}{D:Ends}{a:St}{H:Hp}(b:Nat->St->Hp->Prop)(s:b 0 a H)(r:∀i a H,i<n->b i a H->g (.int (lo+i)) a H λc h=>k { D with nx:=b (i+1),ct:=b (i+1),bk:=D.nx } c h)(q:∀a H,b n a H->D.nx a H):∃W:Nat->Nat->St->Hp->Prop,(∃m,W 0 m a H)/\∀i m a H,W i m a H->((Itr lo n).stop i H/\D.nx a H)\/((Itr lo n).go i H/\∃N:St->Hp->Prop,(∀d f,N d f->∃l,l<m/\W (i+1) l d f)/\∀x f,(Itr lo n).yld i H x f->g x a f λc h=>k { D with nx:=N,ct:=N,bk:=D.nx } c h):=by
 refine⟨λi m a H=>m=n-i/\i<=n/\b i a H,⟨n,by simp,bx _,s⟩,?_⟩;rintro i m a H ⟨rfl,t,p⟩;by_cases j:i<n
 .refine .inr ⟨j,b (i+1),λd f o=>⟨n-(i+1),by lia,rfl,j,o⟩,λx f y=>?_⟩;obtain⟨e,y⟩:=y;subst e y;exact r i a _ j p
 .have e:i=n:=by lia
  subst e;exact .inl ⟨ax _,q a H p⟩
abbrev R2:=V->V->Hp->VK->Prop
def Ϻ(X:Cx)(f:Value->Value->Sem Value)(r:R2):Prop:=∀(a:gn)(s:Shared)(b:St)(H:Hp)(x y:V)(v u:Value)(Q:VK),Inv X a b H s->RelV x v->RelV y u->r x y H Q->wpAny (model X.prog X.w) X.A (f v u) (EP X a b Q) X.xe s
def UnR(X:Cx)(f:Value->Sem Value)(r:V->Hp->VK->Prop):Prop:=∀(a:gn)(s:Shared)(b:St)(H:Hp)(x:V)(v:Value)(Q:VK),Inv X a b H s->RelV x v->r x H Q->wpAny (model X.prog X.w) X.A (f v) (EP X a b Q) X.xe s
def mZ(X:Cx)(f:Value)(r:List V->Hp->VK->Prop):Prop:=∀(a:gn)(s:Shared)(b:St)(H:Hp)(d:List V)(c:hD)(Q:VK),Inv X a b H s->Vals d c->r d H Q->wpAny (model X.prog X.w) X.A (call f c) (EP X a b Q) X.xe s
def WP(X:Cx)(r:V->Hp->(Bool->Hp->Prop)->Prop):Prop:=∀(a:gn)(s:Shared)(b:St)(H:Hp)(x:V)(v:Value)(Q:Bool->Hp->Prop),Inv X a b H s->RelV x v->r x H Q->wpAny (model X.prog X.w) X.A (truthy v) (TP X a b Q) X.xe s
def tOp(r:R2)(b e:TE):TE:=λa H Q=>b a H λx c=>e a c λy d=>r x y d Q
def tUn(r:V->Hp->VK->Prop)(a:TE):TE:=λb H Q=>a b H λx c=>r x c Q
def rI(C:Int->Int->Prop)(g:Int->Int->V):R2:=λx y H Q=>∃i j,x=.int i/\y=.int j/\C i j/\Q (g i j) H
def rI0(g:Int->Int->V):R2:=λx y H Q=>∃i j,x=.int i/\y=.int j/\Q (g i j) H
def rU(g:Int->V):V->Hp->VK->Prop:=λx H Q=>∃i,x=.int i/\Q (g i) H
section
variable{X:Cx}{a b c:Expr}{d k l:TE}{e:Pos}
theorem NQ(D:PE X a d)(E:PE X b k){g:gn}{s:Shared}{i:St}{H:Hp}{R:V->V->Hp->Prop}(I:Inv X g i H s)(h:d i H λx p=>k i p λy j=>R x y j){Q:f5}{f:Value->Value->Sem Value}(B:∀v u o x y j,Inv X g i j o->RelV x v->RelV y u->R x y j->wpAny (model X.prog X.w) X.A (f v u) Q X.xe o):wpAny (model X.prog X.w) X.A (eval a X.env) (λv m=>wpAny (model X.prog X.w) X.A (eval b X.env) (λu n=>wpAny (model X.prog X.w) X.A (f v u) Q X.xe n) X.xe m) X.xe s:=by
 refine dX (D g s i H _ I h) λv q x p t r F=>?_;refine dX (E g q i p _ t F) λu o y j C G z=>?_;exact B v u o x y j C r G z
theorem aZ{g:Operator}{r:R2}(j:Ϻ X (binaryOp g) r)(p:PE X a d)(z:PE X b k):PE X (.BinOp a g b e) (tOp r d k):=by
 intro f s n H Q I h;exact wpAny_BinOp (NQ p z I h λv u w x y t o i m q=>j f w n t x y v u Q o i m q)
theorem yC{g:UnaryOp}{r:V->Hp->VK->Prop}(t:UnR X (unaryOp g) r)(o:PE X a d):PE X (.UnaryOp g a e) (tUn r d):=by
 intro f s i H Q I h;exact UnaryOp_ (dX (o f s i H _ I h) λv n x q m j p=>t f n i q x v Q m j p)
theorem opI{f:Value->Value->Sem Value}{C:Int->Int->Prop}{g:hR}(m:∀(i j:Int) (t u:Tok) (s:Shared) (Q:f5) (E:f5),C i j->Q (.int (g i j) s.toks) { s with toks:=s.toks+1 }->wpAny (model X.prog X.w) X.A (f (.int i t) (.int j u)) Q E s):Ϻ X f (rI C λi j=>.int (g i j)):=by
 intro n s B H x y v u Q I o p h;obtain⟨i,j,rfl,rfl,r,q⟩:=h;obtain⟨t,rfl⟩:=o;obtain⟨z,rfl⟩:=p;exact m i j t z s _ _ r ⟨.int (g i j),H,I.tok _,⟨_,rfl⟩,q⟩
theorem SS{f:Value->Value->Sem Value}{g:hR}(m:∀(i j:Int) (t u:Tok) (s:Shared) (Q:f5) (E:f5),Q (.int (g i j) s.toks) { s with toks:=s.toks+1 }->wpAny (model X.prog X.w) X.A (f (.int i t) (.int j u)) Q E s):Ϻ X f (rI0 λi j=>.int (g i j)):=by
 intro n s z H x y v u Q I o p h;obtain⟨i,j,rfl,rfl,q⟩:=h;obtain⟨t,rfl⟩:=o;obtain⟨r,rfl⟩:=p;exact m i j t r s _ _ ⟨.int (g i j),H,I.tok _,⟨_,rfl⟩,q⟩
theorem KN{f:Value->Value->Sem Value}{g:Int->Int->Bool}(m:∀(i j:Int) (t u:Tok) (s:Shared) (Q:f5) (E:f5),Q (.bool (g i j)) s->wpAny (model X.prog X.w) X.A (f (.int i t) (.int j u)) Q E s):Ϻ X f (rI0 λi j=>.bl (g i j)):=by
 intro n s z H x y v u Q I o p h;obtain⟨i,j,rfl,rfl,q⟩:=h;obtain⟨t,rfl⟩:=o;obtain⟨r,rfl⟩:=p;exact m i j t r s _ _ ⟨.bl (g i j),H,I,rfl,q⟩
def VG(i j:Int):Prop:=0<j/\j<1073741824
def VB(i j:Int):Prop:=0<=j/\j<=1000000/\i.natAbs<2^64
def Xz(i j:Int):Prop:=(-(2^64)<i/\i<2^64)\/(-(2^64)<j/\j<2^64)
theorem Xz.ok{i j:Int}(h:Xz i j):IntMulOk i j:=by
 rcases h with⟨h1,h2⟩|⟨h1,h2⟩
 .exact .of_left (intBits_le_64 h1 h2)
 .exact .of_right (intBits_le_64 h1 h2)
theorem dR:Ϻ X (binaryOp .Add) (rI0 λi j=>.int (i+j)):=SS λ_ _ _ _ _ _ _ q=>add_int q
theorem fU:Ϻ X (binaryOp .Sub) (rI0 λi j=>.int (i-j)):=SS λ_ _ _ _ _ _ _ q=>sub_int q
theorem kO:Ϻ X (binaryOp .Mult) (rI Xz λi j=>.int (i*j)):=opI λ_ _ _ _ _ _ _ f q=>mul_int q f.ok
theorem fN:Ϻ X (binaryOp .FloorDiv) (rI VG λi j=>.int (i/j)):=opI λi j _ _ _ _ _ f q=>by
 have h:(0:Int)<j:=f.1;have g:j<1073741824:=f.2;exact floordiv_int (by lia) (by rw[kL i (by lia)];exact q) (.inl (PyProof.noPylong_small (by lia)))
theorem eU:Ϻ X (binaryOp .Mod) (rI (λ_ j=>0<j) λi j=>.int (i%j)):=opI λi j _ _ _ _ _ f q=>by
 have g:(0:Int)<j:=f;exact mod_int' (by lia) (by rw[Int.fmod_eq_emod_of_nonneg i (by lia)];exact q)
theorem GC:Ϻ X (binaryOp .Pow) (rI VB λi j=>.int (i^j.toNat)):=opI λ_ _ _ _ _ _ _ f q=>pow_int_small f.1 f.2.1 f.2.2 q
theorem unI{f:Value->Sem Value}{g:fc}(j:∀(i:Int) (t:Tok) (s:Shared) (Q:f5) (E:f5),Q (.int (g i) s.toks) { s with toks:=s.toks+1 }->wpAny (model X.prog X.w) X.A (f (.int i t)) Q E s):UnR X f (rU λi=>.int (g i)):=by
 intro m s o H x v Q I n h;obtain⟨i,rfl,q⟩:=h;obtain⟨t,rfl⟩:=n;exact j i t s _ _ ⟨.int (g i),H,I.tok _,⟨_,rfl⟩,q⟩
theorem vJ:UnR X (unaryOp .USub) (rU λi=>.int (-i)):=unI λ_ _ _ _ _ q=>neg_int q
end
def nW:V->V->Bool
 | .π,.π=>true|.π,.int _=>true|.int _,.π=>true|.π,.bl _=>true|.bl _,.π=>true|.π,.str _=>true|.str _,.π=>true
 | .int _,.int _=>true|.bl _,.bl _=>true|.str _,.str _=>true|.YW _,.YW _=>true
 | .int _,.str _=>true|.str _,.int _=>true|.bl _,.str _=>true|.str _,.bl _=>true
 | _,_=>false
def rEq:R2:=λx y H Q=>nW x y=true/\Q (.bl (decide (x=y))) H
def rNe:R2:=λx y H Q=>nW x y=true/\Q (.bl (!decide (x=y))) H
theorem JT{i j:Int}:decide (V.int i=V.int j)=(i==j):=by
 rw[gR];simp
theorem Nt{i j:Bool}:decide (V.bl i=V.bl j)=(i==j):=by
 rw[gR];simp
theorem Jy{i j:Str}:decide (V.str i=V.str j)=(i==j):=by
 rw[gR];simp
theorem Jp{i j:Array UInt8}:decide (V.YW i=V.YW j)=(i.toList==j.toList):=by
 rw[gR];cases i;cases j;simp
section
variable{X:Cx}{a b c:Expr}{f g l:TE}{pos:Pos}
theorem eV{d:gn}{h:St}{H:Hp}{s:Shared}{Q:VK}{k i:Bool}(I:Inv X d h H s)(q:Q (.bl k) H)(e:k=i):EP X d h Q (.bool i) s:=by
 subst e;exact⟨.bl k,H,I,rfl,q⟩
theorem iH:Ϻ X (compareOp .Eq) rEq:=by
 intro n s o H x y v u Q I m d h;obtain⟨k,q⟩:=h;cases x with
 | π=>
   cases m;cases y with
   | π=>cases d;exact PySem.EqNone.eq_none_none (eV I q (by simp))
   | bl j=>cases d;exact PySem.EqNone.eq_none_bool (eV I q (by simp))
   | int j=>obtain⟨e,rfl⟩:=d;exact PySem.EqNone.eq_none_int (eV I q (by simp))
   | str j=>obtain⟨e,rfl⟩:=d;exact PySem.EqNone.eq_none_str (eV I q (by simp))
   | _=>exact absurd (show false=true from k) bj
 | bl i=>
   cases m;cases y with
   | π=>cases d;exact PySem.EqNone.eq_bool_none (eV I q (by simp))
   | bl j=>cases d;exact eq_bool (eV I q Nt)
   | str j=>obtain⟨e,rfl⟩:=d;exact PySem.EqMixed.eq_bool_str (eV I q (by simp))
   | _=>exact absurd (show false=true from k) bj
 | int i=>
   obtain⟨t,rfl⟩:=m;cases y with
   | π=>cases d;exact PySem.EqNone.eq_int_none (eV I q (by simp))
   | int j=>obtain⟨e,rfl⟩:=d;exact eq_int (eV I q JT)
   | str j=>obtain⟨e,rfl⟩:=d;exact PySem.EqMixed.eq_int_str (eV I q (by simp))
   | _=>exact absurd (show false=true from k) bj
 | str i=>
   obtain⟨t,rfl⟩:=m;cases y with
   | π=>cases d;exact PySem.EqNone.eq_str_none (eV I q (by simp))
   | bl j=>cases d;exact PySem.EqMixed.eq_str_bool (eV I q (by simp))
   | int j=>obtain⟨e,rfl⟩:=d;exact PySem.EqMixed.eq_str_int (eV I q (by simp))
   | str j=>obtain⟨e,rfl⟩:=d;exact eq_str (eV I q Jy)
   | _=>exact absurd (show false=true from k) bj
 | YW i=>
   obtain⟨t,rfl⟩:=m;cases y with
   | YW j=>obtain⟨e,rfl⟩:=d;exact PySem.W.eq_bytes (eV I q Jp)
   | _=>exact absurd (show false=true from k) bj
 | _=>cases y<;>exact absurd (show false=true from k) bj
theorem pL:Ϻ X (compareOp .NotEq) rNe:=by
 intro n s o H x y v u Q I m d h;obtain⟨k,q⟩:=h;cases x with
 | π=>
   cases m;cases y with
   | π=>cases d;exact PySem.EqNone.ne_none_none (eV I q (by simp))
   | bl j=>cases d;exact PySem.EqNone.ne_none_bool (eV I q (by simp))
   | int j=>obtain⟨e,rfl⟩:=d;exact PySem.EqNone.ne_none_int (eV I q (by simp))
   | str j=>obtain⟨e,rfl⟩:=d;exact PySem.EqNone.ne_none_str (eV I q (by simp))
   | _=>exact absurd (show false=true from k) bj
 | bl i=>
   cases m;cases y with
   | π=>cases d;exact PySem.EqNone.ne_bool_none (eV I q (by simp))
   | bl j=>cases d;exact ne_bool (eV I q (congrArg not Nt))
   | str j=>obtain⟨e,rfl⟩:=d;exact PySem.EqMixed.ne_bool_str (eV I q (by simp))
   | _=>exact absurd (show false=true from k) bj
 | int i=>
   obtain⟨t,rfl⟩:=m;cases y with
   | π=>cases d;exact PySem.EqNone.ne_int_none (eV I q (by simp))
   | int j=>obtain⟨e,rfl⟩:=d;exact ne_int (eV I q (congrArg not JT))
   | str j=>obtain⟨e,rfl⟩:=d;exact PySem.EqMixed.ne_int_str (eV I q (by simp))
   | _=>exact absurd (show false=true from k) bj
 | str i=>
   obtain⟨t,rfl⟩:=m;cases y with
   | π=>cases d;exact PySem.EqNone.ne_str_none (eV I q (by simp))
   | bl j=>cases d;exact PySem.EqMixed.ne_str_bool (eV I q (by simp))
   | int j=>obtain⟨e,rfl⟩:=d;exact PySem.EqMixed.ne_str_int (eV I q (by simp))
   | str j=>obtain⟨e,rfl⟩:=d;exact ne_str (eV I q (congrArg not Jy))
   | _=>exact absurd (show false=true from k) bj
 | YW i=>
   obtain⟨t,rfl⟩:=m;cases y with
   | YW j=>obtain⟨e,rfl⟩:=d;exact PySem.W.ne_bytes (eV I q (congrArg not Jp))
   | _=>exact absurd (show false=true from k) bj
 | _=>cases y<;>exact absurd (show false=true from k) bj
theorem rJ:Ϻ X (compareOp .Lt) (rI0 λi j=>.bl (decide (i<j))):=KN λ_ _ _ _ _ _ _ q=>lt_int q
theorem wC:Ϻ X (compareOp .LtE) (rI0 λi j=>.bl (decide (i<=j))):=KN λ_ _ _ _ _ _ _ q=>le_int q
theorem RA:Ϻ X (compareOp .Gt) (rI0 λi j=>.bl (decide (j<i))):=KN λ_ _ _ _ _ _ _ q=>gt_int q
theorem Fm:Ϻ X (compareOp .GtE) (rI0 λi j=>.bl (decide (j<=i))):=KN λ_ _ _ _ _ _ _ q=>ge_int q
theorem gV(b:Expr){d:CmpOp}(h:d≠.In:=by decide)(j:d≠.NotIn:=by decide):behindInMarks d b=false:=by
 have e:(d==CmpOp.In)=false:=by cases d<;>first|rfl|exact absurd rfl h
 have i:(d==CmpOp.NotIn)=false:=by cases d<;>first|rfl|exact absurd rfl j
 cases b<;>simp[behindInMarks,e,i]
theorem kH{e:CmpOp}{r:R2}(j:Ϻ X (compareOp e) r)(o:PE X a f)(z:PE X b g)(w:behindInMarks e b=false):PE X (.Compare a [e] [b] pos) (tOp r f g):=by
 intro d s m H Q I h;exact wpAny_Compare1 (NQ o z I h λv u t x y p n i k q=>j d t m p x y v u Q n i k q) w
def B6(t:TE):TT:=λd H Q=>t d H λx e=>∃k,x=.bl k/\Q k e
theorem nC{i:CmpOp}{r:R2}(o:Ϻ X (compareOp i) r)(C:PE X a f)(K:PE X b g)(G:behindInMarks i b=false):PT X (.Compare a [i] [b] pos) (B6 (tOp r f g)):=by
 intro d s j H Q I h;refine wpAny_isTrue_Compare1 (dX (C d s j H _ I h) λv m x n q p L=>dX (K d m j n _ q L) λu F y E B M t=>
  dX (o d F j E x y v u _ B p M t) λc N z D A J ⟨k,e,w⟩=>?_) G
 subst e;cases J;exact dc ⟨D,A,w⟩
def Bd(r j:R2)(f g l:TE):TE:=λd H Q=>f d H λx m=>g d m λy n=>r x y n λz e=>∃k,z=.bl k/\(if k=true then l d e λh i=>j y h i Q else Q (.bl false) e)
theorem PX{n j:CmpOp}{r q:R2}(D:Ϻ X (compareOp n) r)(U:Ϻ X (compareOp j) q)(R:PE X a f)(Z:PE X b g)(J:PE X c l)(V:lastMarks [n,j] [b,c]=false:=by with_unfolding_all rfl):PE X (.Compare a [n,j] [b,c] pos) (Bd r q f g l):=by
 intro i s m H Q I h;refine Compare_chain (dX (R i s m H _ I h) λv B x C G F q1=>chain_link (dX (Z i B m C _ G q1) λu T y S O w K=>
  dX (D i T m S x y v u _ O F w K) λd W z t p Y ⟨k,e,o⟩=>?_)) V
 subst e;cases Y;refine dc ?_;cases k with
 | false=>exact ite_ff ⟨.bl false,t,p,rfl,o⟩
 | true=>exact ite_tt (chain_last (ϋ (J i W m t _ p o) λA M ⟨E,P,L,r4,N⟩=>U i M m P y E u A Q L w r4 N))
theorem zC{n j:CmpOp}{r q:R2}(E:Ϻ X (compareOp n) r)(Yq:Ϻ X (compareOp j) q)(V:PE X a f)(hb:PE X b g)(K:PE X c l)(hm:lastMarks [n,j] [b,c]=false:=by with_unfolding_all rfl):PT X (.Compare a [n,j] [b,c] pos) (B6 (Bd r q f g l)):=by
 intro i s m H Q I h;refine isTrue_chain (dX (V i s m H _ I h) λv C x D J G q1=>test_link (dX (hb i C m D _ J q1) λu Z y Y T w L=>
  dX (E i Z m Y x y v u _ T G w L) λd s3 z t p r3 ⟨k,e,o⟩=>?_)) hm
 subst e;cases r3;refine dc ?_;cases k with
 | false=>
   obtain⟨k',M,B⟩:=o;cases M;exact ite_ff ⟨t,p,B⟩
 | true=>
   refine ite_tt (test_last (ϋ (K i s3 m t _ p o) λA R ⟨F,U,N,r4,S⟩=>ϋ (Yq i R m U y F u A _ N w r4 S) λd' s5 ⟨z2,H5,W,O,k2,P,q5⟩=>?_));subst P;cases O;exact dc ⟨H5,W,q5⟩
def Uz(K:gh)(x:V)(H:Hp)(k:Bool):Prop:=match x with
 | .π=>k=false
 | .bl b=>k=b
 | .int i=>k=(i != 0)
 | .str y=>y.length<=sizeLine/\k=((y.length:Int) != 0)
 | .YW y=>y.size<=sizeLine/\k=((y.size:Int) != 0)
 | .ref p=>(∃d,μ K H p d/\k=!d.isEmpty)\/(∃d,Ι K H p d/\k=!d.isEmpty)\/∃e,H p=some (.dK e)/\k=!e.isEmpty
 | _=>False
theorem Ks{d:Type}{h:List (d×V)}{e:List (d×Value)}(r:KV h e):(!e.isEmpty)=!h.isEmpty:=by
 cases r<;>rfl
theorem Cq{e:List V}{d:hD}(r:Vals e d):(!d.toArray.isEmpty)=!e.isEmpty:=by
 cases r<;>simp
theorem tR:(sizeLine:Nat)<2^63:=by rw[sizeLine_eq];decide
theorem SV:WP X (λx H Q=>∃k,Uz X.K x H k/\Q k H):=by
 intro C s G H x v Q I o h;obtain⟨k,e,q⟩:=h;have J:=tR;have L:sizeLine=16777216:=sizeLine_eq;cases x with
 | π=>
   cases o;have d:k=false:=e;subst d;exact truthy_none ⟨H,I,q⟩
 | bl b=>
   cases o;have d:k=b:=e;subst d;exact dc ⟨H,I,q⟩
 | int i=>
   obtain⟨t,rfl⟩:=o;have d:k=(i != 0):=e;subst d;exact PySem.P.truthy_int ⟨H,I,q⟩
 | str y=>
   obtain⟨t,rfl⟩:=o;obtain⟨E,d⟩:y.length<=sizeLine/\k=((y.length:Int) != 0):=e;subst d;exact PySem.P.truthy_str (by lia) ⟨H,I.tok _,q⟩
 | YW y=>
   obtain⟨t,rfl⟩:=o;obtain⟨E,d⟩:y.size<=sizeLine/\k=((y.size:Int) != 0):=e;subst d;exact PySem.W.truthy_bytes (by lia) ⟨H,I.tok _,q⟩
 | ref p=>
   cases o;have d:(∃n,μ X.K H p n/\k=!n.isEmpty)\/(∃n,Ι X.K H p n/\k=!n.isEmpty)\/∃u,H p=some (.dK u)/\k=!u.isEmpty:=e;rcases d with⟨n,hx,d⟩|⟨n,hx,d⟩|⟨u,hx,d⟩
   .subst d;obtain⟨B,r,A,D⟩:=I.list hx;have j:=r.length;exact wpAny_truthy_list A.isList (by simp only[aQ];lia) ⟨H,I.tok _,by rw[Cq r];exact q⟩
   .subst d;obtain⟨B,r,A,D⟩:=I.tuple hx;have j:=r.length;exact truthy_tuple A (by simp only[aQ];lia) ⟨H,I.tok _,by rw[Cq r];exact q⟩
   .subst d;obtain⟨D,F,z,r,m⟩:u.length<=sizeLine/\(p==sysModules)=false/\∃z,KV u z/\s.heap.DictOf (iz X.prog X.w) p z:=I.χ p _ hx;have j:u.length=z.length:=Paired.length r;exact wpAny_truthy_dict F m (by lia) ⟨H,I.tok _,by rw[Ks r];exact q⟩
 | _=>exact(show False from e).elim
theorem ui(r:PE X a f)(n:∀d,isTrue a X.env d=(do let v <-d;standAt a.pos;holding [v] (truthy v))):PT X a (λi H Q=>f i H λx j=>∃k,Uz X.K x j k/\Q k j):=by
 intro e s i H Q I h;exact isTrue_plain (dX (r e s i H _ I h) λv m x o q p t=>SV e m i o x v Q q p t) (n _)
theorem wx{x:V}{d:hD}(r:Vals [x] d):∃u,d=[u]/\RelV x u:=by
 cases r with
 | cons r1 r2=>cases r2;exact⟨_,rfl,r1⟩
theorem Fo{x y:V}{e:hD}(r:Vals [x,y] e):∃u d,e=[u,d]/\RelV x u/\RelV y d:=by
 cases r with
 | cons r1 r2=>
   cases r2 with
   | cons r3 r4=>cases r4;exact⟨_,_,rfl,r1,r3⟩
theorem Ek(n:X.calm=true):mZ X (.builtin "max") (λe H Q=>∃i j,e=[.int i,.int j]/\Q (.int (if j>i then j else i)) H):=by
 intro m s p H e v Q I r h;obtain⟨i,j,rfl,q⟩:=h;obtain⟨u,o,rfl,⟨t,rfl⟩,⟨y,rfl⟩⟩:=Fo r;refine max_two_ints (I.ok.hd n) λw x k=>⟨_,H,I.kept k,?_,q⟩;by_cases d:j>i
 .rw[aj d,aj d];exact⟨_,rfl⟩
 .rw[ah d,ah d];exact⟨_,rfl⟩
theorem Ea(n:X.calm=true):mZ X (.builtin "min") (λe H Q=>∃i j,e=[.int i,.int j]/\Q (.int (if j<i then j else i)) H):=by
 intro m s p H e v Q I r h;obtain⟨i,j,rfl,q⟩:=h;obtain⟨u,o,rfl,⟨t,rfl⟩,⟨y,rfl⟩⟩:=Fo r;refine min_two_ints (I.ok.hd n) λw x k=>⟨_,H,I.kept k,?_,q⟩;by_cases d:j<i
 .rw[aj d,aj d];exact⟨_,rfl⟩
 .rw[ah d,ah d];exact⟨_,rfl⟩
end
structure ZA(h:Heap)(x dx C:Addr)(mA:hH):Prop where
 obj:h.get? x=some (PySem.W.instObj C dx)
 ns:h.Ns1 dx mA
 ne:dx≠x
theorem MW{h:Heap}{d:Addr}{g:hH}(n:h.Ns1 d g):∃i,h.get? d=some i/\∀b,PySem.W.lookIn b i=some (g b):=by
 obtain⟨o,f,s,k,m,l,_,p⟩:=n;refine⟨o,k,λb=>?_⟩;have e:=p b;unfold nsFind findBy at e;rw[<-Array.find?_toList]at e;unfold PySem.W.lookIn;rw[m];dsimp only;split
 .rename_i y q
  rw[q]at e;exact congrArg some e
 .rename_i q
  rw[q]at e;have a:f.toList.any (·.refKey)=false:=by
   rw[List.any_eq_false];intro y j;obtain⟨z,t,c⟩:=l y (Array.mem_toList_iff.mp j);simp[DictEntry.refKey,c]
  have r:¬f.toList.any (·.refKey)=true:=by rw[a];exact bj
  rw[ah r];exact congrArg some e
theorem ZA.look{h:Heap}{x d C:Addr}{c:hH}(I:ZA h x d C c):∃b,PySem.W.InstAt h x (PySem.W.instObj C d) C (some b)/\∀a,PySem.W.lookIn a b=some (c a):=let ⟨b,ho,hl⟩:=MW I.ns
 ⟨b,⟨I.obj,rfl,rfl,ho⟩,hl⟩
section
variable{e:Program}{w:World}{A:Around}{E:f5}{s:Shared}{K:gh}{x i C f:Addr}{j:hH}{c:Str}{v:Value}
theorem Sh{a:Bool}{Q:f5}(X:K.In s.heap)(I:ZA s.heap x i C j)(m:PySem.W.plainGet K C c=true)(b:PySem.W.hasDictIn K C=true)(g:PySem.W.findIn K (.ref C) c=some none)(d:j c=some v)(l:PySem.W.handedIn v=true)(h:Q v { s with toks:=s.toks+1 }):wpAny (model e w) A (getAttr (.ref x) c a) Q E s:=by
 obtain⟨n,J,k⟩:=I.look;exact PySem.W.get_value X J (PySem.W.plainGet_of m).1 (PySem.W.findObj_own b g rfl (by rw[k,d])) l h
theorem Se{ns:hL}{Q:Unit->Shared->Prop}(X:K.In s.heap)(I:ZA s.heap x i C j)(G:PySem.W.findIn K (.ref C) "__setattr__"=some (some (.builtin "object.__setattr__")))(q:PySem.W.plainOver K C=true)(H:PySem.W.takerIn K C c=some none)(u:PySem.W.hasDictIn K C=true)(z:PySem.Within j ns)(F:ns.length<=sizeLine)(h:∀k,ZA k x i C (λy=>if y=c then some v else j y)->Heap.SameBut i s.heap k->Q () { s with heap:=k,toks:=s.toks+2 }):wpAny (model e w) A (setAttr (.ref x) c v) Q E s:=by
 obtain⟨O,J,N⟩:=I.look;refine PySem.W.set_plain X J G (PySem.W.osa_open (s:={ s with toks:=s.toks+1 }) (r:=none) X J q H λb=>?_);obtain⟨M,B,l⟩:=PySem.W.any_some u;have D:s.heap.get? x=some ⟨.ref C,some i,.plain,#[]⟩:=I.obj;refine ak (bh (ak (ak (wpAny_loadPart D (ak (PySem.W.Looks.here (s:={ s with toks:=s.toks+1 }) (PySem.W.looks_clsIn X B) ?_))))));rw[l];refine bh (a:=some i) (ak (bh (ak ?_)));refine wpAny_nsSet1 (s:={ s with toks:=s.toks+1 }) I.ns λk g d=>?_;obtain⟨L,t,p,n,m,o⟩:=g.count (PySem.Within.cons c v z);refine ak (wpAny_lookBehind n (by rw[m];exact pastItsLine_dict (aN o (by rw[aD];lia))) ?_);exact bh (h _ ⟨(d.2 _ (Ne.symm I.ne)).trans I.obj,g,I.ne⟩ d)
theorem Ql{R:Result->Shared->Prop}{b:hD}{k:List (Str×Value)}(X:K.In s.heap)(n:PySem.W.makesIn K C=true)(m:PySem.W.findIn K (.ref C) "__init__"=some (some (.ref f)))(l:PySem.W.typeIn K (.ref f)=some (.type "function"))(h:codeAny (model e w) (A.under (.builtin "type.__call__" ⟨.ref C::b,k⟩)) (.call (.ref f) ⟨.ref (s.heap.objs.size+1)::b,k⟩) (PySem.W.InitBack (s.heap.objs.size+1) R)
 { s with heap:=(s.heap.push PySem.W.emptyDict).push (PySem.W.instObj C s.heap.objs.size) }):codeAny (model e w) A (.call (.ref C) ⟨b,k⟩) R s:=by
 obtain⟨o,g,d,t,os⟩:=s;exact PySem.W.make_core (PySem.W.makes_of X n) (PySem.W.looks_findIn X m) (λa=>PySem.W.bind_fn X a l) (.inl rfl) h
end
def bA(f:Str)(v:V):List (Str×V)->List (Str×V)
 | []=>[(f,v)]
 | (g,x)::r=>if g=f then(g,v)::r else(g,x)::bA f v r
theorem cQ(f g:Str)(v:V):∀b:List (Str×V),(bA f v b).lookup g=if g=f then some v else b.lookup g
 | []=>by
   show List.lookup g [(f,v)]=_;by_cases h:g=f
   .have hb:(g==f)=true:=jZ.mpr h;simp only[List.lookup,hb,aj h]
   .have hb:(g==f)=false:=beq_eq_false_iff_ne.mpr h;simp only[List.lookup,hb,ah h]
 | (k,x)::r=>by
   have c:=cQ f g v r;rw[show bA f v ((k,x)::r)=(if k=f then(k,v)::r else(k,x)::bA f v r)from rfl];by_cases a:k=f
   .rw[aj a];by_cases h:g=k
    .have hb:(g==k)=true:=jZ.mpr h;simp only[List.lookup,hb,aj (h.trans a)]
    .have hb:(g==k)=false:=beq_eq_false_iff_ne.mpr h;simp only[List.lookup,hb,ah (λe:g=f=>h (e.trans a.symm))]
   .rw[ah a];by_cases h:g=k
    .have hb:(g==k)=true:=jZ.mpr h;simp only[List.lookup,hb,ah (λe:g=f=>a (h.symm.trans e))]
    .have hb:(g==k)=false:=beq_eq_false_iff_ne.mpr h;simp only[List.lookup,hb];exact c
theorem xC(f:Str)(v:V):∀a:List (Str×V),f∈(bA f v a).map (·.1)/\∀g,g∈a.map (·.1)->g∈(bA f v a).map (·.1)
 | []=>⟨by simp[bA],λg h=>by simp at h⟩
 | (k,x)::r=>by
   obtain⟨d,c⟩:=xC f v r;rw[show bA f v ((k,x)::r)=(if k=f then(k,v)::r else(k,x)::bA f v r)from rfl];by_cases b:k=f
   .rw[aj b];subst b;exact⟨by simp,λg h=>by simpa using h⟩
   .rw[ah b];refine⟨?_,λg h=>?_⟩
    .rw[az];exact aF _ d
    .rw[az]at h ⊢;rcases aq.mp h with e|e
     .exact aq.mpr (.inl e)
     .exact aF _ (c g e)
theorem zA(f:Str)(v:V):∀a:List (Str×V),(bA f v a).length<=a.length+1
 | []=>by simp[bA]
 | (k,x)::r=>by
   have c:=zA f v r;rw[show bA f v ((k,x)::r)=(if k=f then(k,v)::r else(k,x)::bA f v r)from rfl];by_cases b:k=f
   .rw[aj b,aD,aD];lia
   .rw[ah b,aD,aD];lia
theorem rW.some_of{v:V}{o:Option Value}(r:rW (some v) o):∃u,o=some u/\RelV v u:=by
 cases o with
 | none=>exact(show False from r).elim
 | some u=>exact⟨u,rfl,r⟩
theorem LW{v:V}{u:Value}(r:RelV v u):PySem.W.handedIn u=true:=by
 cases v with
 | π=>cases(show u=Value.none from r);rfl
 | bl b=>cases(show u=Value.bool b from r);rfl
 | int i=>obtain⟨t,e⟩:=(show ∃t,u=Value.int i t from r);cases e;rfl
 | str x=>obtain⟨t,e⟩:=(show ∃t,u=Value.str x t from r);cases e;rfl
 | YW b=>obtain⟨t,e⟩:=(show ∃t,u=Value.bytes b t from r);cases e;rfl
 | flt b=>obtain⟨t,e⟩:=(show ∃t,u=Value.float b t from r);cases e;rfl
 | ref a=>cases(show u=Value.ref a from r);rfl
 | ty n=>cases(show u=Value.type n from r);rfl
section
variable{P:Program}{w:World}{H i:Hp}{h j:Heap}{a C c:Addr}{b g:List (Str×V)}
theorem Di(m:ϧ P w H h)(e:H a=some (.ins C c b)):∃k,ZA h a c C k/\(∀f,rW (b.lookup f) (k f))/\PySem.Within k (b.map (·.1))/\b.length<=1000/\H c=some (.own a):=by
 obtain⟨d,z,ne,l,k,n,r,q⟩:=(show Γ P w H h a (.ins C c b)from m a _ e);exact⟨k,⟨l,n,ne⟩,r,q,z,d⟩
end
structure Cls(K:gh)(C:Addr):Prop where
 pg:PySem.W.plainGet K C Str.empty=true
 hd:PySem.W.hasDictIn K C=true
 po:PySem.W.plainOver K C=true
 sa:PySem.W.findIn K (.ref C) "__setattr__"=some (some (.builtin "object.__setattr__"))
theorem Cls.get{K:gh}{C:Addr}(c:Cls K C)(f:Str):PySem.W.plainGet K C f=true:=c.pg
def Ο(K:gh)(C:Addr)(f:Str):Prop:=PySem.W.findIn K (.ref C) f=some none
theorem Ο.aej{K:gh}{C:Addr}{f:Str}(n:Ο K C f):PySem.W.takerIn K C f=some none:=by
 unfold PySem.W.takerIn;rw[show PySem.W.findIn K (.ref C) f=some none from n]
 rfl
section
variable{X:Cx}{d:gn}{j:St}{H:Hp}{s:Shared}{a C k:Addr}{i:List (Str×V)}{f:Str}{v:V}{A:Around}{E:f5}
theorem KG{b:Bool}{Q:f5}(I:Inv X d j H s)(e:H a=some (.ins C k i))(c:Cls X.K C)(n:Ο X.K C f)(l:i.lookup f=some v)(h:∀u m,Inv X d j H m->RelV v u->Q u m):wpAny (model X.prog X.w) A (getAttr (.ref a) f b) Q E s:=by
 obtain⟨q,O,r,_,_,_⟩:=Di I.χ e;obtain⟨u,p,g⟩:=rW.some_of (v:=v) (o:=q f) (by rw[<-l];exact r f);exact Sh I.Rw O (c.get f) c.hd n p (LW g) (h u _ (I.tok _) g)
theorem K1{y:V}{u:Value}{Q:Unit->Shared->Prop}(I:Inv X d j H s)(e:H a=some (.ins C k i))(c:Cls X.K C)(n:Ο X.K C f)(N:i.length<1000)(D:RelV y u)(h:∀p,Inv X d j (upd H a (.ins C k (bA f y i))) p->Q () p):wpAny (model X.prog X.w) A (setAttr (.ref a) f u) Q E s:=by
 obtain⟨t,O,r,B,_,m⟩:=Di I.χ e;have G:(i.map (·.1)).length<=sizeLine:=by rw[aa,sizeLine_eq];lia
 refine Se I.Rw O c.sa c.po n.aej c.hd B G λJ l F=>h _ ?_;have hd:∃o,J.get? k=some o:=let ⟨o,_,_,e',_⟩:=l.ns;⟨o,e'⟩;refine I.write (x:=a) (e:=k) (by rw[e];exact True.intro) (.inr m) (λb q M z=>(F.2 b M).trans z) hd ?_;refine⟨by rw[aP O.ne];exact m,?_,O.ne,l.obj,_,l.ns,λg=>?_,λg L=>?_⟩
 .have:=zA f y i;lia
 .show rW ((bA f y i).lookup g) (if g=f then some u else t g);rw[cQ];by_cases q:g=f
  .rw[aj q,aj q];exact D
  .rw[ah q,ah q];exact r g
 .by_cases q:g=f
  .rw[q];exact(xC f y i).1
  .refine(xC f y i).2 g (B g λz=>L ?_);show(if g=f then some u else t g)=none;rw[ah q];exact z
theorem Inv.made(I:Inv X d j H s):Inv X d j (upd (upd H s.heap.objs.size (.own (s.heap.objs.size+1))) (s.heap.objs.size+1) (.ins C s.heap.objs.size []))
 { s with heap:=(s.heap.push PySem.W.emptyDict).push (PySem.W.instObj C s.heap.objs.size) }:=by
 have c:(s.heap.push PySem.W.emptyDict).get? s.heap.objs.size=some PySem.W.emptyDict:=bc s.heap rfl;have m:((s.heap.push PySem.W.emptyDict).push (PySem.W.instObj C s.heap.objs.size)).get? (s.heap.objs.size+1)=some (PySem.W.instObj C s.heap.objs.size):=by
  have:=bc (s.heap.push PySem.W.emptyDict) (o:=PySem.W.instObj C s.heap.objs.size) rfl
  rwa [dF]at this
 have n:(s.heap.push PySem.W.emptyDict).Ns s.heap.objs.size (λ_=>none):=⟨PySem.W.emptyDict,#[],_,c,rfl,(λe h=>absurd h (by simp)),λ_=>rfl⟩;have g:=I.laid (a:=s.heap.objs.size) (o:=.own (s.heap.objs.size+1)) (h':=s.heap.push PySem.W.emptyDict) (t':=s.toks) (λb u q=>aA _ q) (ax _) ⟨_,c⟩;refine g.laid (a:=s.heap.objs.size+1) (o:=.ins C s.heap.objs.size []) (t':=s.toks) (λb u q=>aA _ q) (kU (dF _ _)) ?_;have ne:s.heap.objs.size≠s.heap.objs.size+1:=aX (fP _);refine⟨by rw[aP ne,aw],bx _,ne,m,λ_=>none,(Heap.Ns1.of_empty n).at λo q=>aA _ q,λ_=>True.intro,λy l=>absurd rfl l⟩
theorem RV{b:Program}{w:World}{c:Env}{e:Expr}{f:Str}{l:Pos}{s:Shared}{Q:f5}(m:attributeBase e f c (eval e c)=eval e c)(h:wpAny (model b w) A (eval e c) (λo g=>wpAny (model b w) A (getAttr o f true) Q E g) E s):wpAny (model b w) A (eval (.Attribute e f l) c) Q E s:=Attribute_any_ h (by rw[arm_eval_Attribute,m])
end
def OW(K:gh)(d:TE)(f:Str):TE:=λe H Q=>d e H λx c=>∃a C g b v,x=.ref a/\c a=some (.ins C g b)/\Cls K C/\Ο K C f/\b.lookup f=some v/\Q v c
def Oj(K:gh)(g i:TE)(f:Str):TS:=λD b H=>i b H λy h=>g b h λx e=>∃a C d c,x=.ref a/\e a=some (.ins C d c)/\Cls K C/\Ο K C f/\c.length<1000/\D.nx b (upd e a (.ins C d (bA f y c)))
section
variable{X:Cx}{o e b:Expr}{f:Str}{g d k:Pos}{i j:TE}
theorem dz(r:PE X e i)(D:attributeBase e f X.env (eval e X.env)=eval e X.env):PE X (.Attribute e f g) (OW X.K i f):=by
 intro m s w H Q I h;refine RV D (dX (r m s w H _ I h) λu F x t y p ⟨a,C,J,G,v,E,z,c,n,l,q⟩=>?_);subst E;obtain rfl:u=Value.ref a:=p;exact KG y z c n l λL M A B=>⟨v,t,A,B,q⟩
theorem r9(L:PE X o i)(G:PE X b j)(M:swapsWith b (some (.Attribute o f d)) g.line X.env=pure false):PS X (.Assign [.Attribute o f d] b g) (Oj X.K i j f):=by
 intro m s p H D I h;refine plainObj_wpAny_Assign_Attribute (dX (G m s p H _ I h) λu r y v A z q=>dX (L m r p v _ A q) λw R x Q J t ⟨a,C,P,O,N,E,c,n,l,B⟩=>?_) M;subst N;obtain rfl:w=Value.ref a:=t;exact K1 J E c n l z λS F=>⟨p,_,F,B⟩
end
section
variable{X:Cx}{d:gn}{f:St}{H:Hp}{s:Shared}{A:Around}{E:f5}{Q:f5}{c:Value}{b:Bool}
inductive Ac(K:gh)(H:Hp):V->Value->Prop where
 | π:Ac K H .π (.type "NoneType")
 | bl (x:Bool):Ac K H (.bl x) (.type "bool")
 | int (i:Int):Ac K H (.int i) (.type "int")
 | str (x:Str):Ac K H (.str x) (.type "str")
 | flt (x:UInt64):Ac K H (.flt x) (.type "float")
 | lst {a:Addr} {xs:List V} (e:H a=some (.lst xs)):Ac K H (.ref a) (.type "list")
 | YX {a:Addr} {o:Obj} {xs:List V} (e:H a=some (.YX o (.lst xs))):Ac K H (.ref a) (.type "list")
 | tup {a:Addr} {xs:List V} (e:H a=some (.tup xs)):Ac K H (.ref a) (.type "tuple")
 | dK {a:Addr} {η:List (Key×V)} (e:H a=some (.dK η)):Ac K H (.ref a) (.type "dict")
 | dT {a:Addr} {η:List (List Key×V)} (e:H a=some (.dT η)):Ac K H (.ref a) (.type "dict")
 | ins {a C dx:Addr} {fs:List (Str×V)} (e:H a=some (.ins C dx fs)) (cl:Cls K C) (ha:PySem.W.findIn K (.ref C) "__class__"=some (some (.builtin "object.__class__")))
  (hn:PySem.W.specialIn K (.builtin "object.__class__") "__get__"=some (some (.builtin "getset_descriptor.__get__"))) (htk:PySem.W.takesIn K (.builtin "object.__class__")=some true)
  (hm:PySem.W.mroIn K C (.type "object")=some true):Ac K H (.ref a) (.ref C)
theorem Me{x:V}{u t:Value}(I:Inv X d f H s)(g:RelV x u)(v:Ac X.K H x t)(e:PySem.W.kitOne X.K t c=some b)(h:∀B,Q (.bool b) { s with toks:=B }):wpAny (model X.prog X.w) A (call (.builtin "isinstance") [u,c]) Q E s:=by
 cases v with
 | π=>cases(show u=Value.none from g);exact de PySem.W.kitx_none I.Rw True.intro e (λz=>nomatch z) h
 | bl y=>cases(show u=Value.bool y from g);exact de PySem.W.kitx_bool I.Rw True.intro e (λz=>nomatch z) h
 | int i=>obtain⟨t,q⟩:=(show ∃t,u=Value.int i t from g);cases q;exact de PySem.W.kitx_int I.Rw True.intro e (λz=>nomatch z) h
 | str y=>obtain⟨t,q⟩:=(show ∃t,u=Value.str y t from g);cases q;exact de PySem.W.kitx_str I.Rw True.intro e (λz=>nomatch z) h
 | flt y=>obtain⟨t,q⟩:=(show ∃t,u=Value.float y t from g);cases q;exact de PySem.W.kitx_float I.Rw True.intro e (λz=>nomatch z) h
 | @lst a k ea=>
   cases(show u=Value.ref a from g);obtain⟨_,_,n,_,j⟩:=(show Γ X.prog X.w H s.heap a (.lst k)from I.χ a _ ea);exact de PySem.W.kitx_list I.Rw ⟨_,j,rfl⟩ e (λz=>nomatch z) h
 | @YX a ob k ea=>
   cases(show u=Value.ref a from g);obtain⟨_,_,_,n,_,j⟩:=(show Γ X.prog X.w H s.heap a (.YX ob (.lst k))from I.χ a _ ea);exact de PySem.W.kitx_list I.Rw ⟨_,j,rfl⟩ e (λz=>nomatch z) h
 | @tup a k ea=>
   cases(show u=Value.ref a from g);obtain⟨_,_,_,p⟩:=(show Γ X.prog X.w H s.heap a (.tup k)from I.χ a _ ea);obtain⟨o,j,l,_⟩:=p;exact de PySem.W.kitx_tuple I.Rw ⟨o,j,l⟩ e (λz=>nomatch z) h
 | @dK a η ea=>
   cases(show u=Value.ref a from g);obtain⟨_,_,D,_,p⟩:=(show Γ X.prog X.w H s.heap a (.dK η)from I.χ a _ ea);obtain⟨o,r,m,j,l,_⟩:=p;exact de PySem.W.kitx_dict I.Rw ⟨o,j,l.1⟩ e (λz=>nomatch z) h
 | @dT a η ea=>
   cases(show u=Value.ref a from g);obtain⟨_,_,k,_,o,r,m,j,l,_⟩:=(show Γ X.prog X.w H s.heap a (.dT η)from I.χ a _ ea);exact de PySem.W.kitx_dict I.Rw ⟨o,j,l.1⟩ e (λz=>nomatch z) h
 | @ins a C dx fs ea cl ha hn htk hm=>
   cases(show u=Value.ref a from g);obtain⟨F,O,_⟩:=Di I.χ ea;obtain⟨G,J,_⟩:=O.look;exact de (PySem.W.kitx_own (cl.get _) cl.hd ha hn htk hm) I.Rw J e (λz=>nomatch z) h
end
structure Ν(k:Nat)(A:Around):Prop where
 hd:A.handled=none
 dp:A.depth+3*k+5<recursionLimit
 un:A.units+16*k+200<cLine
theorem Ν.mono{j k:Nat}{A:Around}(r:Ν k A)(h:j<=k):Ν j A:=⟨r.hd,by have:=r.dp;lia,by have:=r.un;lia⟩
theorem Ν.deeper{k:Nat}{A:Around}(r:Ν (k+1) A)(a:Env):Ν k (A.deeper a):=⟨r.hd,by have:=r.dp;show A.depth+1+3*k+5<_;lia,by have:=r.un;show A.units+3+16*k+200<_;lia⟩
theorem Lx{A:Around}{C:Addr}{b:hD}{a:List (Str×Value)}:(A.under (.builtin "type.__call__" ⟨.ref C::b,a⟩)).depth=A.depth+1:=by
 first|rfl|simp[Around.under,Code.weight,Code.isCreation,Code.isGuard,Code.isCaller,Code.frames,Code.isFrame,guardIds]
theorem Ke{A:Around}{C:Addr}{b:hD}{a:List (Str×Value)}:(A.under (.builtin "type.__call__" ⟨.ref C::b,a⟩)).units=A.units+1:=by
 first|rfl|simp[Around.under,Code.cUnits,Code.frames,Code.isFrame]
theorem Ν.make{k:Nat}{A:Around}(r:Ν (k+1) A)(C:Addr)(a:hD)(b:List (Str×Value)):Ν k (A.under (.builtin "type.__call__" ⟨.ref C::a,b⟩)):=⟨r.hd,by have:=r.dp;rw[Lx];lia,by have:=r.un;rw[Ke];lia⟩
theorem Ν.depth{k:Nat}{A:Around}(r:Ν k A):A.depth<recursionLimit:=by have:=r.dp;lia
theorem Ν.units{k:Nat}{A:Around}(r:Ν k A):A.units+64<cLine:=by have:=r.un;lia
def acr:TA:=λ_ H Q=>Q [] H
def Ld(b:TE)(f:TA):TA:=λa H Q=>b a H λx c=>f a c λe d=>Q (x::e) d
section
variable{X:Cx}{e:Expr}{c:List Expr}{d:TE}{t:TA}{a:Pos}
theorem ay:PA X [] acr:=λ_ _ _ _ H Q I h=>gW ⟨[],H,I,.nil,h⟩
theorem ag(p:PE X e d)(n:PA X c t)(q:starEach (e::c) X.env=(false,eval e X.env)::starEach c X.env:=by rfl):PA X (e::c) (Ld d t):=by
 intro a b s f H Q I h;rw[q];show wpAny _ _ (spliced ((false,eval e X.env)::backTo a (starEach c X.env))) _ _ s;refine gL (dX (p b s f H _ I h) λu g x i l k v=>?_);exact uP (n a b g f i _ l v) λy z j r o w m=>⟨x::j,r,o,.cons k w,m⟩
def NL(t:TA):TE:=λg H Q=>t g H λf b=>f.length<=sizeLine/\∀p,b p=none->Q (.ref p) (upd b p (.tup f))
def QI(t:TA):TE:=λg H Q=>t g H λf b=>f.length<=sizeLine/\∀p,b p=none->Q (.ref p) (upd b p (.lst f))
theorem jd{x1}(h:PA X c t):PE X (.Tuple c x1 a) (NL t):=by
 intro f s m H Q I l;refine wpAny_Tuple_spliced (uP (h a f s m H _ I l) λo g k i j r ⟨z,q⟩=>⟨by rw[<-r.length];exact z,?_⟩);have n:i g.heap.objs.size=none:=j.χ.fresh (ax _);refine⟨.ref g.heap.objs.size,upd i g.heap.objs.size (.tup k),j.laid (t':=g.toks) (λb u e=>aA _ e) (ax _) ?_,rfl,q _ n⟩;exact⟨z,o,r,⟨_,bc _ rfl,rfl,_,rfl⟩⟩
theorem eI(h:PA X c t):PE X (.List c a) (QI t):=by
 intro f s m H Q I l;refine wpAny_List_spliced (uP (h a f s m H _ I l) λo g k i j r ⟨z,q⟩=>⟨by rw[<-r.length];exact z,?_⟩);have n:i g.heap.objs.size=none:=j.χ.fresh (ax _);refine⟨.ref g.heap.objs.size,upd i g.heap.objs.size (.lst k),j.laid (t':=g.toks) (λb u e=>aA _ e) (ax _) ?_,rfl,q _ n⟩;exact⟨z,o,0,r,bc _ rfl⟩
end
abbrev Sp:=List V->Hp->VK->XK->Prop
abbrev W7:=List Env->Hp->Shared->XK->Value->Shared->Prop
structure YZ(P:Program)(w:World)(K:gh)(mg:hH)(base:Heap)(A:Around)(outer:List Env)(s:Shared)(H:Hp):Prop where
 frames:A.frames=some outer
 mod:Mod K mg base
 bs:∀b o,base.get? b=some o->s.heap.get? b=some o/\H b=none
 ZY:base.objs.size<=s.heap.objs.size
 Ϲ:s.heap.FunFrames base outer
 frf:∀b∈ϝ outer,H b=none
 χ:ϧ P w H s.heap
 bare:AllBare s.gens
def CE(a:List Env)(P:Program)(w:World)(H:Hp)(s:Shared)(Q:VK)(u:Value)(b:Shared):Prop:=∃v c,b.os=s.os/\AllBare b.gens/\Un (ϝ a) [] H c s.heap b.heap/\ϧ P w c b.heap/\RelV v u/\Q v c
def CR(c:W7)(a:List Env)(P:Program)(w:World)(H:Hp)(s:Shared)(Q:VK)(E:XK)(r:Result)(b:Shared):Prop:=match r with
 | .ok (.ret u)=>CE a P w H s Q u b
 | .ok _=>False
 | .error e=>c a H s E e b
structure Ψ(P:Program)(w:World)(K:gh)(mg:hH)(base:Heap)(CX:W7)(k:Nat)(f:Addr)(fd:FuncData)(ps:hL)(sp:Sp):Prop where
 len:∀vs H Q E,sp vs H Q E->vs.length=ps.length
 run:∀(A:Around)(outer:List Env)(s:Shared)(H:Hp)(args:Args)(us:hD)(vs:List V)(Q:VK)(E:XK),Ν k A->YZ P w K mg base A outer s H->BindsTo s fd args (ps.zip us)->Vals vs us->sp vs H Q E->codeAny (model P w) A (.call (.ref f) args) (CR CX outer P w H s Q E) s
theorem YZ.make{P:Program}{w:World}{K:gh}{c:hH}{b:Heap}{A:Around}{a:List Env}{s:Shared}{H:Hp}(e:YZ P w K c b A a s H)(C:Addr)(d:hD)(f:List (Str×Value)):YZ P w K c b (A.under (.builtin "type.__call__" ⟨.ref C::d,f⟩)) a s H:=⟨by first|exact e.frames|(simpa[Around.under,Code.envs,Code.isFrame,pushEnvs]using e.frames),e.mod,e.bs,e.ZY,e.Ϲ,e.frf,e.χ,e.bare⟩
section
variable{X:Cx}{a:gn}{c:St}{H:Hp}{s e:Shared}
theorem Inv.acs(I:Inv X a c H s):YZ X.prog X.w X.K X.mg X.base X.A X.stack s H:=⟨I.ok.frames,I.ok.mod,I.bs,aN I.ok.ZY I.sz,I.stack,I.iN,I.χ,I.bare⟩
theorem Inv.after{Q:VK}{u:Value}(I:Inv X a c H s)(h:CE X.stack X.prog X.w H s Q u e):EP X a c Q u e:=by
 obtain⟨v,l,os,f,k,m,r,q⟩:=h;obtain⟨j,g,d,t,i⟩:=e;obtain rfl:i=s.os:=os;exact⟨v,l,I.call (h':=j) (g':=g) (d':=d) (t':=t) (ch:=[]) k m f (λb z=>absurd z (by simp)),r,q⟩
end
def rF(d:Sp)(a:List V)(E:XK)(t:TA):TE:=λb H Q=>t b H λc e=>d (c++a) e Q E
def Kk(C:Addr)(f:Sp)(c:List V)(E:XK)(t:TA):TE:=λd H Q=>t d H λe b=>∀x a,b x=none->b a=none->a≠x->f (.ref x::(e++c)) (upd (upd b a (.own x)) x (.ins C a [])) (λv g=>v=.π/\Q (.ref x) g) E
def Binds(K:gh)(d:FuncData)(c:hL)(b:hD):Prop:=∀(s:Shared)(a:hD),K.In s.heap->(a++b).length=c.length->BindsTo s d ⟨a,[]⟩ (c.zip (a++b))
theorem Binds.all{K:gh}{d:FuncData}{b:hL}(h:∀a:List Value,a.length=b.length->bindArgs d ⟨a,[]⟩=pure (b.zip a)):Binds K d b []:=λs a _ c=>by
 rw[bJ]at c ⊢;exact .of_eq (h a c)
def rL(d:W7)(X:Cx)(E:XK):Prop:=∀(a:gn)(c:St)(H:Hp)(s:Shared)(e:Value)(b:Shared),Inv X a c H s->d X.stack H s E e b->X.xe e b
section
variable{X:Cx}{j:W7}{k:Nat}{f C:Addr}{l:FuncData}{d:hL}{i:Sp}{c:List V}{a:hD}{E:XK}{x m:Str}{p b n:Pos}{e o:Expr}{g:List Expr}{y:TE}{t:TA}
theorem SQ{q:gn}{D:St}{H:Hp}{s:Shared}{Q:VK}{v:hD}{B:List V}(F:Ψ X.prog X.w X.K X.mg X.base j k f l d i)(M:Ν k X.A)(P:Binds X.K l d a)(O:Vals c a)(J:rL j X E)(I:Inv X q D H s)(r:Vals B v)(h:i (B++c) H Q E):wpAny (model X.prog X.w) X.A (call (.ref f) v) (EP X q D Q) X.xe s:=by
 have G:Vals (B++c) (v++a):=r.append O;have N:(v++a).length=d.length:=by rw[<-G.length];exact F.len _ _ _ _ h
 refine wpAny_call (jc (F.run X.A X.stack s H ⟨v,[]⟩ (v++a) (B++c) Q E M I.acs (P s v I.Rw N) G h) λr L z=>?_);cases r with
 | error e=>exact J q D H s e L I z
 | ok fl=>
   cases fl with
   | ret u=>exact I.after z
   | next=>exact False.elim z
   | brk=>exact False.elim z
   | cont=>exact False.elim z
theorem qX(F:Ψ X.prog X.w X.K X.mg X.base j k f l d i)(J:Ν k X.A)(O:Gl X x)(P:X.mg x=some (.ref f))(L:PySem.W.keepIn X.K (.ref f)=true)(R:Binds X.K l d a)(N:Vals c a)(G:rL j X E)(M:PA X (e::g) t)(v:(x==("__debug__":Str))=false:=by decide)(B:starEach (e::g) X.env=(false,eval e X.env)::starEach g X.env:=by rfl)(S:(backTo b (starEach g X.env)).any (·.1)=false:=by rfl):PE X (.Call (.Name x p) (e::g) [] b) (rF i c E t):=by
 intro u s D H Q I h;refine gC (sY I O P ?_ v);refine kb (h₀:=X.base) I.ok.mod.kin L (uP (M b u s D H _ I h) λY T V U z r q=>⟨z.Rw,?_⟩) B S;exact SQ F J R N G z r q
structure Mk(K:gh)(C f:Addr):Prop where
 makes:PySem.W.makesIn K C=true
 init:PySem.W.findIn K (.ref C) "__init__"=some (some (.ref f))
 fn:PySem.W.isFn K (.ref f)=true
 kp:PySem.W.keepIn K (.ref C)=true
theorem Qj{q:gn}{J:St}{H:Hp}{s:Shared}{Q:VK}{z:hD}{L:List V}(M:Mk X.K C f)(F:Ψ X.prog X.w X.K X.mg X.base j k f l d i)(S:Ν (k+1) X.A)(hb:Binds X.K l d a)(Y:Vals c a)(P:rL j X E)(I:Inv X q J H s)(r:Vals L z)(h:∀x D,H x=none->H D=none->D≠x->i (.ref x::(L++c)) (upd (upd H D (.own x)) x (.ins C D [])) (λv Z=>v=.π/\Q (.ref x) Z) E):wpAny (model X.prog X.w) X.A (call (.ref C) z) (EP X q J Q) X.xe s:=by
 have N:=h (s.heap.objs.size+1) s.heap.objs.size (I.χ.fresh (fK _)) (I.χ.fresh (ax _)) (aX (fP _));have G:=Inv.made (C:=C) I;have O:Vals (V.ref (s.heap.objs.size+1)::(L++c)) (Value.ref (s.heap.objs.size+1)::(z++a)):=.cons rfl (r.append Y);have W:(Value.ref (s.heap.objs.size+1)::z++a).length=d.length:=by
  have e:=O.length;rw[F.len _ _ _ _ N]at e;exact e.symm
 refine wpAny_call (Ql (f:=f) I.Rw M.makes M.init (jZ.mp M.fn) (jc (F.run _ X.stack _ _ ⟨Value.ref (s.heap.objs.size+1)::z,[]⟩ (Value.ref (s.heap.objs.size+1)::(z++a)) _ _ E (S.make C z [])
  (G.acs.make C z []) (hb _ (Value.ref (s.heap.objs.size+1)::z) G.Rw W) O N) λr R B=>?_))
 cases r with
 | error e=>exact P q J _ _ e R G B
 | ok fl=>
   cases fl with
   | ret u=>
     obtain⟨v,H',U,rv,ev,T⟩:=G.after B;subst ev;exact⟨rv,⟨V.ref (s.heap.objs.size+1),H',U,rfl,T⟩⟩
   | next=>exact False.elim B
   | brk=>exact False.elim B
   | cont=>exact False.elim B
theorem yy(M:Mk X.K C f)(F:Ψ X.prog X.w X.K X.mg X.base j k f l d i)(G:Ν (k+1) X.A)(N:Gl X x)(O:X.mg x=some (.ref C))(P:Binds X.K l d a)(L:Vals c a)(D:rL j X E)(J:PA X (e::g) t)(hdb:(x==("__debug__":Str))=false:=by decide)(z:starEach (e::g) X.env=(false,eval e X.env)::starEach g X.env:=by rfl)(R:(backTo b (starEach g X.env)).any (·.1)=false:=by rfl):PE X (.Call (.Name x p) (e::g) [] b) (Kk C i c E t):=by
 intro u s B H Q I h;refine gC (sY I N O ?_ hdb);refine kb (h₀:=X.base) I.ok.mod.kin M.kp (uP (J b u s B H _ I h) λV S U T v r q=>⟨v.Rw,?_⟩) z R;exact Qj M F G P L D v r q
end
structure ζ(N P:hL)(sc:Scope):Prop where
 kind:sc.kind=.function
 co:sc.isCoroutine=false
 gen:sc.isGenerator=false
 nd:N.Nodup
 pre:N.take P.length=P
 par:∀x∈P,sc.names.lookup x=some .local\/sc.names.lookup x=some .cell
 acu:∀y∈sc.names,y.2≠.free
theorem Er{b:Str->Option NameKind}{x:Str}:∀{a:List (Str×Value)}{m:hH},(∀v,(x,v)∉a)->bindL b a m x=m x
 | [],_,_=>rfl
 | (n,v)::r,m,h=>by
   unfold bindL;rw[Er λw c=>h w (aF _ c)];split
   .have:x≠n:=(by rintro rfl;exact h v aK);simp[this]
   .rfl
theorem En{b:Str->Option NameKind}{x:Str}:∀{a:List (Str×Value)}{m:hH},(∀v,(x,v)∉a)->bindC b a m x=m x
 | [],_,_=>rfl
 | (n,v)::r,m,h=>by
   unfold bindC;rw[En λw c=>h w (aF _ c)];split
   .rfl
   .have:x≠n:=(by rintro rfl;exact h v aK);simp[this]
theorem Ef{a:Str->Option NameKind}{x:Str}{v:Value}:∀{P:hL}{b:hD}{i:Nat}{m:hH},P.Nodup->P[i]?=some x->b[i]?=some v->a x=some .local->bindL a (P.zip b) m x=some v
 | [],_,_,_,_,h,_,_=>by simp at h
 | _::_,[],_,_,_,_,h,_=>by simp at h
 | p::P,w::b,0,m,nd,h1,h2,hk=>by
   simp at h1 h2;subst h1;subst h2;show bindL a ((p,w)::P.zip b) m p=_;unfold bindL;rw[Er λv c=>(bf.mp nd).1 (ig c).1,aj hk];simp
 | p::P,w::b,i+1,m,nd,h1,h2,hk=>by
   show bindL a ((p,w)::P.zip b) m x=_;unfold bindL;exact Ef (i:=i) (bf.mp nd).2 (by simpa using h1) (by simpa using h2) hk
theorem Ed{a:Str->Option NameKind}{x:Str}{v:Value}:∀{P:hL}{b:hD}{i:Nat}{m:hH},P.Nodup->P[i]?=some x->b[i]?=some v->a x≠some .local->bindC a (P.zip b) m x=some v
 | [],_,_,_,_,h,_,_=>by simp at h
 | _::_,[],_,_,_,_,h,_=>by simp at h
 | p::P,w::b,0,m,nd,h1,h2,hk=>by
   simp at h1 h2;subst h1;subst h2;show bindC a ((p,w)::P.zip b) m p=_;unfold bindC;rw[En λv c=>(bf.mp nd).1 (ig c).1,ah hk];simp
 | p::P,w::b,i+1,m,nd,h1,h2,hk=>by
   show bindC a ((p,w)::P.zip b) m x=_;unfold bindC;exact Ed (i:=i) (bf.mp nd).2 (by simpa using h1) (by simpa using h2) hk
def start(N:hL)(a:List V):St:=a.map some++List.replicate (N.length-a.length) none
def sA(g:W7)(P:Program)(w:World)(K:gh)(mg:hH)(base:Heap)(N:hL)(b:Str)(a:Scope)(f:Addr)(d:Value)(A:Around)(outer:List Env)(s:Shared)(H:Hp)(E:XK):Cx where
 prog:=P
 w:=w
 K:=K
 mg:=mg
 base:=base
 A:=A.deeper (envOfC b a s.heap.objs.size f d)
 N:=N
 s₀:=s
 H₀:=H
 env:=envOfC b a s.heap.objs.size f d
 outer:=outer
 stack:=envOfC b a s.heap.objs.size f d::outer
 ex:=[]
 calm:=true
 fn:=λ_=>true
 pn:=[]
 xe:=λe h=>wpAny (model P w) (A.deeper (envOfC b a s.heap.objs.size f d)) (leaving (envOfC b a s.heap.objs.size f d) e) (λ_ c=>g outer H s E e c) (λi c=>g outer H s E i c) h
theorem zH{a:Scope}{n:Nat}{x:Str}(h:a.names.lookup x=some .cell):∃c,(cellsFrom n a.names []).lookup x=some c:=by
 have q:=lY a.names n [] (.inl h);exact eT.mp q
theorem Nn{Q:W7}{P:Program}{w:World}{K:gh}{M:hH}{m:Heap}{N t:hL}{j:Str}{d:Scope}{f:Addr}{G:Value}{A:Around}{g:List Env}{s O:Shared}{H:Hp}{E:XK}{L:hD}{C:List V}(S:ζ N t d)(X:A.handled=none)(o:YZ P w K M m A g s H)(hl:C.length=t.length)(r:Vals C L)(x:InCallC s s.heap.objs.size (bindL (envOfC j d s.heap.objs.size f G).kindOf (t.zip L) λ_=>none) (cellsFrom (s.heap.objs.size+1) d.names []) (bindC (envOfC j d s.heap.objs.size f G).kindOf (t.zip L) λ_=>none) O):Inv (sA Q P w K M m N j d f G A g s H E) [] (start N C) H O:=by
 have ϰ:t.length<=N.length:=by have:=congrArg List.length S.pre;rw[bg]at this;lia
 obtain⟨I,tk,rfl,R⟩:=x.done;have B:∀b:Addr,b∉(sA Q P w K M m N j d f G A g s H E).ex:=λb z=>absurd (show b∈([]:g8)from z) (by simp);refine⟨⟨o.mod,S.kind,rfl,rfl,ax _,λy z c I l=>?_,λy hy=>?_,λy c _ h=>?_,λ_=>X,Around.frames_deeper o.frames,.inr ⟨rfl,rfl⟩,λb z=>absurd z (B b),o.bs,o.ZY,λb _ _=>B b,λb z=>absurd z (B b),o.Ϲ,o.frf⟩,rfl,o.bare,Un.kept R,⟨_,x.toInCall.ns,λi y v I l Z=>?_⟩,λy c h=>⟨_,x.cell y c h⟩,o.χ.fresh (ax _),λy c h=>?_,λp D=>absurd (show p∈([]:gn)from D) (by simp),o.χ.kept R,?_⟩
 .exact name_of_addr x.apart (dH I) (dH l)
 .have hy:d.names.lookup y=some .cell\/d.names.lookup y=some .free:=hy;rcases hy with hy|hy
  .exact zH hy
  .exact absurd rfl (S.acu _ (dH hy))
 .exact je (x.above y c (dH h))
 .have J:i<C.length:=by
   unfold start at l;by_cases J:i<C.length
   .exact J
   .rw[cT (by simpa using J)]at l;rw[d5]at l;split at l<;>cases l
  have U:C[i]?=some v:=by
   unfold start at l;rw[c8 (by simpa using J),aH]at l;cases e:C[i]? with
   | none=>rw[e]at l;cases l
   | some a=>rw[e]at l;cases l;rfl
  obtain⟨u,T,Y⟩:=r.get U;have D:t[i]?=some y:=by
   rw[<-S.pre,iJ (by lia)];exact I
  have F:t.Nodup:=by rw[<-S.pre];exact S.nd.sublist (List.take_sublist _ _)
  refine⟨u,Y,?_⟩;rcases S.par y (aJ D)with k|k
  .exact .inl ⟨k,Ef F D T k⟩
  .obtain⟨c,e⟩:=zH (n:=s.heap.objs.size+1) k;refine .inr ⟨.inl k,c,e,?_⟩;have q:=x.cell y c e;rw[Ed F D T (by show d.names.lookup y≠_;rw[k];decide)]at q;exact q
 .exact o.χ.fresh (je (x.above y c (dH h)))
 .unfold start;show _=N.length;rw[aO,aa,bU]
  lia
theorem Rz{M:W7}{P:Program}{w:World}{K:gh}{O:hH}{base:Heap}{k:Nat}{f:Addr}{l d:Str}{g:Arguments}{h:List Stmt}{a:Scope}{dV kV D pm p ct oc:Value}{an od:Option Addr}{Z4:Array (Option Value)}{N L:hL}{R:Sp}(lk:K.lookup f=some ⟨oc,od,.func (PySem.W.fnOf l d g h a dV kV D pm an p ct),Z4⟩)(Zy:PySem.W.codeIn K p d=true)(S:ζ N L a)(F:∀j H Q E,R j H Q E->j.length=L.length)(Ys:∀(A:Around) (c:List Env) (s:Shared) (H:Hp) (j:List V) (Q:VK) (E:XK),Ν k (A.deeper (envOfC d a s.heap.objs.size f p))->R j H Q E->∃t,YS (sA M P w K O base N d a f p A c s H E) h t/\t { nx:=λ_ m=>Q .π m,rt:=Q } (start N j) H):Ψ P w K O base M (k+1) f (PySem.W.fnOf l d g h a dV kV D pm an p ct) L R:=by
 refine⟨F,λA c s H ab us j Q E Y G hb r C=>?_⟩;have hl:=F _ _ _ _ C;have KX:K.In s.heap:=G.mod.kin.keeps λb o e=>(G.bs b o e).1;have U:s.heap.NoLimit:=G.mod.nolimit.keeps λb o e=>(G.bs b o e).1;have T:∀y∈L.zip us,a.names.lookup y.1=some .local\/(a.names.lookup y.1=some .cell/\((cellsFrom (s.heap.objs.size+1) a.names []).lookup y.1).isSome=true):=λ⟨n,v⟩ hy=>by
  rcases S.par n (ig hy).1 with q|q
  .exact .inl q
  .exact .inr ⟨q,lY _ _ _ (.inl q)⟩
 refine codeAny_call_function Y.depth (KX _ _ lk) rfl S.co S.gen rfl (PySem.W.codeRec_of KX Zy) (hb _ _ _ _ ?_);refine wpAny_newFunctionEnv_cells S.kind T λa5 he s1 x=>?_;subst he;refine⟨U.keeps x.toInCall.keep,codeAny_func ?_⟩;obtain⟨t,ht,hq⟩:=Ys A c s H j Q E (Y.deeper _) C;have I:Inv (sA M P w K O base N d a f p A c s H E) [] (start N j) H s1:=Nn S Y.hd G hl r x;refine cV (ht [] s1 (start N j) H _ I hq) (λfl X z=>?_) λe X z=>z;have B:∀{i:St}{m:Hp}{v:V}{u:Value},Inv (sA M P w K O base N d a f p A c s H E) [] i m X->RelV v u->Q v m->CE c P w H s Q u X:=λ{i m v u} J Z q=>⟨v,m,J.os,J.bare,J.base,J.χ,Z,q⟩
 cases fl with
 | ret u=>
   obtain⟨v,i,m,J,Z,q⟩:=z;exact B J Z q
 | next=>
   obtain⟨i,m,J,q⟩:=z;exact B (v:=V.π) (u:=Value.none) J rfl q
 | brk=>
   obtain⟨_,_,_,q⟩:=z;exact False.elim q
 | cont=>
   obtain⟨_,_,_,q⟩:=z;exact False.elim q
section
variable{X:Cx}{x:Str}{p a:Pos}{e:Expr}{b:List Expr}{t:TA}{c T:String}{r:List V->Hp->VK->Prop}
def tCB(r:List V->Hp->VK->Prop)(t:TA):TE:=λd H Q=>t d H λf g=>r f g Q
theorem OO(n:mZ X (.builtin c) r)(y:Gl X x)(z:X.mg x=none)(q:bootBuiltins x=some (.builtin c))(u:PA X (e::b) t)(w:x≠"__name__":=by decide)(f:(x==("__debug__":Str))=false:=by decide)(j:starEach (e::b) X.env=(false,eval e X.env)::starEach b X.env:=by rfl)(A:(backTo a (starEach b X.env)).any (·.1)=false:=by rfl):PE X (.Call (.Name x p) (e::b) [] a) (tCB r t):=by
 intro d s g H Q I h;refine gC (pG I y z q ?_ w f);exact PyProof.Rows.callWith_builtin1 (uP (u a d s g H _ I h) λv i o k m l B=>n d i g k o v Q m l B) j A
theorem DR(n:mZ X (.type T) r)(y:Gl X x)(z:X.mg x=none)(q:bootBuiltins x=some (.type T))(u:PA X (e::b) t)(w:x≠"__name__":=by decide)(f:(x==("__debug__":Str))=false:=by decide)(j:starEach (e::b) X.env=(false,eval e X.env)::starEach b X.env:=by rfl)(A:(backTo a (starEach b X.env)).any (·.1)=false:=by rfl):PE X (.Call (.Name x p) (e::b) [] a) (tCB r t):=by
 intro d s g H Q I h;refine gC (pG I y z q ?_ w f);exact cL (uP (u a d s g H _ I h) λv i o k m l B=>n d i g k o v Q m l B) j A
end
end L2
namespace HT
open PySem PyProof.Rows
section
variable{a:Program}{w:World}{A:Around}{E:f5}{s:Shared}
def XQ(n d:Nat):Option Int->Nat
 | none=>d
 | some v=>if v<0 then(v+(n:Int)).toNat else min v.toNat n
end
end HT
namespace L2
open PySem PySem.Spec PyProof.Rows
abbrev TO:=St->Hp->(Option Int->Hp->Prop)->Prop
def PO(X:Cx)(e:Option Expr)(t:TO):Prop:=∀(a:gn)(s:Shared)(b:St)(H:Hp)(Q:Option Int->Hp->Prop),Inv X a b H s->t b H Q->wpAny (model X.prog X.w) X.A (evalPart e X.env) (λu d=>∃o c,Inv X a b c d/\IsPart u o/\Q o c) X.xe s
def Xi:TO:=λ_ H Q=>Q none H
def BH(t:TE):TO:=λa H Q=>t a H λx b=>∃i,x=.int i/\Q (some i) b
section
variable{X:Cx}{e:Expr}{d:TE}{a c:Option Expr}{g f:TO}{j k:Pos}
theorem Du:PO X none Xi:=by
 intro b s i H Q I h;rw[evalPart_none];exact bh ⟨none,H,I,.none,h⟩
theorem vR(h:PE X e d):PO X (some e) (BH d):=by
 intro b s m H Q I o;rw[evalPart_some];refine dX (h b s m H _ I o) λu v x r n l p=>?_;obtain⟨i,rfl,q⟩:=p;obtain⟨t,rfl⟩:=l;exact⟨some i,r,n,.int i t,q⟩
def SlR(X:Cx)(r:V->Option Int->Option Int->Hp->VK->Prop):Prop:=∀(b:gn)(s:Shared)(i:St)(H:Hp)(x:V)(v m l:Value)(a c:Option Int)(h:Addr)(Q:VK),Inv X b i H s->RelV x v->s.heap.IsSliceOf h m l .none->IsPart m a->IsPart l c->r x a c H Q->∃T id,typeLookup (.type T) "__getitem__"=pure (some (.builtin id))/\s.TypeIs v T/\wpAny (model X.prog X.w) X.A (getItem v (.ref h)) (EP X b i Q) X.xe s
def tSl(r:V->Option Int->Option Int->Hp->VK->Prop)(d:TE)(g f:TO):TE:=λb H Q=>d b H λx i=>g b i λl m=>f b m λu h=>r x l u h Q
theorem vZ{r:V->Option Int->Option Int->Hp->VK->Prop}(J:SlR X r)(z:PE X e d)(O:PO X a g)(U:PO X c f):PE X (.Subscript e (.Slice a c none k) j) (tSl r d g f):=by
 intro i s n H Q I h;refine Subscript_ (dX (z i s n H _ I h) λv y x B E C Z=>?_);refine wpAny_Slice (ϋ (O i y n B _ E Z) λp S ⟨l,P,N,L,F⟩=>ϋ (U i S n P _ N F) λo m ⟨u,t,M,R,K⟩=>?_);rw[evalPart_none];refine bh ?_;have G:Inv X i n t { m with heap:=m.heap.push { cls:=.type "slice",data:=.fields #[p,o,.none] } }:=M.kept (t':=m.toks) λb ob q=>aA _ q;obtain⟨T,id,D,Y,W⟩:=J i { m with heap:=m.heap.push { cls:=.type "slice",data:=.fields #[p,o,.none] } } n t x v p o l u m.heap.objs.size Q G C (Heap.IsSliceOf.new ..) L R K;show wpAny (model X.prog X.w) X.A (subscriptTail e (.Slice a c none k) v (.ref m.heap.objs.size)) (EP X i n Q) X.xe { m with heap:=m.heap.push { cls:=.type "slice",data:=.fields #[p,o,.none] } };exact tail_any (ops:=[.ref m.heap.objs.size,v]) Y D W (by with_unfolding_all rfl)
def xJ(b:List V)(a c:Option Int):List V:=(b.drop (HT.XQ b.length 0 a)).take (HT.XQ b.length b.length c-HT.XQ b.length 0 a)
theorem HH(b:List V)(a c:Option Int):(xJ b a c).length<=b.length:=by
 unfold xJ;rw[bg,ee]
 lia
end
def ZC(n:Nat)(i:Int):Option Nat:=if 0<=i then(if i<n then some i.toNat else none)else if -(n:Int)<=i then some (i+n).toNat else none
def ϥ{b:Type}(a:List b)(i:Int):Option b:=(ZC a.length i).bind λj=>a[j]?
theorem Ja{n:Nat}{i:Int}{j:Nat}(h:ZC n i=some j):seqIndex? i n=some j/\j<n/\-(n:Int)<=i/\i<n:=by
 unfold ZC at h;by_cases b:0<=i
 .rw[aj b]at h;by_cases a:i<n
  .rw[aj a]at h;have e:i.toNat=j:=br h;exact⟨by rw[seqIndex_of b a,e],by lia,by lia,a⟩
  .rw[ah a]at h;cases h
 .rw[ah b]at h;by_cases a:-(n:Int)<=i
  .rw[aj a]at h;have e:(i+n).toNat=j:=br h;exact⟨by rw[seqIndex_neg (by lia) a,e],by lia,a,by lia⟩
  .rw[ah a]at h;cases h
theorem CU{b:Type}{a:List b}{i:Int}{v:b}(h:ϥ a i=some v):∃j,seqIndex? i a.length=some j/\a[j]?=some v/\j<a.length/\-(a.length:Int)<=i/\i<a.length:=by
 unfold ϥ at h;cases e:ZC a.length i with
 | none=>rw[e]at h;cases h
 | some j=>
   rw[e]at h;obtain⟨g,c,d,f⟩:=Ja e;exact⟨j,g,h,c,d,f⟩
theorem JQ{b:Type}{a:List b}{j:Nat}{v:b}(h:a[j]?=some v):ϥ a (j:Int)=some v:=by
 have c:j<a.length:=(ar.mp h).1;have e:ZC a.length (j:Int)=some j:=by
  unfold ZC;rw[aj (by lia),aj (by lia)];simp
 unfold ϥ;rw[e];exact h
theorem QO{b:Type}(a:List b)(v:b):ϥ (a++[v]) (-1)=some v:=by
 have c:(a++[v]).length=a.length+1:=by simp
 have e:ZC (a++[v]).length (-1)=some a.length:=by
  unfold ZC;rw[c,ah (by decide),aj (by lia)]
  congr 1
  lia
 unfold ϥ;rw[e];show(a++[v])[a.length]?=some v;simp
def Jl(b:Expr):Prop:=∀o i,subscripted b false o i=operate [o,i] (getItem o i)
def IxR(X:Cx)(r:R2):Prop:=∀(c a:Expr)(b:gn)(s:Shared)(d:St)(H:Hp)(x y:V)(v u:Value)(Q:VK),Inv X b d H s->RelV x v->RelV y u->r x y H Q->subscripted a false v u=operate [v,u] (getItem v u)->wpAny (model X.prog X.w) X.A (subscriptTail c a v u) (EP X b d Q) X.xe s
def MtR(X:Cx)(id:String)(r:V->List V->Hp->VK->Prop):Prop:=∀(a:gn)(s:Shared)(b:St)(H:Hp)(x:V)(d:List V)(v:Value)(c:hD)(Q:VK),Inv X a b H s->RelV x v->Vals d c->r x d H Q->wpAny (model X.prog X.w) X.A (call (.builtin id) (v::c)) (EP X a b Q) X.xe s
section
variable{X:Cx}{a b:Expr}{F G:TE}{E:Pos}
theorem iM{r:R2}(g:IxR X r)(j:PE X a F)(n:PE X b G)(k:Jl b):PE X (.Subscript a b E) (tOp r F G):=by
 intro c s f H Q I h;exact Subscript_ (NQ j n I h λv u m x y l i d e q=>g a b c m f l x y v u Q i d e q (k _ _))
def GZ(K:gh):R2:=λx y H Q=>∃p c i v,x=.ref p/\y=.int i/\μ K H p c/\ϥ c i=some v/\Q v H
def QA(K:gh):R2:=λx y H Q=>∃p c i v,x=.ref p/\y=.int i/\Ι K H p c/\ϥ c i=some v/\Q v H
theorem bF:IxR X (GZ X.K):=by
 intro l f c s m H x y v u Q I C M h o;obtain⟨p,T,i,z,rfl,rfl,L,D,q⟩:=h;cases C;obtain⟨t,rfl⟩:=M;obtain⟨k,r,g,U⟩:=I.list L;obtain⟨j,e,R,S,J,B⟩:=CU D;obtain⟨w,n,P⟩:=r.get R;have O:=r.length;have hn:=tR;have d:EP X c m Q w s:=⟨z,H,I,P,q⟩;by_cases A:0<=i
 .have hj:i.toNat=j:=by
   rw[seqIndex_of A B]at e;exact br e
  exact item_listR g.isList A (by lia) (by rw[hj];simpa using n) d o
 .have hj:(i+(k.toArray.size:Int)).toNat=j:=by
   rw[seqIndex_neg (by lia) J]at e;rw[aQ,<-O];exact br e
  exact subscriptTail_builtinR (x:=w) g.isList.typeIs slot_list_getitem.lookup
   (wpAny_getItem_list_neg (Q:=λr N=>r=w/\EP X c m Q r N) g.isList (by lia) (by rw[aQ]<;>lia) (by lia) (by rw[hj];simpa using n) ⟨rfl,d⟩) o
theorem ia:IxR X (QA X.K):=by
 intro f e c s g H x y v u Q I l o h L;obtain⟨p,S,i,z,rfl,rfl,n,m,q⟩:=h;cases l;obtain⟨t,rfl⟩:=o;obtain⟨J,r,k,T⟩:=I.tuple n;obtain⟨j,B,N,P,R,O⟩:=CU m;obtain⟨w,C,M⟩:=r.get N;have D:=r.length;have hn:=tR;have d:EP X c g Q w s:=⟨z,H,I,M,q⟩;exact subscriptTail_builtinR (x:=w) k.typeIs slot_tuple_getitem.lookup
  (getItem_tuple (j:=j) (Q:=λr A=>r=w/\EP X c g Q r A) k (by lia) (by lia) (by rw[aQ,<-D];exact B) (by simpa using C) ⟨rfl,d⟩) L
theorem LB(c:hD)(n j:Nat)(u:Value):Obj.mapSeq (·.setIfInBounds j u) { cls:=.type "list",data:=.seq c.toArray n }={ cls:=.type "list",data:=.seq (c.set j u).toArray n }:=by
 simp[Obj.mapSeq]
theorem Inv.lst{d:gn}{g:St}{H:Hp}{s:Shared}{p:Addr}{f:List V}(I:Inv X d g H s)(h:H p=some (.lst f)):∃(c:hD)(n:Nat),Vals f c/\s.heap.get? p=some { cls:=.type "list",data:=.seq c.toArray n }/\f.length<=sizeLine:=by
 obtain⟨z,c,n,r,e⟩:=I.χ p _ h;exact⟨c,n,r,e,z⟩
theorem Inv.acw{d:gn}{k:St}{H:Hp}{s:Shared}{p:Addr}{o j:List V}{g c:hD}{n i:Nat}{f:Obj->Obj}(I:Inv X d k H s)(h:H p=some (.lst o))(m:s.heap.get? p=some { cls:=.type "list",data:=.seq g.toArray n })(l:f { cls:=.type "list",data:=.seq g.toArray n }={ cls:=.type "list",data:=.seq c.toArray i })(r:Vals j c)(v:j.length<=sizeLine)(t:Nat):Inv X d k (upd H p (.lst j)) { s with heap:=s.heap.update p f,toks:=t }:=by
 have e:(s.heap.update p f).get? p=some { cls:=.type "list",data:=.seq c.toArray i }:=by
  rw[eP f m (by rw[l]<;>rfl),l]
 refine I.write (x:=p) (e:=p) (by rw[h];trivial) (.inl rfl) (λb u w q=>(di _ _ (Ne.symm w)).trans q) ⟨_,e⟩ ?_;exact⟨v,c,i,r,e⟩
def abW:V->V->V->Hp->(Hp->Prop)->Prop:=λo i v H Q=>∃p c k j,o=.ref p/\i=.int k/\H p=some (.lst c)/\ZC c.length k=some j/\Q (upd H p (.lst (c.set j v)))
theorem jT:Op X abW:=by
 intro c s A H o i v L O u Q I B K J h;obtain⟨p,z,k,j,rfl,rfl,l,D,q⟩:=h;cases B;obtain⟨t,rfl⟩:=K;obtain⟨d,n,r,f,C⟩:=I.lst l;obtain⟨e,N,m,w⟩:=Ja D;have g:=r.length;have M:=tR;have x:Inv X c A (upd H p (.lst (z.set j v))) { s with heap:=s.heap.update p (Obj.mapSeq (·.setIfInBounds j u)) }:=I.acw l f (LB d n j u) (r.set J j) (by rw[dB];exact C) s.toks
 by_cases y:0<=k
 .have hk:k.toNat=j:=by
   rw[seqIndex_of y w]at e;exact br e
  exact PySem.W.ki_setAt f y (by lia) (by rw[aQ,<-g];exact w) (by rw[hk];exact⟨_,x,q⟩)
 .have hk:(k+(d.toArray.size:Int)).toNat=j:=by
   rw[seqIndex_neg (by lia) m]at e;rw[aQ,<-g];exact br e
  exact PySem.W.ki_setBack f (by lia) (by rw[aQ,<-g];exact m) (by lia) (by rw[hk];exact⟨_,x,q⟩)
theorem GL(lo c:Option Int)(n:Nat):(sliceBounds lo c none n).1=((HT.XQ n 0 lo:Nat):Int)/\(sliceBounds lo c none n).2.1=((HT.XQ n n c:Nat):Int)/\(sliceBounds lo c none n).2.2=1:=by
 refine⟨?_,?_,rfl⟩
 .cases lo with
  | none=>simp[sliceBounds,HT.XQ]
  | some i=>
    simp only[sliceBounds,HT.XQ,Option.getD_none,show(1:Int)>0 by decide,if_true];by_cases h:i<0
    .simp only[h,if_true]<;>lia
    .simp only[h,if_false]<;>lia
 .cases c with
  | none=>simp[sliceBounds,HT.XQ]
  | some i=>
    simp only[sliceBounds,HT.XQ,Option.getD_none,show(1:Int)>0 by decide,if_true];by_cases h:i<0
    .simp only[h,if_true]<;>lia
    .simp only[h,if_false]<;>lia
theorem EM(c:hD)(lo d:Option Int):slicePick c.toArray lo d none=((c.drop (HT.XQ c.length 0 lo)).take (HT.XQ c.length c.length d-HT.XQ c.length 0 lo)).toArray:=by
 obtain⟨g,f,e⟩:=GL lo d c.toArray.size;unfold slicePick;rw[g,f,e];simp only[sliceRange_one,pick_run,aQ]<;>rfl
def Ux(K:gh):V->Option Int->Option Int->Hp->VK->Prop:=λx lo d H Q=>∃a c,x=.ref a/\μ K H a c/\∀p,H p=none->Q (.ref p) (upd H p (.lst (xJ c lo d)))
theorem yz:SlR X (Ux X.K):=by
 intro f s u H x v z w lo e t Q I i n k p h;obtain⟨a,c,rfl,j,q⟩:=h;cases i;obtain⟨m,r,g,l⟩:=I.list j;have d:=r.length;refine⟨"list",_,slot_list_getitem.lookup,g.isList.typeIs,?_⟩;refine wpAny_getItem_list_slice g.isList n k p .none (by simp) ?_ (by rw[aQ]<;>lia);rw[EM,<-d];refine⟨.ref s.heap.objs.size,_,I.laid (t':=s.toks) (o:=.lst (xJ c lo e)) (λb y q=>aA _ q) (ax _) ?_,rfl,q _ (I.χ.fresh (ax _))⟩;exact⟨aN (HH c lo e) l,_,0,(r.drop (HT.XQ c.length 0 lo)).take (HT.XQ c.length c.length e-HT.XQ c.length 0 lo),bc _ rfl⟩
def sR:V->Bool
 | .π=>true
 | .bl _=>true
 | .int _=>true
 | .str _=>true
 | _=>false
def eqV:V->V->Bool
 | .π,.π=>true
 | .bl a,.bl b=>a==b
 | .bl a,.int b=>(if a then 1 else 0)==b
 | .int a,.bl b=>a==(if b then 1 else 0)
 | .int a,.int b=>a==b
 | .str a,.str b=>a==b
 | _,_=>false
theorem Va{A:Around}{s:Shared}{y x:V}{u v:Value}(e:RelV y u)(c:RelV x v)(g:sR y=true)(f:sR x=true):SeqAt.EqAt A s u v (eqV y x):=by
 cases y with
 | π=>
   cases e;cases x with
   | π=>cases c;exact SeqAt.EqAt.same _
   | bl b=>cases c;exact SeqAt.EqAt.none_bool b
   | int b=>obtain⟨t,rfl⟩:=c;exact SeqAt.EqAt.none_int b t
   | str b=>obtain⟨t,rfl⟩:=c;exact SeqAt.EqAt.none_str b t
   | _=>exact absurd (show false=true from f) bj
 | bl a=>
   cases e;cases x with
   | π=>cases c;exact SeqAt.EqAt.bool_none a
   | bl b=>cases c;exact SeqAt.EqAt.bool_bool a b
   | int b=>obtain⟨t,rfl⟩:=c;exact SeqAt.EqAt.bool_int a b t
   | str b=>obtain⟨t,rfl⟩:=c;exact SeqAt.EqAt.bool_str a b t
   | _=>exact absurd (show false=true from f) bj
 | int a=>
   obtain⟨d,rfl⟩:=e;cases x with
   | π=>cases c;exact SeqAt.EqAt.int_none a d
   | bl b=>cases c;exact SeqAt.EqAt.int_bool a d b
   | int b=>obtain⟨t,rfl⟩:=c;exact SeqAt.EqAt.int_int a d b t
   | str b=>obtain⟨t,rfl⟩:=c;exact SeqAt.EqAt.int_str a d b t
   | _=>exact absurd (show false=true from f) bj
 | str a=>
   obtain⟨d,rfl⟩:=e;cases x with
   | π=>cases c;exact SeqAt.EqAt.str_none a d
   | bl b=>cases c;exact SeqAt.EqAt.str_bool a d b
   | int b=>obtain⟨t,rfl⟩:=c;exact SeqAt.EqAt.str_int a d b t
   | str b=>obtain⟨t,rfl⟩:=c;exact SeqAt.EqAt.str_str a d b t
   | _=>exact absurd (show false=true from f) bj
 | _=>exact absurd (show false=true from g) bj
def eqU(x:V)(u:Value):Bool:=match u with
 | .none=>eqV .π x
 | .bool b=>eqV (.bl b) x
 | .int i _=>eqV (.int i) x
 | .str z _=>eqV (.str z) x
 | _=>false
theorem L8{x y:V}{u:Value}(r:RelV y u)(f:sR y=true):eqU x u=eqV y x:=by
 cases y with
 | π=>cases r;rfl
 | bl b=>cases r;rfl
 | int i=>obtain⟨t,rfl⟩:=r;rfl
 | str z=>obtain⟨t,rfl⟩:=r;rfl
 | _=>exact absurd (show false=true from f) bj
theorem CJ{x:V}:∀{c:List V}{d:hD},Vals c d->c.all sR=true->d.any (eqU x)=c.any λy=>eqV y x
 | _,_,.nil,_=>rfl
 | y::c,u::d,.cons r t,f=>by
   rw[nJ,b5]at f;rw[g9,g9,L8 r f.1,CJ t f.2]
theorem Ap{A:Around}{s:Shared}{x:V}{v:Value}(g:RelV x v)(e:sR x=true):∀{d:List V}{c:hD},Vals d c->d.all sR=true->∀u∈c,SeqAt.EqAt A s u v (eqU x u)
 | _,_,.nil,_=>λu hu=>by cases hu
 | y::d,u::c,.cons r t,f=>λh hu=>by
   rw[nJ,b5]at f;rcases aq.mp hu with rfl|hu
   .rw[L8 r f.1];exact Va r g f.1 e
   .exact Ap g e t f.2 h hu
def inV(x:V)(c:List V):Bool:=c.any λy=>eqV y x
def rIn(K:gh)(d:Bool):R2:=λx y H Q=>∃p c,y=.ref p/\(μ K H p c\/Ι K H p c)/\sR x=true/\c.all sR=true/\Q (.bl (if d then !inV x c else inV x c)) H
theorem MK:Ϻ X (compareOp .In) (rIn X.K false):=by
 intro f s k H x y v u Q I e i h;obtain⟨p,j,rfl,hq,g,c,q⟩:=h;cases i;rcases hq with hq|hq
 .obtain⟨its,r,pl,hz⟩:=I.list hq;refine SeqAt.in_listAt (eqU x) pl.isList (λw d=>Ap e g r c w (by simpa using d)) ⟨.bl _,H,I,rfl,?_⟩;rw[show its.toArray.any (eqU x)=its.any (eqU x) by simp,CJ r c];exact q
 .obtain⟨its,r,pl,hz⟩:=I.tuple hq;refine SeqAt.in_tupleAt (eqU x) pl (λw d=>Ap e g r c w (by simpa using d)) ⟨.bl _,H,I,rfl,?_⟩;rw[show its.toArray.any (eqU x)=its.any (eqU x) by simp,CJ r c];exact q
theorem gI:mZ X (.builtin "len") (λf H Q=>∃p d,f=[.ref p]/\(μ X.K H p d\/Ι X.K H p d)/\Q (.int d.length) H):=by
 intro e s i H f j Q I r h;obtain⟨p,d,rfl,hq,q⟩:=h;obtain⟨u,rfl,g⟩:=wx r;cases g;have k:=tR;rcases hq with hq|hq
 .obtain⟨its,r',pl,hz⟩:=I.list hq;have c:=r'.length;exact Calls.call_len_list pl.isList (by simp only[aQ]<;>lia) ⟨.int d.length,H,I.tok _,⟨s.toks+1,by rw[aQ,c]⟩,q⟩
 .obtain⟨its,r',pl,hz⟩:=I.tuple hq;have c:=r'.length;exact len_tuple pl (by simp only[aQ]<;>lia) ⟨.int d.length,H,I.tok _,⟨s.toks+1,by rw[aQ,c]⟩,q⟩
theorem ou:mZ X (.type "list") (λz H Q=>∃p f,z=[.ref p]/\(μ X.K H p f\/Ι X.K H p f)/\∀l,H l=none->Q (.ref l) (upd H l (.lst f))):=by
 intro m s C H z D Q I r h;obtain⟨p,f,rfl,hq,q⟩:=h;obtain⟨u,rfl,B⟩:=wx r;cases B;have j:∀(c:hD),Vals f c->f.length<=sizeLine->∀(d:Heap)(i:Nat),(∀b A,s.heap.get? b=some A->d.get? b=some A)->d.get? s.heap.objs.size=some { cls:=.type "list",dict:=none,data:=.seq c.toArray i,slots:=#[] }->EP X m C Q (.ref s.heap.objs.size) { s with heap:=d }:=λc g t d i k e=>
  ⟨.ref s.heap.objs.size,_,I.laid (t':=s.toks) k (ax _) (show Γ X.prog X.w _ d _ (.lst f)from⟨t,c,i,g,e⟩),rfl,q _ (I.χ.fresh (ax _))⟩
 rcases hq with hq|hq
 .obtain⟨c,g,pl,t⟩:=I.list hq;have v:=g.length;obtain⟨o,x,y,n,hd⟩:=pl.isList;exact call_list_seq p (.inl rfl) x y hd (λd i k e=>j c g t d i k e) (by simp only[aQ]<;>lia)
 .obtain⟨c,g,pl,t⟩:=I.tuple hq;have v:=g.length;obtain⟨o,x,y,n,hd⟩:=pl;exact call_list_seq p (.inr rfl) x y hd (λd i k e=>j c g t d i k e) (by simp only[aQ]<;>lia)
theorem kZ:mZ X (.type "tuple") (λg H Q=>∃p d,g=[.ref p]/\((μ X.K H p d/\∀l,H l=none->Q (.ref l) (upd H l (.tup d)))\/(Ι X.K H p d/\Q (.ref p) H))):=by
 intro c s i H g v Q I r h;obtain⟨p,d,rfl,h⟩:=h;obtain⟨u,rfl,m⟩:=wx r;cases m;rcases h with⟨hq,q⟩|⟨hq,q⟩
 .obtain⟨its,r',pl,hz⟩:=I.list hq;have k:=r'.length;refine call_tuple_list pl.isList (λf n=>?_) (by simp only[aQ]<;>lia);have j:Inv X c i H { s with heap:=f }:=I.kept (t':=s.toks) n;have t:Inv X c i (upd H f.objs.size (.tup d)) { s with heap:=f.push { cls:=.type "tuple",data:=.seq its.toArray } }:=j.laid (t':=s.toks) (λb o e=>aA _ e) (ax _) (show Γ X.prog X.w _ _ _ (.tup d)from⟨hz,its,r',IsTup.new _ _⟩)
  exact⟨.ref f.objs.size,_,t,rfl,q _ (j.χ.fresh (ax _))⟩
 .obtain⟨its,r',pl,hz⟩:=I.tuple hq;exact call_tuple_same pl ⟨.ref p,H,I,rfl,q⟩
def tyV(K:gh)(T:String)(x:V)(H:Hp):Prop:=match x with
 | .str _=>T="str"
 | .int _=>T="int"
 | .ref p=>(T="list"/\∃d,μ K H p d)\/(T="tuple"/\∃o,K.lookup p=some o/\o.cls=.type "tuple"/\o.dict=none)\/(T="dict"/\((∃c,H p=some (.dK c))\/∃c,H p=some (.dT c)))\/(T="set"/\∃S n,H p=some (.set S n))
 | _=>False
theorem Mr{f:gn}{l:St}{H:Hp}{s:Shared}{T:String}{x:V}{v:Value}(I:Inv X f l H s)(r:RelV x v)(g:tyV X.K T x H):s.TypeIs v T/\∀a,v=.ref a->∃k,s.heap.get? a=some k/\k.dict=none:=by
 cases x with
 | str z=>
   obtain⟨t,rfl⟩:=r;cases(show T="str" from g);exact⟨typeIs_str s z t,λ_ e=>nomatch e⟩
 | int i=>
   obtain⟨t,rfl⟩:=r;cases(show T="int" from g);exact⟨typeIs_int s i t,λ_ e=>nomatch e⟩
 | ref p=>
   cases r;rcases g with⟨rfl,xs,hq⟩|⟨rfl,o,hk,hc,j⟩|⟨rfl,hk⟩|⟨rfl,S,n,hk⟩
   .obtain⟨its,_,pl,_⟩:=I.list hq;refine⟨pl.isList.typeIs,λa e=>?_⟩;cases e;obtain⟨o,n,e,c,j,_⟩:=pl;exact⟨o,e,j⟩
   .refine⟨⟨o,I.Rw p o hk,hc⟩,λa e=>?_⟩;cases e;exact⟨o,I.Rw _ o hk,j⟩
   .have z:∃o,s.heap.get? p=some o/\o.ExactDict:=by
     rcases hk with⟨η,hk⟩|⟨η,hk⟩
     .obtain⟨_,_,_,_,o,_,_,e,d,_⟩:=I.χ p _ hk;exact⟨o,e,d⟩
     .obtain⟨_,_,_,_,o,_,_,e,d,_⟩:=I.χ p _ hk;exact⟨o,e,d⟩
    obtain⟨o,e,d⟩:=z;refine⟨⟨o,e,d.1⟩,λa h=>?_⟩;cases h;exact⟨o,e,d.2.1⟩
   .obtain⟨o,_,_,_,e,d,_⟩:=I.χ p _ hk;refine⟨⟨o,e,d.1⟩,λa h=>?_⟩;cases h;exact⟨o,e,d.2.1⟩
 | _=>exact False.elim g
def PQ(K:gh)(T:String)(r:V->List V->Hp->VK->Prop)(D:TE):TE:=λd H Q=>D d H λx c=>tyV K T x c/\r x [] c Q
def tBM(K:gh)(T:String)(r:V->List V->Hp->VK->Prop)(D:TE)(t:TA):TE:=λc H Q=>D c H λx d=>tyV K T x d/\t c d λf e=>r x f e Q
variable{o e:Expr}{C:List Expr}{D:TE}{t:TA}{d:Str}{g m:Pos}{T B:String}{r:V->List V->Hp->VK->Prop}
theorem Bq(p:PlainAttrs T)(i:Slot T d B)(j:typeOf (.builtin B)=pure (.type "method_descriptor"))(J:MtR X B r)(w:PE X o D)(y:attributeBase o d X.env (eval o X.env)=eval o X.env:=by rfl)(f:(g.endLine==m.line)=true:=by rfl):PE X (.Call (.Attribute o d g) [] [] m) (PQ X.K T r D):=by
 intro c s l H Q I h;refine wpAny_Call_method0_late y f (dX (w c s l H _ I h) λv q x u n k ⟨A,L⟩=>?_);obtain⟨z,M⟩:=Mr n k A;exact⟨T,B,p,i,j,z,M,Calls.callWith_builtin rfl (PySem.evalArgs_none (J c q l u x [] v [] Q n k .nil L))⟩
theorem j4(w:PlainAttrs T)(i:Slot T d B)(l:typeOf (.builtin B)=pure (.type "method_descriptor"))(Y:MtR X B r)(A:PE X o D)(P:PA X (e::C) t)(J:attributeBase o d X.env (eval o X.env)=eval o X.env:=by rfl)(j:((backTo m (starEach (e::C) X.env)).all (λx=>!x.1)&&(backToKw m (keywordEach [] X.env)).all (λx=>x.1.isSome)
 && decide ((e::C).length+([]:List Keyword).length+(if([]:List Keyword).isEmpty then 0 else 1)<30))=true:=by rfl)(f:(g.endLine==m.line)=true:=by rfl)(S:starEach (e::C) X.env=(false,eval e X.env)::starEach C X.env:=by rfl)(n:(backTo m (starEach C X.env)).any (·.1)=false:=by rfl):PE X (.Call (.Attribute o d g) (e::C) [] m) (tBM X.K T r D t):=by
 intro c s k H Q I h;refine wpAny_Call_method_late J j f rfl (dX (A c s k H _ I h) λv y x z u q ⟨W,Z⟩=>?_);obtain⟨M,h2⟩:=Mr u q W;refine⟨T,B,w,i,l,M,h2,?_⟩;have p:=P m c y k z _ u Z;rw[S]at p ⊢;refine Calls.callWith_builtin (by show(false||(backTo m (starEach C X.env)).any (·.1))=false;rw[n]<;>rfl) (Calls.evalArgs_plain ?_);exact ϋ p λR V ⟨N,U,O,r2,L⟩=>Y c V k U x N v R Q O q r2 L
end
def MtM(X:Cx)(id:String)(r:V->List V->Hp->VK->Prop):Prop:=∀(a:gn)(s:Shared)(b:St)(H:Hp)(x:V)(d:List V)(v:Value)(c:hD)(Q:VK),Inv X a b H s->RelV x v->Vals d c->r x d H Q->wpAny (model X.prog X.w) X.A (call (.builtin id) (v::c)) (EP X a b Q) X.xe s
theorem Vals.one{x:V}{a:hD}(h:Vals [x] a):∃u,a=[u]/\RelV x u:=by
 cases h with
 | cons r t=>cases t;exact⟨_,rfl,r⟩
theorem Vals.two{x y:V}{a:hD}(h:Vals [x,y] a):∃u v,a=[u,v]/\RelV x u/\RelV y v:=by
 cases h with
 | cons r t=>
   obtain⟨v,e,q⟩:=Vals.one t;subst e;exact⟨_,v,rfl,r,q⟩
theorem Vals.zero:∀{a:hD},Vals [] a->a=[]
 | _,.nil=>rfl
theorem Vals.dropLast{a:List V}{b:hD}(h:Vals a b):Vals a.dropLast b.dropLast:=by
 induction h with
 | nil=>exact .nil
 | cons r t ih=>
   cases t with
   | nil=>exact .nil
   | cons q t'=>exact .cons r ih
theorem Vals.reverse{a:List V}{b:hD}(h:Vals a b):Vals a.reverse b.reverse:=by
 induction h with
 | nil=>exact .nil
 | cons r t ih=>rw[dD,dD];exact Vals.append ih (.cons r .nil)
theorem Vals.rep{a:List V}{b:hD}(h:Vals a b):∀k:Nat,Vals (List.replicate k a).flatten (List.replicate k b).flatten
 | 0=>.nil
 | k+1=>by
   rw[cD,cD,eZ,eZ];exact Vals.append h (Vals.rep h k)
theorem Kv{c:Type}(l:List c):l.eraseIdx (l.length-1)=l.dropLast:=by
 induction l with
 | nil=>rfl
 | cons a r ih=>
   cases r with
   | nil=>rfl
   | cons b r=>
     have e:(a::b::r).length-1=((b::r).length-1)+1:=by
      have f:(a::b::r).length=r.length+2:=rfl;have d:(b::r).length=r.length+1:=rfl
      lia
     rw[e,List.eraseIdx_cons_succ,ih]
     all_goals rfl
theorem DS(a:hD):∀(k:Nat)(b:hD),List.foldl (λf c=>f++c) b.toArray (List.replicate k a.toArray)=(b++(List.replicate k a).flatten).toArray
 | 0,b=>by simp
 | k+1,b=>by
   have e:b.toArray++a.toArray=(b++a).toArray:=by simp
   have d:(b++a)++(List.replicate k a).flatten=b++(List.replicate (k+1) a).flatten:=by
    rw[cD,eZ,bW]
   rw[<-d,<-DS a k (b++a),<-e,cD,List.foldl_cons]
section
variable{X:Cx}{a:gn}{c:St}{H:Hp}{s:Shared}{l b:Addr}{g d i:List V}
theorem Inv.aaV{h its':hD}{n:Nat}{f:Array Value->Array Value}{r:Nat}(I:Inv X a c H s)(k:H l=some (.lst g))(e:s.heap.get? l=some { cls:=.type "list",data:=.seq h.toArray n })(p:f h.toArray=its'.toArray)(m:Vals d its')(j:d.length<=sizeLine):Inv X a c (upd H l (.lst d)) { s with heap:=s.heap.update l (Obj.mapSeq f),toks:=r }:=by
 have q:=PySem.IsL.update e f;rw[p]at q;refine I.write (x:=l) (e:=l) (by rw[k];exact trivial) (.inl rfl) (λv u o t=>(di s.heap (Obj.mapSeq f) (Ne.symm o)).trans t) ⟨_,q⟩ ?_;exact⟨j,its',_,m,q⟩
theorem Inv.aep{e:hD}{t':Nat}(I:Inv X a c H s)(h:Vals d e)(f:d.length<=sizeLine):Inv X a c (upd H s.heap.objs.size (.lst d)) { s with heap:=s.heap.push { cls:=.type "list",data:=.seq e.toArray },toks:=t' }:=I.laid (λ_ _ q=>aA _ q) (ax _) ⟨f,e,0,h,bc _ rfl⟩
theorem Inv.fresh(I:Inv X a c H s):H s.heap.objs.size=none:=I.χ.fresh (ax _)
theorem Inv.Yt(I:Inv X a c H s)(h:H l=some (.lst g)):g.length<=sizeLine/\∃(f:hD)(n:Nat),Vals g f/\g.length=f.length/\s.heap.get? l=some { cls:=.type "list",data:=.seq f.toArray n }:=by
 obtain⟨z,f,n,r,e⟩:=I.χ l _ h;exact⟨z,f,n,r,r.length,e⟩
theorem Gd{n:Nat}(h:n<=sizeLine):Builtin.List.listTooLong n=false:=by
 unfold Builtin.List.listTooLong;exact bw (by lia)
end
section
variable{X:Cx}
def X4:V->List V->Hp->VK->Prop:=λx b H Q=>∃l a y,x=.ref l/\b=[y]/\H l=some (.lst a)/\a.length<sizeLine/\Q .π (upd H l (.lst (a++[y])))
theorem f6:MtM X "list.append" X4:=by
 intro c s j H x m v p Q I d g h;obtain⟨l,i,y,rfl,rfl,b,k,q⟩:=h;cases d;obtain⟨u,rfl,f⟩:=g.one;obtain⟨z,a,n,r,o,e⟩:=I.Yt b;refine call_meets F.slot_list_append ⟨_,e,rfl⟩ F.entry_list_append (F.args_list_append_2 _ _) (PySem.list_append l a.toArray n u (by rw[aQ];lia)) ⟨e,?_⟩;refine⟨.π,_,I.aaV (its':=a++[u]) b e (by simp) (r.append (.cons f .nil)) ?_,rfl,q⟩;rw[aO,List.length_singleton]
 lia
def aaW:V->List V->Hp->VK->Prop:=λx d H Q=>∃l b c a,x=.ref l/\d=[.ref b]/\H l=some (.lst c)/\H b=some (.lst a)/\c.length+a.length<=sizeLine/\Q .π (upd H l (.lst (c++a)))
theorem D9:MtM X "list.extend" aaW:=by
 intro g s B H x D v J Q I i w h;obtain⟨l,b,A,E,rfl,rfl,f,j,C,q⟩:=h;cases i;obtain⟨u,rfl,p⟩:=w.one;cases p;obtain⟨z,a,n,r,G,e⟩:=I.Yt f;obtain⟨K,c,t,y,o,k⟩:=I.Yt j;have d:a.toArray.size+c.toArray.size<=sizeLine:=by rw[aQ,aQ];lia
 have m:¬(!a.toArray.isEmpty&&Builtin.List.listTooLong (a.toArray.size+c.toArray.size))=true:=by
  rw[Gd d,Bool.and_false];exact bj
 refine call_meets F.slot_list_extend ⟨_,e,rfl⟩ F.entry_list_extend (F.args_list_extend_2 _ _)
  (AutoSeq1.list_extend_list_list_0 l a.toArray n b c.toArray t m (by rw[aQ];lia) (by lia)) ⟨e,k,?_⟩
 refine⟨.π,_,I.aaV (its':=a++c) f e (by simp) (r.append y) ?_,rfl,q⟩;rw[aO]
 lia
def aeq:V->List V->Hp->VK->Prop:=λx b H Q=>∃l a y,x=.ref l/\b=[]/\H l=some (.lst a)/\a[a.length-1]?=some y/\Q y (upd H l (.lst a.dropLast))
theorem Cg:MtM X "list.pop" aeq:=by
 intro f s t H x w v A Q I g o h;obtain⟨l,p,y,rfl,rfl,d,i,q⟩:=h;cases g;have b:=o.zero;subst b;obtain⟨z,a,n,r,j,e⟩:=I.Yt d;obtain⟨u,k,m⟩:=r.get i;have c:a.toArray[a.toArray.size-1]?=some u:=by
  show a.toArray[a.length-1]?=some u;rw[<-Array.getElem?_toList,<-j];exact k
 refine call_meets F.slot_list_pop ⟨_,e,rfl⟩ F.entry_list_pop (F.args_list_pop_1 _) (MeetsSeq.list_pop_last l a.toArray n u c (by rw[aQ];lia)) ⟨e,?_⟩;refine⟨y,_,I.aaV (its':=a.dropLast) d e ?_ r.dropLast ?_,m,q⟩
 .show a.toArray.eraseIdxIfInBounds (a.toArray.size-1)=a.dropLast.toArray;rw[aQ,List.eraseIdxIfInBounds_toArray,Kv]
 .rw[List.length_dropLast]
  lia
def aer:R2:=λx y H Q=>∃l b c a,x=.ref l/\y=.ref b/\H l=some (.lst c)/\H b=some (.lst a)/\c.length+a.length<=sizeLine/\∀p,H p=none->Q (.ref p) (upd H p (.lst (c++a)))
theorem Mn:Ϻ X (binaryOp .Add) aer:=by
 intro c s w H x y v u Q I g j h;obtain⟨l,b,t,B,rfl,rfl,f,i,A,q⟩:=h;cases g;cases j;obtain⟨z,a,n,r,C,e⟩:=I.Yt f;obtain⟨D,d,E,p,o,k⟩:=I.Yt i;refine PySem.P.add_list e k ?_ (by rw[aQ,aQ];lia);have m:a.toArray++d.toArray=(a++d).toArray:=by simp
 rw[m];exact⟨.ref _,_,I.aep (t':=s.toks) (r.append p) (by rw[aO];lia),rfl,q _ I.fresh⟩
def aes:R2:=λx y H Q=>∃l k a,x=.ref l/\y=.int k/\H l=some (.lst a)/\-(2^63)<=k/\k<2^63/\a.length*k.toNat<=sizeLine/\∀p,H p=none->Q (.ref p) (upd H p (.lst (List.replicate k.toNat a).flatten))
theorem R4{b:Type}(a:List b)(k:Nat):(List.replicate k a).flatten.length=k*a.length:=by
 induction k with
 | zero=>simp
 | succ k ih=>rw[cD,eZ,aO,ih,Nat.succ_mul,Nat.add_comm]
theorem qA:Ϻ X (binaryOp .Mult) aes:=by
 intro o s M H x y v u Q I A B h;obtain⟨l,k,L,rfl,rfl,w,E,K,p,q⟩:=h;cases A;obtain⟨t,rfl⟩:=B;obtain⟨z,b,n,r,G,e⟩:=I.Yt w;have c:b.toArray.size*k.toNat<=sizeLine:=by rw[aQ,<-G];exact p
 have j:¬b.toArray.size*k.toNat>(2^63-1)/8:=by
  have:(sizeLine:Nat)<=(2^63-1)/8:=by decide
  lia
 have i:¬(!Builtin.List.listFitsIndex k)=true:=by
  rw[fitsIndex_both E K];exact bj
 have D:¬Builtin.List.listTooLong (b.toArray.size*k.toNat)=true:=by
  rw[Gd c];exact bj
 have d:List.foldl (λg f=>g++f) #[] (List.replicate (if b.toArray.isEmpty=true then 0 else k.toNat) b.toArray)=(List.replicate k.toNat b).flatten.toArray:=by
  have J:∀m:Nat,List.foldl (λg f=>g++f) #[] (List.replicate m b.toArray)=(List.replicate m b).flatten.toArray:=λm=>by
   have:=DS b m [];rw[fW]at this;exact this
  rw[J];cases b with
  | nil=>simp
  | cons a r'=>rw[ah (by simp)]
 refine wpAny_binaryOp_repeat_ref (T:="list") (U:="int") (by decide) ⟨_,e,rfl⟩ (λC=>typeIs_int C k t) noFill_list_mul F.fills_int_mul F.slot_int_rmul repeat_list F.slot_int_index.lookup
  (call_meets F.slot_int_rmul (typeIs_int s k t) F.entry_int_rmul (F.args_int_rmul_2 _ _) (int___rmul___int_list k t l b.toArray n)
   ⟨e,rfl,⟨_,e,rfl⟩,call_meets F.slot_list_mul ⟨_,e,rfl⟩ F.entry_list_mul (F.args_list_mul_2 _ _) (AutoListH.list___mul___list_int_3 l b.toArray n k t i j D) ⟨e,?_⟩⟩)
 rw[d];exact⟨.ref _,_,I.aep (t':=s.toks) (r.rep k.toNat) (by rw[R4,jf];exact p),rfl,q _ I.fresh⟩
end
section
variable{a:Program}{w:World}{A:Around}{E:f5}{s:Shared}
set_option maxRecDepth 100000 in
end
section
variable{c:Type}[DecidableEq c]
def gj(a:List (c×V))(k:c):Option V:=(a.find? λb=>decide (b.1=k)).map (·.2)
def iK(b:List (c×V))(k:c)(v:V):List (c×V):=if(b.any λa=>decide (a.1=k))=true then b.map (λa=>if a.1=k then(a.1,v)else a)else b++[(k,v)]
theorem ju{p:c×V}{r:List (c×V)}{k:c}(e:p.1=k):gj (p::r) k=some p.2:=by simp[gj,gF,e]
theorem jk{p:c×V}{r:List (c×V)}{k:c}(e:¬p.1=k):gj (p::r) k=gj r k:=by simp[gj,gF,e]
theorem tV(k:c):∀a:List (c×V),(a.any λb=>decide (b.1=k))=(gj a k).isSome
 | []=>rfl
 | p::r=>by
   rw[g9];by_cases e:p.1=k
   .simp only[ju e,ba e,Bool.true_or,Option.isSome_some]
   .rw[jk e,bw e,nQ];exact tV k r
theorem Fw(k j:c)(y:V):∀b:List (c×V),gj (b.map λa=>if a.1=k then(a.1,y)else a) j=(gj b j).map λx=>if j=k then y else x
 | []=>rfl
 | p::r=>by
   have d:=Fw k j y r;rw[az];by_cases h:p.1=k
   .rw[aj h];by_cases e:p.1=j
    .rw[ju (p:=(p.1,y)) e,ju e,jF,aj (e.symm.trans h)]
    .rw[jk (p:=(p.1,y)) e,jk e,d]
   .rw[ah h];by_cases e:p.1=j
    .rw[ju (p:=p) e,ju e,jF,ah (λz=>h (e.trans z))]
    .rw[jk (p:=p) e,jk e,d]
theorem DV(k j:c)(y:V):∀a:List (c×V),gj a k=none->gj (a++[(k,y)]) j=if j=k then some y else gj a j
 | [],_=>by
   by_cases e:k=j
   .rw[aj e.symm];exact ju (p:=(k,y)) e
   .rw[ah (λz=>e z.symm)];exact jk (p:=(k,y)) e
 | p::r,hn=>by
   rw[ft];have b:¬p.1=k:=λz=>by rw[ju z]at hn;cases hn
   rw[jk b]at hn;have d:=DV k j y r hn;by_cases e:p.1=j
   .rw[ju e,ju e,ah (λz=>b (e.trans z))]
   .rw[jk e,jk e,d]
theorem zT(b:List (c×V))(k j:c)(y:V):gj (iK b k y) j=if j=k then some y else gj b j:=by
 unfold iK;by_cases a:(b.any λd=>decide (d.1=k))=true
 .rw[aj a,Fw];rw[tV]at a;by_cases e:j=k
  .obtain⟨x,hx⟩:=eT.mp a;rw[aj e,e,hx,jF,aj rfl]
  .rw[ah e];cases gj b j with
   | none=>rfl
   | some x=>rw[jF,ah e]
 .rw[ah a];refine DV k j y b ?_;rw[tV]at a;cases q:gj b k with
  | none=>rfl
  | some x=>rw[q]at a;exact(a rfl).elim
theorem pi(a:List (c×V))(k:c)(v:V):(iK a k v).length<=a.length+1:=by
 unfold iK;split
 .rw[aa];lia
 .rw[aO,aD,dY];lia
theorem Gm{a:List (c×V)}{k:c}(v:V)(h:gj a k=none):iK a k v=a++[(k,v)]:=by
 unfold iK;rw[tV,h];exact ah (by decide)
theorem rW.Ϛ{o:Option V}{u:Option Value}(r:rW o u):o.isSome=u.isSome:=by
 cases o with
 | none=>cases u with
   | none=>rfl
   | some _=>exact(show False from r).elim
 | some _=>cases u with
   | none=>exact(show False from r).elim
   | some _=>rfl
theorem KV.val{d:List (c×V)}{a:List (c×Value)}(r:KV d a)(k:c):rW (gj d k) (valueAt a k):=by
 unfold KV at r
 induction r with
 | nil=>exact True.intro
 | @cons p q ps qs h t ih=>
   obtain⟨f,g⟩:=h;by_cases e:p.1=k
   .have e':q.1=k:=f.symm.trans e;have b:valueAt (q::qs) k=some q.2:=(by simp[valueAt,gF,e']);rw[ju e,b];exact g
   .have e':¬q.1=k:=λz=>e (f.trans z);have b:valueAt (q::qs) k=valueAt qs k:=(by simp[valueAt,gF,e']);rw[jk e,b];exact ih
theorem KV.any{d:List (c×V)}{b:List (c×Value)}(r:KV d b)(k:c):(d.any λa=>decide (a.1=k))=b.any λa=>decide (a.1=k):=by
 unfold KV at r
 induction r with
 | nil=>rfl
 | cons h t ih=>rw[g9,g9,ih,h.1]
theorem KV.repl{f:List (c×V)}{d:List (c×Value)}(r:KV f d)(k:c){y:V}{u:Value}(g:RelV y u):KV (f.map λa=>if a.1=k then(a.1,y)else a) (d.map λa=>if a.1=k then(a.1,u)else a):=by
 unfold KV at r ⊢
 induction r with
 | nil=>exact .nil
 | @cons p q ps qs h t ih=>
   rw[az,az];refine .cons ?_ ih;obtain⟨b,i⟩:=h;by_cases e:p.1=k
   .rw[aj e,aj (b.symm.trans e)];exact⟨b,g⟩
   .rw[ah e,ah (λz=>e (b.trans z))];exact⟨b,i⟩
theorem KV.put{d:List (c×V)}{a:List (c×Value)}(r:KV d a)(k:c){y:V}{u:Value}(b:RelV y u):KV (iK d k y) (stored a k u):=by
 unfold iK stored;rw[r.any k];by_cases e:(a.any λf=>decide (f.1=k))=true
 .rw[aj e,aj e];exact r.repl k b
 .rw[ah e,ah e];exact Paired.snoc r ⟨rfl,b⟩
theorem KV.length{a:List (c×V)}{b:List (c×Value)}(r:KV a b):a.length=b.length:=Paired.length r
end
theorem yk{P:Program}{w:World}{k:Key}{u:Value}(r:RelV (kV k) u):(iz P w).is k u=true:=by
 cases k with
 | inl i=>obtain⟨t,e⟩:=(show ∃t,u=Value.int i t from r);subst e;exact Il P w i t
 | inr x=>obtain⟨t,e⟩:=(show ∃t,u=Value.str x t from r);subst e;exact HF P w x t
theorem DT{P:Program}{w:World}:∀{a:List Key}{b:hD},Vals (a.map kV) b->ItemsAre (iz P w) a b
 | [],_,r=>by rw[dQ]at r;cases r;exact .nil
 | k::a,_,r=>by
   rw[az]at r;cases r with
   | cons h t=>exact .cons (yk h) (DT t)
abbrev KT(H:Hp):List (List Key×V)->List (List Key×Addr×Value)->Prop:=Paired λp q=>p.1=q.1/\H q.2.1=some (.tup (p.1.map kV))/\RelV p.2 q.2.2
theorem KT.val{H:Hp}{a:List (List Key×V)}{c:List (List Key×Addr×Value)}(r:KT H a c)(k:List Key):rW (gj a k) ((atKey c k).map (·.2)):=by
 induction r with
 | nil=>exact True.intro
 | @cons p q ps qs h t ih=>
   obtain⟨d,_,f⟩:=h;by_cases e:p.1=k
   .have e':q.1=k:=d.symm.trans e;have b:atKey (q::qs) k=some q.2:=(by simp[atKey,gF,e']);rw[ju e,b];exact f
   .have e':¬q.1=k:=λz=>e (d.trans z);have b:atKey (q::qs) k=atKey qs k:=(by simp[atKey,gF,e']);rw[jk e,b];exact ih
theorem KT.repl{H:Hp}{c:List (List Key×V)}{f:List (List Key×Addr×Value)}(r:KT H c f)(k:List Key){y:V}{u:Value}(g:RelV y u):KT H (c.map λb=>if b.1=k then(b.1,y)else b) (f.map (putAt k u)):=by
 induction r with
 | nil=>exact .nil
 | @cons p q ps qs h t ih=>
   rw[az,az];refine .cons ?_ ih;obtain⟨a,d,i⟩:=h;unfold putAt;by_cases e:p.1=k
   .rw[aj e,aj (a.symm.trans e)];exact⟨a,d,g⟩
   .rw[ah e,ah (λz=>e (a.trans z))];exact⟨a,d,i⟩
theorem KT.put{H:Hp}{c:List (List Key×V)}{a:List (List Key×Addr×Value)}(r:KT H c a)(k:List Key){b:Addr}{y:V}{u:Value}(g:H b=some (.tup (k.map kV)))(d:RelV y u):KT H (iK c k y) (storedH a k b u):=by
 have e:(c.any λf=>decide (f.1=k))=(atKey a k).isSome:=by
  rw[tV,(r.val k).Ϛ,gK]
 unfold iK storedH;rw[e];by_cases q:(atKey a k).isSome=true
 .rw[aj q,aj q];exact r.repl k d
 .rw[ah q,ah q];exact Paired.snoc r ⟨rfl,g,d⟩
theorem KT.keeps{H c:Hp}{d:List (List Key×V)}{e:List (List Key×Addr×Value)}(r:KT H d e)(f:∀b a,H b=some (.tup a)->c b=some (.tup a)):KT c d e:=Paired.aaO r λ_ _ z=>⟨z.1,f _ _ z.2.1,z.2.2⟩
section
variable{P:Program}{w:World}{H:Hp}{h:Heap}{a:Addr}
theorem Rv{u:HO}(ok:ϧ P w H h)(e:Rd H a u):Γ P w H h a u:=e.ok ok
theorem yo{b:List (Key×V)}(d:ϧ P w H h)(e:Rd H a (.dK b)):b.length<=sizeLine/\(a==sysModules)=false/\∃c,KV b c/\h.DictOf (iz P w) a c:=show Γ P w H h a (.dK b)from Rv d e
theorem Fl{b:List (Key×V)}(d:ϧ P w H h)(e:H a=some (.dK b)):b.length<=sizeLine/\(a==sysModules)=false/\∃c,KV b c/\h.DictOf (iz P w) a c:=yo d (.inl e)
theorem xI{c:List Key}(d:ϧ P w H h)(e:H a=some (.tup (c.map kV))):(tupleKind (iz P w)).is h c a:=by
 obtain⟨_,b,r,o,i,f,n,g⟩:=(show Γ P w H h a (.tup (c.map kV))from d a _ e);exact⟨o,b.toArray,n,i,f,g,by simpa using DT r⟩
theorem Cv{c:List (List Key×V)}(f:ϧ P w H h)(e:Rd H a (.dT c)):c.length<=sizeLine/\(a==sysModules)=false/\∃b,KT H c b/\h.DictOfH (tupleKind (iz P w)) a b:=by
 obtain⟨z,y,b,r,o,n,k,s,u,i,j,g⟩:=(show Γ P w H h a (.dT c)from Rv f e);refine⟨z,y,b,r,o,n,k,s,u,i,j,λx hx=>?_,g⟩;have d:∀{l:List (List Key×V)}{m:List (List Key×Addr×Value)},KT H l m->∀x∈m,(tupleKind (iz P w)).is h x.1 x.2.1:=by
  intro l m q
  induction q with
  | nil=>intro x hx;exact nomatch hx
  | @cons p q ps qs hq t ih=>
    intro x hx;rcases aq.mp hx with e|hx
    .subst e;exact xI f (by rw[<-hq.1];exact hq.2.1)
    .exact ih x hx
 exact d r x hx
theorem Wr{b:List (List Key×V)}(d:ϧ P w H h)(e:H a=some (.dT b)):b.length<=sizeLine/\(a==sysModules)=false/\∃c,KT H b c/\h.DictOfH (tupleKind (iz P w)) a c:=Cv d (.inl e)
end
def ϔ(H:Hp)(a:Addr)(y:V)(r:Option V):Prop:=(∃c k,Rd H a (.dK c)/\y=kV k/\r=gj c k)\/∃c k b,Rd H a (.dT c)/\y=.ref b/\H b=some (.tup (k.map kV))/\r=gj c k
def XB(H:Hp)(a:Addr)(y v:V)(d:Hp):Prop:=(∃c k,H a=some (.dK c)/\y=kV k/\c.length<sizeLine/\d=upd H a (.dK (iK c k v)))\/∃c k b,H a=some (.dT c)/\y=.ref b/\H b=some (.tup (k.map kV))/\c.length<sizeLine/\d=upd H a (.dT (iK c k v))
theorem ϔ.k{H:Hp}{a:Addr}{b:List (Key×V)}{k:Key}(e:H a=some (.dK b)):ϔ H a (kV k) (gj b k):=.inl ⟨b,k,.inl e,rfl,rfl⟩
theorem ϔ.t{H:Hp}{a b:Addr}{c:List (List Key×V)}{k:List Key}(e:H a=some (.dT c))(d:H b=some (.tup (k.map kV))):ϔ H a (.ref b) (gj c k):=.inr ⟨c,k,b,.inl e,rfl,d,rfl⟩
theorem XB.k{H:Hp}{a:Addr}{b:List (Key×V)}{k:Key}{v:V}(e:H a=some (.dK b))(c:b.length<sizeLine):XB H a (kV k) v (upd H a (.dK (iK b k v))):=.inl ⟨b,k,e,rfl,c,rfl⟩
theorem XB.t{H:Hp}{a b:Addr}{c:List (List Key×V)}{k:List Key}{v:V}(e:H a=some (.dT c))(f:H b=some (.tup (k.map kV)))(d:c.length<sizeLine):XB H a (.ref b) v (upd H a (.dT (iK c k v))):=.inr ⟨c,k,b,e,rfl,f,d,rfl⟩
section
variable{X:Cx}{d:gn}{f:St}{H:Hp}{s:Shared}{a:Addr}{y v:V}{u r:Value}{o:Option V}{A:Around}{E:f5}
theorem Inv.big(I:Inv X d f H s):sysModules<s.heap.objs.size:=by
 have h:mainGlobals<s.heap.objs.size:=(I.mod.glob.keeps I.bk).lt;exact Nat.lt_trans (by decide) h
theorem MU{Q:f5}(G:A.units+1<cLine)(I:Inv X d f H s)(g:ϔ H a y (some v))(t:RelV y u)(h:∀i x,Inv X d f H x->RelV v i->Q i x):wpAny (model X.prog X.w) A (getItem (.ref a) u) Q E s:=by
 rcases g with⟨η,k,e,ey,l⟩|⟨η,k,b,e,ey,eb,l⟩
 .subst ey;obtain⟨z,F,D,c,q⟩:=yo I.χ e;obtain⟨i,j,n⟩:=rW.some_of (v:=v) (o:=valueAt D k) (by rw[l];exact c.val k);exact wpAny_getItem_of (yk t) q.mapOf j (h i _ (I.tok _) n)
 .subst ey;cases(show u=Value.ref b from t);obtain⟨z,F,C,c,q⟩:=Cv I.χ e;obtain⟨i,j,n⟩:=rW.some_of (v:=v) (o:=(atKey C k).map (·.2)) (by rw[l];exact c.val k);obtain⟨p,B,m⟩:=eB.mp j;refine wpAny_getItem_heap (tupleKind_room_in1 G) (xI I.χ eb) q B ?_;rw[m];exact h i _ (I.tok _) n
theorem W2{Q:f5}(p:A.units+1<cLine)(I:Inv X d f H s)(g:ϔ H a y o)(m:RelV y u)(h:∀n,Inv X d f H n->Q (.bool o.isSome) n):wpAny (model X.prog X.w) A (compareOp .In u (.ref a)) Q E s:=by
 rcases g with⟨η,k,e,ey,l⟩|⟨η,k,b,e,ey,eb,l⟩
 .subst ey;obtain⟨z,i,t,c,j⟩:=yo I.χ e;refine wpAny_in_of (yk m) i j.mapOf ?_;rw[<-(c.val k).Ϛ,<-l];exact h _ (I.tok _)
 .subst ey;cases(show u=Value.ref b from m);obtain⟨z,i,x,c,j⟩:=Cv I.χ e;refine wpAny_in_heap (tupleKind_room_in1 p) (xI I.χ eb) i j ?_;have q:=(c.val k).Ϛ;rw[gK]at q;rw[<-q,<-l];exact h _ (I.tok _)
theorem R3{Q:f5}(p:A.units+1<cLine)(I:Inv X d f H s)(g:ϔ H a y o)(m:RelV y u)(h:∀n,Inv X d f H n->Q (.bool (!o.isSome)) n):wpAny (model X.prog X.w) A (compareOp .NotIn u (.ref a)) Q E s:=by
 rcases g with⟨η,k,e,ey,l⟩|⟨η,k,b,e,ey,eb,l⟩
 .subst ey;obtain⟨z,i,t,c,j⟩:=yo I.χ e;refine wpAny_notIn_of (yk m) i j.mapOf ?_;rw[<-(c.val k).Ϛ,<-l];exact h _ (I.tok _)
 .subst ey;cases(show u=Value.ref b from m);obtain⟨z,i,x,c,j⟩:=Cv I.χ e;refine wpAny_notIn_heap (tupleKind_room_in1 p) (xI I.χ eb) i j ?_;have q:=(c.val k).Ϛ;rw[gK]at q;rw[<-q,<-l];exact h _ (I.tok _)
theorem yB{c:Heap}{m:Nat}{h:HO}(I:Inv X d f H s)(j:Mut (H a))(l:Heap.SameBut a s.heap c)(k:∃q,c.get? a=some q)(g:Γ X.prog X.w (upd H a h) c a h):Inv X d f (upd H a h) { s with heap:=c,toks:=m }:=I.write (x:=a) (e:=a) j (.inl rfl) (λb q i z=>(l.2 b i).trans z) k g
theorem G4{P:Program}{w:World}{i:Hp}{g:Heap}{e:List (Key×V)}{b:List (Key×Value)}(z:e.length<=sizeLine)(h:(a==sysModules)=false)(c:KV e b)(j:g.DictOf (iz P w) a b):Γ P w i g a (.dK e):=⟨z,h,b,c,j⟩
theorem LR{K:Hp}{Q:Unit->Shared->Prop}(U:A.units+1<cLine)(I:Inv X d f H s)(g:XB H a y v K)(C:RelV y u)(J:RelV v r)(h:∀D,Inv X d f K D->Q () D):wpAny (model X.prog X.w) A (setItem (.ref a) u r) Q E s:=by
 rcases g with⟨η,k,e,ey,l,eH⟩|⟨η,k,b,e,ey,eb,l,eH⟩
 .subst ey eH;obtain⟨z,t,T,i,B⟩:=Fl I.χ e;have n:T.length<=sizeLine:=by rw[<-i.length];exact z
  have p:(iK η k v).length<=sizeLine:=by have:=pi η k v;lia
  refine wpAny_setItem_pairs (hsz:=n) (yk C) B λG j x=>h _ ?_;have M:∃q,G.get? a=some q:=let ⟨q,_,_,m,_⟩:=j;⟨q,m⟩;exact yB I (by rw[e];exact True.intro) x M (G4 p t (i.put k J) j)
 .subst ey eH;cases(show u=Value.ref b from C);obtain⟨z,t,P,i,B⟩:=Wr I.χ e;have n:P.length<=sizeLine:=by rw[<-Paired.length i];exact z
  have p:(iK η k v).length<=sizeLine:=by have:=pi η k v;lia
  refine wpAny_setItem_heap (hsz:=n) (tupleKind_room_in1 U) (xI I.χ eb) B λG j x=>h _ ?_;obtain⟨q,S,R,m,V,N,O,_,L⟩:=j;refine yB I (by rw[e];exact True.intro) x ⟨q,m⟩ ⟨p,t,_,(i.put k eb J).keeps λc W F=>?_,q,S,R,m,V,N,O,L⟩;rw[aP (iR F e (λz=>nomatch z))];exact F
end
section
variable{X:Cx}{b:gn}{c:St}{H:Hp}{s:Shared}{a:Addr}{d:List (Key×V)}{k:Key}{u:Value}{A:Around}{E:f5}
theorem Wm{Q:f5}(I:Inv X b c H s)(e:Rd H a (.dK d))(h:∀t g,Inv X b c H g->Q (.int d.length t) g):wpAny (model X.prog X.w) A (call (.builtin "len") [.ref a]) Q E s:=by
 obtain⟨z,i,l,f,j⟩:=yo I.χ e;refine call_len_dict i j (by rw[<-f.length];rw[sizeLine_eq]at z;lia) ?_;rw[<-f.length];exact h _ _ (I.tok _)
end
def Tx(i:Expr):Prop:=∀b a,subscripted i false b a=operate [b,a] (getItem b a)
theorem R6{a:Program}{w:World}{A:Around}{E:f5}{s:Shared}{k:Env}{c b:Expr}{n:Pos}{T id:String}{Q:f5}(q:typeLookup (.type T) "__getitem__"=pure (some (.builtin id)))(t:Tx b)(h:wpAny (model a w) A (eval c k) (λo f=>wpAny (model a w) A (eval b k) (λi d=>d.TypeIs o T/\wpAny (model a w) A (getItem o i) Q E d) E f) E s):wpAny (model a w) A (eval (.Subscript c b n) k) Q E s:=by
 refine Subscript_ (cV h (λo f l=>cV l (λi d e=>?_) λ_ _ x=>x) λ_ _ x=>x);obtain⟨p,e⟩:=e;unfold subscriptTail;refine ak ?_;rw[getitemInPython_of_ne p.not_modules];refine ak (lV p q ?_);have j:wpAny (model a w) A (subscripted b false o i) (λr g=>wpAny (model a w) A (letTemporaryGo c o r>>=λ_=>pure r) Q E g) E d:=by
  rw[t o i];exact wpAny_operating (cV e (λr g m=>ak (wpAny_letTemporaryGo (bh m))) λ_ _ x=>x)
 first
  | exact bh (ak j)
  | exact ak (bh (ak j))
  | exact ak j
theorem Iv{X:Cx}{c:gn}{d:St}{H:Hp}{s:Shared}{a:Addr}{y:V}{o:Option V}(I:Inv X c d H s)(g:ϔ H a y o):s.TypeIs (.ref a) "dict":=by
 rcases g with⟨η,k,e,_,_⟩|⟨η,k,b,e,_,_,_⟩
 .obtain⟨_,_,vs,_,dd⟩:=yo I.χ e;exact dd.typeIs
 .obtain⟨_,_,xs,_,dd⟩:=Cv I.χ e;exact dd.typeIs
def Kg(d f:TE):TE:=λb H Q=>d b H λx e=>f b e λy c=>∃a v,x=.ref a/\ϔ c a y (some v)/\Q v c
def OQ(f d:TE):TE:=λb H Q=>f b H λy e=>d b e λx c=>∃a o,x=.ref a/\ϔ c a y o/\Q (.bl o.isSome) c
def Dv(f d:TE):TE:=λb H Q=>f b H λy e=>d b e λx c=>∃a o,x=.ref a/\ϔ c a y o/\Q (.bl (!o.isSome)) c
def LA(d h i:TE):TS:=λD b H=>i b H λv f=>d b f λx g=>h b g λy e=>∃a c,x=.ref a/\XB e a y v c/\D.nx b c
section
variable{X:Cx}{o i e b:Expr}{j c l:Pos}{d f k:TE}
theorem tf(L:X.A.units+1<cLine)(z:PE X o d)(M:PE X i f)(G:Tx i):PE X (.Subscript o i j) (Kg d f):=by
 intro m s n H Q I h;refine R6 PySem.F.slot_dict_getitem.lookup G (dX (z m s n H _ I h) λu r x w C t N=>dX (M m r n w _ C N) λS P y K p B ⟨a,v,q,g,D⟩=>?_);subst q;obtain rfl:u=Value.ref a:=t;exact⟨Iv p g,MU L p g B λO R E J=>⟨v,K,E,J,D⟩⟩
theorem V5(F:X.A.units+1<cLine)(G:PE X i f)(v:PE X o d):PC X .In i o (OQ f d):=by
 intro m s n H Q I h;refine dX (G m s n H _ I h) λN p y r z w J=>dX (v m p n r _ z J) λu L x E D q ⟨a,t,K,g,B⟩=>?_;subst K;obtain rfl:u=Value.ref a:=q;exact W2 F D g w λM C=>⟨.bl t.isSome,E,C,rfl,B⟩
theorem MR(F:X.A.units+1<cLine)(G:PE X i f)(v:PE X o d):PC X .NotIn i o (Dv f d):=by
 intro m s n H Q I h;refine dX (G m s n H _ I h) λN p y r z w J=>dX (v m p n r _ z J) λu L x E D q ⟨a,t,K,g,B⟩=>?_;subst K;obtain rfl:u=Value.ref a:=q;exact R3 F D g w λM C=>⟨.bl (!t.isSome),E,C,rfl,B⟩
theorem yx(Q:X.A.units+1<cLine)(z:PE X o d)(R:PE X i f)(K:PE X b k)(N:swapsWith b (some (.Subscript o i c)) j.line X.env=pure false):PS X (.Assign [.Subscript o i c] b j) (LA d f k):=by
 intro m s n H D I h;refine wpAny_Assign_Subscript (dX (K m s n H _ I h) λr q v w C T S=>dX (z m q n w _ C S) λu P x O L t E=>dX (R m P n O _ L E) λY W y V J B ⟨a,M,p,g,G⟩=>?_) N;subst p;obtain rfl:u=Value.ref a:=t;exact LR Q J g B T λU F=>⟨n,M,F,G⟩
end
theorem GX{P:Program}{w:World}{H:Hp}(h:Heap)(a:sysModules<h.objs.size):Γ P w H (h.push { cls:=.type "dict",data:=.dict #[] }) h.objs.size (.dK []):=⟨bx _,beq_eq_false_iff_ne.mpr (Ne.symm (aX a)),[],.nil,Heap.DictOf.new h⟩
theorem O8{P:Program}{w:World}{H:Hp}(h:Heap)(a:sysModules<h.objs.size):Γ P w H (h.push { cls:=.type "dict",data:=.dict #[] }) h.objs.size (.dT []):=⟨bx _,beq_eq_false_iff_ne.mpr (Ne.symm (aX a)),[],.nil,_,#[],0,bc _ rfl,⟨rfl,rfl,rfl⟩,rfl,rfl,mm⟩
def Y0:TE:=λ_ H Q=>∀p,H p=none->Q (.ref p) (upd H p (.dK []))
def Y1:TE:=λ_ H Q=>∀p,H p=none->Q (.ref p) (upd H p (.dT []))
section
variable{X:Cx}{b:Pos}
theorem OF:PE X (.Dict [] [] b) Y0:=λc s d H Q I h=>
 wpAny_Dict_empty ⟨.ref s.heap.objs.size,_,I.laid (a:=s.heap.objs.size) (o:=.dK []) (t':=s.toks) (λ_ _ q=>aA _ q) (ax _) (GX s.heap I.big),rfl,h _ (I.χ.fresh (ax _))⟩
theorem Qu:PE X (.Dict [] [] b) Y1:=λc s d H Q I h=>
 wpAny_Dict_empty ⟨.ref s.heap.objs.size,_,I.laid (a:=s.heap.objs.size) (o:=.dT []) (t':=s.toks) (λ_ _ q=>aA _ q) (ax _) (O8 s.heap I.big),rfl,h _ (I.χ.fresh (ax _))⟩
end
def xP:List (TE×TE)->St->Hp->(List (V×V)->Hp->Prop)->Prop
 | [],_,H,Q=>Q [] H
 | (tk,tv)::r,σ,H,Q=>tk σ H λx c=>tv σ c λy b=>xP r σ b λd a=>Q ((x,y)::d) a
abbrev VV:List (V×V)->List (Value×Value)->Prop:=Paired λp q=>RelV p.1 q.1/\RelV p.2 q.2
def PPs(X:Cx)(d:Pos)(c:List (Option Expr))(a:List Expr)(f:List (TE×TE)):Prop:=∀(b:gn)(s:Shared)(e:St)(H:Hp)(Q:List (V×V)->Hp->Prop),Inv X b e H s->xP f e H Q->wpAny (model X.prog X.w) X.A (evalPairs (pairTrees c a X.env d)) (λi j=>∃h g,Inv X b e g j/\VV h i/\Q h g) X.xe s
theorem JB{X:Cx}{a:Pos}:PPs X a [] [] []:=λb s c H Q I h=>pairTrees_nil_walk ⟨[],H,I,.nil,h⟩
theorem FF{X:Cx}{c:Pos}{k v:Expr}{f:List (Option Expr)}{g:List Expr}{i j:TE}{b:List (TE×TE)}(z:PE X k i)(B:PE X v j)(t:PPs X c f g b):PPs X c (some k::f) (v::g) ((i,j)::b):=λa s e H Q I h=>
 pairTrees_cons_walk (dX (z a s e H _ I h) λu l x n q m G=>dX (B a l e n _ q G) λK F y E C p r=>
  ϋ (t a F e E _ C r) λL J ⟨o,D,A,d,w⟩=>⟨(x,y)::o,D,A,.cons ⟨m,p⟩ d,w⟩)
def j1(d a:List (Key×V)):List (Key×V):=a.foldl (λb c=>iK b c.1 c.2) d
theorem KV.merge:∀{a:List (Key×V)}{d:List (Key×Value)}{c:List (Key×V)}{b:List (Key×Value)},KV a d->KV c b->KV (j1 c a) (merged b d):=by
 intro a d c b r;unfold KV at r
 induction r generalizing c b with
 | nil=>intro q;exact q
 | @cons p q ps qs h t ih=>
   intro f;have e:KV (iK c p.1 p.2) (stored b q.1 q.2):=by
    have:=f.put p.1 h.2;rw[<-h.1];exact this
   exact ih e
theorem pJ:∀(b a:List (Key×V)),(j1 a b).length<=a.length+b.length
 | [],a=>by show a.length<=a.length+0;lia
 | p::r,a=>by
   have d:=pJ r (iK a p.1 p.2);have c:=pi a p.1 p.2;show(j1 (iK a p.1 p.2) r).length<=_;rw[aD];lia
theorem AN{P:Program}{w:World}:∀{e:List (Key×V)}{g:List (Value×Value)},VV (e.map λf=>(kV f.1,f.2)) g->∃d,Carries (iz P w) g d/\KV e d
 | [],_,r=>by rw[dQ]at r;cases r;exact⟨[],True.intro,.nil⟩
 | p::e,_,r=>by
   rw[az]at r;cases r with
   | @cons a b as bs h t=>
     obtain⟨d,c,q⟩:=AN (P:=P) (w:=w) t;obtain⟨j,i⟩:=b;exact⟨(p.1,i)::d,⟨yk h.1,rfl,c⟩,.cons ⟨rfl,h.2⟩ q⟩
def Fj(b:List (TE×TE)):TE:=λe H Q=>∀p,H p=none->xP b e (upd H p (.dK [])) λf d=>d p=some (.dK [])/\∃a:List (Key×V),f=a.map (λc=>(kV c.1,c.2))/\a.length<=15/\Q (.ref p) (upd d p (.dK (j1 [] a)))
theorem Jm{X:Cx}{i:Pos}{b:List (Option Expr)}{d:List Expr}{g:List (TE×TE)}(h:PPs X i b d g)(m:b.all (·.isSome)=true)(E:b.length=d.length)(K:b≠[])(l:b.length<=15):PE X (.Dict b d i) (Fj g):=by
 intro f s x H Q I q;have J:=I.χ.fresh (ax s.heap.objs.size);have y:=I.laid (a:=s.heap.objs.size) (o:=.dK []) (h':=s.heap.push { cls:=.type "dict",data:=.dict #[] }) (t':=s.toks) (λ_ _ q=>aA _ q) (ax _) (GX s.heap I.big);refine wpAny_Dict_walk (knd:=iz X.prog X.w) m E K l (ϋ (h f _ x _ _ y (q _ J)) λT S ⟨N,R,n,k,e,p,v,O,A⟩=>?_);subst v;obtain⟨B,c,L⟩:=AN (P:=X.prog) (w:=X.w) k;obtain⟨z,F,r,t,M⟩:=Fl n.χ e;cases t;refine⟨B,c,M,λh' j G=>⟨.ref s.heap.objs.size,_,?_,rfl,A⟩⟩;have D:(j1 [] p).length<=sizeLine:=by
  have C:=pJ p [];rw[dY]at C;rw[sizeLine_eq];lia
 have u:∃q,h'.get? s.heap.objs.size=some q:=let ⟨q,_,_,hq,_⟩:=j;⟨q,hq⟩;exact yB n (by rw[e];exact True.intro) G u (G4 D F (L.merge .nil) j)
end L2
namespace Att
open PySem PySem.W PySem.Calls PyProof.Rows
theorem Cn{P:Params}{h:Heap}:∀(c:eu)(d:hD),WellAll P h d (c.map WData.int)->IntsAre d c:=by
 intro c
 induction c with
 | nil=>
   intro d w;rw[dQ]at w;cases w;exact .nil
 | cons n c ih=>
   intro d w;rw[az]at w;cases w with
   | cons a b=>
     cases a;exact .cons _ _ (ih _ b)
theorem Mv{l:OpenLaw}{n:Nat}(v:l.most=some n){P:Params}{h:Heap}{b:List WData}{e:hD}(f:l.row.toRowW.claim.pre b=true)(k:WellAll P h e b):∃a p c,e=[Value.ref a]/\b=[WData.list (c.map WData.int)]/\h.get? a=some { cls:=.type "list",data:=.seq p.toArray }/\IntsAre p c/\c.length<=n:=by
 have m:WShape.hasAll [] b [.list .int]=true:=(pre_splitW f).1;have o:l.pre.holds [] { args:=b }=true:=(pre_splitW f).2;obtain⟨d,r,rfl,u,w⟩:=hasAllW_cons m;obtain rfl:=hasAllW_nil w;obtain⟨x,rfl,t⟩:=hasW_list u;obtain⟨c,rfl⟩:=items_int t;have g:c.length<=n:=by
  unfold OpenLaw.pre at o;have j:(WTm.not (.lt (.lit (.int (n:Int))) (.len (.arg 0)))).holds [] { args:=[.list (c.map .int)] }=true:=by
   have j:=(holds_andW o).1;rw[v]at j;exact j
  have i:=condW_of j (w_not (w_lt w_lit (w_len_list (w_arg rfl))));rw[aa]at i;refine Nat.le_of_not_lt λq=>?_;have s:(n:Int)<((c.length:Nat):Int):=by lia
  first
   | (rw[ba s]at i;exact absurd i (by decide))
   | (simp at i;lia)
 cases k with
 | cons w1 w2=>
   cases w2;cases w1 with
   | list ho acA=>exact⟨_,_,c,rfl,rfl,ho,Cn c _ acA,g⟩
theorem Ml(l:OpenLaw)(a:List WData):l.row.toRowW.claim.post a (.bool true) a=true:=postW_of (r:=l.row.toRowW) (X:=(true==true))
 (show WShape.has [] (.bool true) .bool=true by first|rfl|decide|simp[WShape.has,WShape.arms,WShape.armsAll])
 (show(WTm.eq .res (.lit (.bool true))).value [] { args:=a,res:=some (.bool true),after:=a }=some (.bool (true==true))from w_eq_bool (w_res rfl) w_lit) rfl
theorem Yu{l:OpenLaw}{n:Nat}{q:Program}{e:hL}{XP:(Str->Option Value)->Heap->Prop}{E:World->Heap->Prop}{d:DefRec}(R:l.most=some n)(y:d.params.defaults=[])(call:∀(w:World) (c b:Shared) (t B:hH) (j:Addr) (o:Obj) (A s g:Value) (a:Addr) (i:hD) (m:eu),Ground q e [] XP w c t B b.heap->E w b.heap->b.heap.get? j=some o->o.data=.func (docDef d.name d.params d.body d.scope A s g)->b.heap.CodeRec s d.name->t d.name=some (.ref j)->b.heap.get? a=some { cls:=.type "list",data:=.seq i.toArray }->IntsAre i m->m.length<=n->b.gens=#[]->codeAny (model l.prog w) callerA (.call (.ref j) ⟨[.ref a],[]⟩) (λr p=>r=.ok (.ret (.bool true))/\OldK b.heap p.heap/\p.os=b.os/\AllBare p.gens) b):WalkO q e XP E l.row.toRowW d [] (λf i=>PySem.call f i):=by
 intro w c b t B G Y j o A s g H kV K Q P F v T C D as u O N x M;obtain rfl:H=.none:=Dflts.none F y;obtain rfl:kV=.none:=Dflts.noKw F;obtain⟨a,i,m,rfl,rfl,z,h,k⟩:=Mv R u x;refine enter_call (jc (call w c b t B j o A s g a i m G Y K (fd_plain Q) P v z h k T) λr p L=>?_);obtain⟨rfl,U,I,J⟩:=L;exact⟨.inl ⟨.bool true,.bool true,[],rfl,λ_=>rfl,.bool true,Ml l _,λ_=>⟨List.Pairwise.nil,λ_ S=>(nomatch S)⟩⟩,U,I,J⟩
end Att
namespace L2
open PySem PySem.Spec PyProof.Rows
theorem D7:∀{b:hD}{a:eu},IntsAre b a->Vals (a.map V.int) b
 | _,_,.nil=>.nil
 | _,_,.cons n t h=>.cons ⟨t,rfl⟩ (D7 h)
def Ob(H:Hp):Prop:=∀b,H b=none\/∃o a,H b=some (.YX o (.lst a))
theorem P8{P:Program}{w:World}{K:gh}{G X:hH}{CX:W7}{k:Nat}{J a:Addr}{fd:FuncData}{x:Str}{Y:Sp}{c:Shared}{p:hD}{t:eu}(KX:K.In c.heap)(C:c.heap.Ns mainGlobals G)(f:c.heap.Ns builtinsNs X)(Q:∀x:Str,x≠"__name__"->X x=bootBuiltins x)(O:c.heap.NoLimit)(hg:c.gens=#[])(I:c.heap.get? a=some { cls:=.type "list",data:=.seq p.toArray })(hi:IntsAre p t)(hl:t.length<=sizeLine)(hr:Ν k callerA)(F:∀g:Heap,K.In g->g.Ns mainGlobals G->Ψ P w K G g CX k J fd [x] Y)(L:∀(s:Shared) (u:Value),BindsTo s fd ⟨[u],[]⟩ [(x,u)])(M:∀H:Hp,Ob H->μ K H a (t.map V.int)->Y [.ref a] H (λv _=>v=.bl true) λ_ _ _=>False)(T:∀H e i,CX [] H c (λ_ _ _=>False) e i->False):codeAny (model P w) callerA (.call (.ref J) ⟨[.ref a],[]⟩) (λr i=>r=.ok (.ret (.bool true))/\OldK c.heap i.heap/\i.os=c.os/\AllBare i.gens) c:=by
 have rv:=D7 hi;have U:=hi.length;have l:∀H:Hp,Ob H->μ K H a (t.map V.int)->ϧ P w H c.heap->(∀b,H b≠none->b=a)->(H a≠none->K.lookup a=none)->codeAny (model P w) callerA (.call (.ref J) ⟨[.ref a],[]⟩) (λr i=>r=.ok (.ret (.bool true))/\OldK c.heap i.heap/\i.os=c.os/\AllBare i.gens) c:=by
  intro H hO hS χ hA hK;have Zd:∀{b:Addr}{o:Obj},c.heap.get? b=some o->H b=none->(we c.heap H).get? b=some o:=λe n=>Ny e n;have N:∀{b:Addr}{o:Obj}{B:Array DictEntry}{y:Nat},c.heap.get? b=some o->o.data=.dict B y->H b=none:=λ{b o B y} e d=>by
   cases q:H b with
   | none=>rfl
   | some u=>
     have R:b=a:=hA b (by rw[q];simp);subst R;rw[I]at e;cases e;have d':Data.seq p.toArray _=Data.dict B y:=d;cases d'
  have j:∀{b:Addr}{m:hH},c.heap.Ns b m->(we c.heap H).Ns b m:=λ{b m} ⟨o,B,y,e,d,r⟩=>⟨o,B,y,Zd e (N e d),d,r⟩;have D:K.In (we c.heap H):=λb o e=>Zd (KX b o e) (by
   cases q:H b with
   | none=>rfl
   | some u=>
     have R:b=a:=hA b (by rw[q];simp);subst R;rw[hK (by rw[q];simp)]at e;cases e)
  have hM:Mod K G (we c.heap H):=⟨D,j C,⟨X,j f,Q⟩,let ⟨mc,h1,h2⟩:=O;⟨mc,j h1,h2⟩⟩;have e0:YZ P w K G (we c.heap H) callerA [] c H:=⟨rfl,hM,λb o e=>SF e,kU (M0 _ _),trivial,λb f=>absurd (show b∈([]:g8)from f) (by simp),χ,.of_eq hg⟩;refine jc ((F _ D (j C)).run callerA [] c H ⟨[.ref a],[]⟩ [.ref a] [.ref a] _ _ hr e0 (L c (.ref a)) (.cons rfl .nil) (M H hO hS)) λr i h=>?_;cases r with
  | error e=>exact(T H e i h).elim
  | ok fl=>
    cases fl with
    | next=>exact False.elim h
    | brk=>exact False.elim h
    | cont=>exact False.elim h
    | ret u=>
      obtain⟨v,H',os,E,un,S,r',q⟩:=h;have q':v=.bl true:=q;subst q';obtain rfl:u=Value.bool true:=r';refine⟨rfl,OldK.of_keep λb o e=>?_,os,E⟩;cases q:H b with
      | none=>exact un.keep b o e q (by intro z;exact absurd (show b∈([]:g8)from z) (by simp)) (by simp)
      | some u=>
        rcases hO b with z|⟨ob,xs,z⟩
        .rw[q]at z;cases z
        .have z2:=un.ϸ b ob _ z;obtain⟨Z,_⟩:=χ b _ z;obtain⟨e2,_⟩:=S b _ z2;rw[e]at Z;cases Z;exact e2
 cases hk:K.lookup a with
 | some o=>
   have e:=KX a o hk;rw[I]at e;cases e;refine l (λ_=>none) (λ_=>.inl rfl) (.inr ⟨_,p.toArray,_,hk,rfl,rfl,rfl,by rw[aQ,U];exact hl,by simpa using rv⟩) (λb u z=>by have A:(none:Option HO)=some u:=z;cases A) (λb z=>absurd rfl z) λz=>absurd rfl z
 | none=>
   refine l (λb=>if b=a then some (.YX { cls:=.type "list",data:=.seq p.toArray } (.lst (t.map V.int)))else none) (λb=>?_) (.inl (.inr ⟨{ cls:=.type "list",data:=.seq p.toArray },aj rfl⟩)) (λb u z=>?_) (λb z=>?_) λ_=>hk
   .by_cases f:b=a
    .exact .inr ⟨_,_,aj f⟩
    .exact .inl (ah f)
   .by_cases f:b=a
    .have A:=(aj f).symm.trans z;cases A;subst f;exact⟨I,by rw[aa];exact hl,p,_,rv,I⟩
    .have A:=(ah f).symm.trans z;cases A
   .by_cases f:b=a
    .exact f
    .exact absurd (ah f) z
theorem aaZ{l:PySem.W.OpenLaw}{n k:Nat}{q:Program}{j:hL}{XP:(Str->Option Value)->Heap->Prop}{N:World->Heap->Prop}{d:DefRec}{K:Params->PySem.W.Frag}{CX:World->W7}{sp:World->Sp}{x:Str}(Z:l.most=some n)(C:n<=sizeLine)(D:d.params.defaults=[])(S:Ν k callerA)(R:∀(w:World) (h:Heap),N w h->(K w.params).In h)(F:∀(w:World) (p:hH) (t:Addr) (h:Heap),(K w.params).In h->h.Ns mainGlobals p->p d.name=some (.ref t)->∃J:FuncData,(∀(s:Shared) (u:Value),BindsTo s J ⟨[u],[]⟩ [(x,u)])/\∀c:Heap,(K w.params).In c->c.Ns mainGlobals p->Ψ l.prog w (K w.params) p c (CX w) k t J [x] (sp w))(A:∀(w:World) (H:Hp) (a:Addr) (y:eu),y.length<=n->Ob H->μ (K w.params) H a (y.map V.int)->sp w [.ref a] H (λv _=>v=.bl true) λ_ _ _=>False)(E:∀(w:World) (H:Hp) (s:Shared) (e:Value) (B:Shared),CX w [] H s (λ_ _ _=>False) e B->False):PySem.W.WalkO q j XP N l.row.toRowW d [] (λf M=>PySem.call f M):=by
 refine Att.Yu Z D λw L r p mb t o pm cd U a M y G Y ho hd Zy z I m i hg=>?_;have O:=R w _ Y;obtain⟨J,hb,Q⟩:=F w p t _ O G.T.g z;exact P8 O G.T.g G.T.b G.T.builtins G.T.nolimit hg I m (aN i C) S Q hb (λH X P=>A w H a y i X P) λH e B=>E w H r e B
def Ju(s:Stmt)(j:Nat):Stmt:=match s with
 | .ClassDef _ _ _ body _ _ _ _ _ _ _=>body.getD j (.Pass ⟨0,0,0,0⟩)
 | _=>.Pass ⟨0,0,0,0⟩
def iV(s:Stmt):Arguments:=match s with
 | .FunctionDef _ a _ _ _ _ _ _ _ _=>a
 | _=>{ posonlyargs:=[],args:=[],vararg:=none,kwonlyargs:=[],kw_defaults:=[],kwarg:=none,defaults:=[] }
def hJ(s:Stmt):List Stmt:=match s with
 | .FunctionDef _ _ b _ _ _ _ _ _ _=>b
 | _=>[]
def aG(s:Stmt):Scope:=match s with
 | .FunctionDef _ _ _ _ _ _ sc _ _ _=>sc
 | _=>{ kind:=.function,names:=[],isGenerator:=false,isCoroutine:=false }
abbrev CX0:W7:=λ_ _ _ _ _ _=>False
abbrev E0:XK:=λ_ _ _=>False
structure Y2(K:gh)(x qual:Str)(st:Stmt)(f:Addr)(fd:FuncData):Prop where
 ex:∃(oc:Value)(od:Option Addr)(kV doc pm:Value)(an:Option Addr)(τ ct:Value)(Z4:Array (Option Value)),fd=PySem.W.fnOf x qual (iV st) (hJ st) (aG st) .none kV doc pm an τ ct/\K.lookup f=some ⟨oc,od,.func fd,Z4⟩/\PySem.W.codeIn K τ qual=true
 kp:PySem.W.keepIn K (.ref f)=true
section
variable{P:Program}{w:World}{K:gh}{b:hH}{a:Heap}
theorem Y2.binds{x c:Str}{st:Stmt}{f:Addr}{l:FuncData}{ps:hL}(F:Y2 K x c st f l)(h:∀(kV d k:Value) (g:Option Addr) (i e:Value) (j:hD),j.length=ps.length->bindArgs (PySem.W.fnOf x c (iV st) (hJ st) (aG st) .none kV d k g i e) ⟨j,[]⟩=pure (ps.zip j)):Binds K l ps []:=by
 obtain⟨n,q,kV,d,k,g,i,e,m,rfl,p,o⟩:=F.ex;exact .all (h kV d k g i e)
theorem CB{x d:Str}{st:Stmt}{f:Addr}{m:Value}{n i:Option Addr}{o:Array (Option Value)}{kV e j g h:Value}(l:K.lookup f=some ⟨m,n,.func (PySem.W.fnOf x d (iV st) (hJ st) (aG st) .none kV e j i g h),o⟩)(c:PySem.W.codeIn K g d=true)(k:PySem.W.keepIn K (.ref f)=true):Y2 K x d st f (PySem.W.fnOf x d (iV st) (hJ st) (aG st) .none kV e j i g h):=⟨⟨m,n,kV,e,j,i,g,h,o,rfl,l,c⟩,k⟩
end
theorem oS{A:Around}{k:Nat}(a:Ν k A):A.units+1<cLine:=fE (Nat.add_le_add_left (by decide:1<=64) _) a.units
section
variable{X:Cx}
theorem pv(i:Nat){x:Str}{a:Pos}(d:X.N[i]?=some x:=by rfl)(b:Vis X.env.scope x:=by first|exact Or.inl rfl|exact Or.inr (Or.inl rfl)|exact Or.inr (Or.inr rfl))(c:(x==("__debug__":Str))=false:=by decide)(e:(x==("__classdict__":Str))=false:=by decide):PE X (.Name x a) (xZ i):=Gi d b c e
end
theorem UH{A B:Prop}(h:B):if false=true then A else B:=by
 rw[ah bj];exact h
theorem Vs{A B:Prop}(h:A):if true=true then A else B:=by
 rw[aj rfl];exact h
def δ(H a:Hp):Prop:=∀b o,H b=some o->a b=some o
theorem δ.refl(H:Hp):δ H H:=λ_ _ h=>h
theorem δ.trans{H e d:Hp}(a:δ H e)(b:δ e d):δ H d:=λc o h=>b c o (a c o h)
theorem δ.free{H a:Hp}(e:δ H a){l:Addr}(h:a l=Option.none):H l=Option.none:=by
 cases q:H l with
 | none=>rfl
 | some o=>
   rw[e l o q]at h;cases h
theorem δ.seq{K:gh}{H b:Hp}{a:Addr}{c:List V}(e:δ H b)(h:μ K H a c):μ K b a c:=by
 rcases h with(h|⟨o,h⟩)|h
 .exact .inl (.inl (e _ _ h))
 .exact .inl (.inr ⟨o,e _ _ h⟩)
 .exact .inr h
section
variable{X:Cx}
theorem MN:mZ X (.builtin "len") (λc H Q=>∃a b,c=[V.ref a]/\H a=some (.dK b)/\Q (.int b.length) H):=by
 intro d s i H c k Q I r h;obtain⟨a,b,rfl,f,q⟩:=h;obtain⟨u,rfl,g⟩:=wx r;cases g;exact Wm I (.inl f) λt j e=>⟨.int b.length,H,e,⟨t,rfl⟩,q⟩
end
def Cx.comp(X:Cx)(d:hL)(a:Scope)(cl:List (Str×Addr))(C:Addr)(c:Shared)(b:Hp)(e:g8):Cx where
 prog:=X.prog
 w:=X.w
 K:=X.K
 mg:=X.mg
 base:=X.base
 A:=X.A
 N:=d
 s₀:=c
 H₀:=b
 env:=compEnvC a cl C X.env
 outer:=X.stack
 stack:=X.stack
 ex:=e
 fn:=λ_=>false
 calm:=X.calm
 pn:=[]
 xe:=λ_ _=>False
structure ϟ(X:Cx)(Nc:hL)(own:Nat)(js:List Nat)(scope:Scope)(cl:List (Str×Addr)):Prop where
 acD:closureFor scope X.env=pure cl
 kind:scope.kind=.function
 Y3:∀y∈scope.names,y.2≠.cell
 names:∀y∈scope.names,y.2=.local->scope.names.lookup y.1=some .local
 cells:∀x c,cl.lookup x=some c->X.env.cells.lookup x=some c
 has:∀x,((relabel scope X.env).names.lookup x=some .cell\/(relabel scope X.env).names.lookup x=some .free)->∃c,cl.lookup x=some c
 len:Nc.length=own+js.length
 outer:∀i x,Nc[own+i]?=some x->∃j,js[i]?=some j/\X.N[j]?=some x/\X.env.scope.names.lookup x=some .cell/\(relabel scope X.env).names.lookup x=some .cell
def mU(a:Nat)(b:List Nat)(c:St):St:=List.replicate a none++b.map λj=>(c[j]?).getD none
def KB(h:Nat)(r:List Nat)(u:TI)(g:TG)(t:TT)(q:TE):TE:=λk H Q=>u k H λJ j=>∀p,j p=none->∃W:Nat->Nat->List V->St->Hp->Prop,(∃m,W 0 m [] (mU h r k) (upd j p (.lst [])))/\∀i m c d e,W i m c d e->(J.stop i e/\Q (.ref p) e)\/(J.go i e/\∀x o,J.yld i e x o->g x d o λa s=>t a s λb n=>
 if b=true then q a n λy l=>l p=some (.lst c)/\c.length<sizeLine/\∃f,f<m/\W (i+1) f (c++[y]) a (upd l p (.lst (c++[y])))
 else ∃f,f<m/\W (i+1) f c a n)
def PTs(X:Cx)(d:List Expr)(t:TT):Prop:=∀(a:gn)(s:Shared)(b:St)(H:Hp)(Q:Bool->Hp->Prop),Inv X a b H s->t b H Q->wpAny (model X.prog X.w) X.A (forIn d true λc r=>if r=true then do let e <-isTrue c X.env (eval c X.env);pure (ForInStep.yield e)else pure (ForInStep.yield r)) (TP X a b Q) X.xe s
def acE:TT:=λ_ H Q=>Q true H
theorem lu{X:Cx}:PTs X [] acE:=λa s b H Q I h=>wpAny_tests_nil ⟨H,I,h⟩
theorem sV{X:Cx}{c:Expr}{t:TT}(h:PT X c t):PTs X [c] t:=λa s b H Q I q=>wpAny_tests_one (h a s b H Q I q)
section
variable{a:Program}{w:World}{A:Around}{E:f5}{R:Result->Shared->Prop}{s:Shared}
theorem zq{t b o:Expr}{u:List Expr}{g:Scope}{G:Pos}{H y:Value}{e:Env}(I:Nat->Shared->Prop)(z:∀n s,I n s->wpAny (model a w) A (pyNext H) (λr f=>match r with
 | none=>R (.ok .next) f
 | some v=>wpAny (model a w) A (letOwnedTupleGo b H v) (λ_ C=>wpAny (model a w) A (assign b e v) (λ_ p=>
  wpAny (model a w) A (forIn u true λc r=>if r=true then do let ok <-isTrue c e (eval c e);pure (ForInStep.yield ok)else pure (ForInStep.yield r)) (λok i=>
   if ok=true then wpAny (model a w) A (eval t e) (λx l=>
    wpAny (model a w) A (call (.builtin "list.append") [y,x]) (λ_ q=>∃m,m<n/\I m q) (λ_ _=>False) l) (λ_ _=>False) i
   else ∃m,m<n/\I m i) (λ_ _=>False) p) (λ_ _=>False) C) (λ_ _=>False) f) (λ_ _=>False) s)(n:Nat)(h:I n s):codeAny (model a w) A (.compLoop (.ListComp t [⟨b,o,u,0⟩] g G) 0 H y e) R s:=by
 refine codeAny_loop rfl I (λn s K=>?_) n h;show wpAny _ A ((compTurn (.ListComp t [⟨b,o,u,0⟩] g G) 0 H y e).onRaise (λx=>do noteFrame x e;theTreesLotGoes x)) _ _ s;refine wpAny_noted ?_;rw[compTurn_list];refine ak (kj (ak (cV (z n s K) (λr f k=>?_) λ_ _ j=>j.elim)));cases r with
 | none=>exact bh k
 | some v=>
   refine ak (cV k (λ_ C J=>?_) λ_ _ j=>j.elim);refine ak (cV J (λ_ p F=>ak (cV F (λok i d=>?_) λ_ _ j=>j.elim)) λ_ _ j=>j.elim);cases ok with
   | true=>
     rw[aj rfl]at d;simp only[if_true];exact ak (ak (cV d (λx l B=>ak (cV B (λ_ q D=>bh (bh ⟨rfl,D⟩)) λ_ _ j=>j.elim)) λ_ _ j=>j.elim))
   | false=>
     rw[ah bj]at d;simp only[dL,if_false]
     first
      | exact bh ⟨rfl,d⟩
      | exact ak (bh (bh ⟨rfl,d⟩))
end
section
variable{X:Cx}{Nc:hL}{f:Nat}{B:List Nat}{scope:Scope}{l:List (Str×Addr)}
theorem CO{g:gn}{m:St}{d:Hp}{a:Shared}{C:Addr}{j:g8}(T:ϟ X Nc f B scope l)(I:Inv X g m d a)(k:a.heap.objs.size<=C)(i:∀b∈j,pO X g d b)(r:∀b∈j,b<a.heap.objs.size):(X.comp Nc scope l C a d j).Ok where
 mod:=I.ok.mod
 kind:=by show(relabel scope X.env).kind=_;exact T.kind
 glob:=I.ok.glob
 blt:=I.ok.blt
 above:=k
 inj:=λx y c n q=>I.ok.inj x y c (T.cells x c n) (T.cells y c q)
 has:=λx h=>T.has x h
 cab:=λx c h=>by cases h
 hd:=I.ok.hd
 frames:=I.ok.frames
 stk:=.inl rfl
 exf:=λb hb=>⟨aX (aY (r b hb) k),λx c h=>(i b hb).2.2.2.2.1 x c (T.cells x c h)⟩
 bs:=I.bs
 ZY:=aN I.ok.ZY I.sz
 Yp:=λb o e hb=>by
  rcases(i b hb).2.2.2.1 with z|z
  .exact I.ok.Yp b o e z
  .exact absurd (aY (aI (I.ok.bs b o e).1) z) (c7 _)
 X2:=λb hb p=>by
  rcases aq.mp (I.X3 b p)with z|z
  .exact(i b hb).2.1 z
  .exact(i b hb).2.2.1 z
 Ϲ:=I.stack
 frf:=I.iN
theorem FD{s:gn}{w:St}{h:Hp}{a:Shared}{C D:Addr}{M:g8}{g:Heap}{t:Nat}{m:hH}(T:ϟ X Nc f B scope l)(I:Inv X s w h a)(P:a.heap.objs.size<=C)(E:a.heap.objs.size<=D)(F:D≠C)(W:∀b∈M,pO X s h b)(Χ:∀b∈M,b<a.heap.objs.size)(A:∀b o,a.heap.get? b=some o->g.get? b=some o)(L:g.Ns C m)(K:∃n,g.get? D=some { cls:=.type "list",data:=.seq ([]:hD).toArray n }):Inv (X.comp Nc scope l C a h M) [] (mU f B w) (upd h D (.lst [])) { a with heap:=g,toks:=t }:=by
 obtain⟨V,K⟩:=K;have r:∀c v,a.heap.IsCell c v->g.IsCell c v:=λc v ⟨o,G,hd⟩=>⟨o,A c o G,hd⟩;refine⟨CO T I P W Χ,rfl,I.bare,Un.laid A E (I.χ.fresh E),⟨m,L,λi x v S Z e3=>?_⟩,λx c e=>?_,?_,λx c e=>?_,λp U=>(by cases U),I.χ.laid A E ?_,?_⟩
 .have hN:Nc[i]?=some x:=S;have d:(mU f B w)[i]?=some (some v):=Z;unfold mU at d;by_cases Q:i<f
  .rw[c8 (by simpa using Q),d5]at d;simp[Q]at d
  .obtain⟨k,rfl⟩:∃k,i=f+k:=⟨i-f,by lia⟩;rw[cT (by simp)]at d;simp only[bU,Nat.add_sub_cancel_left,aH]at d;obtain⟨j,hj,Y,O,N⟩:=T.outer k x hN;rw[hj]at d;replace d:some (w[j]?.getD none)=some (some v):=d;have J:w[j]?=some (some v):=by
    cases q:w[j]? with
    | none=>rw[q]at d;simp at d
    | some y=>rw[q]at d;simpa using d
   obtain⟨m0,R,H⟩:=I.loc;obtain⟨u,ru,lk⟩:=H j x v Y J (.inr (.inl O));refine⟨u,ru,.inr ⟨.inl N,?_⟩⟩;rcases lk with⟨z,_⟩|⟨_,c,hc,ϴ⟩
   .have z':X.env.scope.names.lookup x=some .local:=z;rw[O]at z';cases z'
   .obtain⟨c',Zx⟩:=T.has x (.inl N);have:=T.cells x c' Zx;rw[hc]at this;cases this;exact⟨c,Zx,r c _ ϴ⟩
 .obtain⟨v,z⟩:=I.cell x c (T.cells x c e);exact⟨v,r c v z⟩
 .show upd h D (.lst []) C=none;rw[aP (Ne.symm F)];exact I.χ.fresh P
 .have e':=T.cells x c e;obtain⟨v,o,G,_⟩:=I.cell x c e';rw[aP (aX (aY (aI G) E))];exact I.ϊ x c e'
 .exact⟨bx _,[],V,.nil,K⟩
 .show(mU f B w).length=Nc.length;rw[T.len];simp[mU]
theorem Eb{g:gn}{x s:St}{d i:Hp}{c s':Shared}{C:Addr}{p:g8}{h':Heap}(I:Inv X g x d c)(E:c.heap.objs.size<=C)(r:∀b∈p,pO X g d b)(j:Inv (X.comp Nc scope l C c d p) [] s i s')(F:Heap.SameBut C s'.heap h'):Inv X g x i { s' with heap:=h' }:=by
 have u:Un (ϝ X.stack) p d i c.heap s'.heap:=j.base;have ne:∀b o,c.heap.get? b=some o->b≠C:=λb o e=>aX (aY (aI e) E);have k:∀b o,b≠C->s'.heap.get? b=some o->h'.get? b=some o:=λb o n e=>F.extBut b o n e;have D:Un (ϝ X.stack) p d i c.heap h':=⟨λb o e n h m=>k b o (ne b o e) (u.keep b o e n h m),λb o e n h m=>let ⟨sl,q⟩:=u.slot b o e n h m;⟨sl,k b _ (ne b o e) q⟩,u.free,λb o e m=>let ⟨o',q⟩:=u.there b o e m;⟨o',k b o' (ne b o e) q⟩,u.iD,u.ϸ,u.iF⟩
 have A:i C=none:=j.free;have t:ϧ X.prog X.w i h':=λa o e=>(j.χ a o e).gT (λb v h q=>k b v (λz=>by
  rcases h with y|y
  .rw[y]at z;rw[z,A]at e;cases e
  .rw[z,A]at y;cases y) q) (λ_ q=>q) λ_ _ q=>q
 exact I.ZZ (s':={ s' with heap:=h' }) (ch:=p) j.os D t j.bare λb h=>⟨(r b h).2.2.2.1,(r b h).2.1,(r b h).2.2.2.2.1,(r b h).2.2.2.2.2⟩
theorem jv{ab a F:Expr}{ac:List Expr}{aS:Pos}{wi:TI}{g:TG}{tc:TT}{te:TE}(hc:X.calm=true)(T:ϟ X Nc f B scope l)(hi:PI X a F wi)(hg:∀C D z k,PG (X.comp Nc scope l C D z k) a g)(ht:∀C D z k,PTs (X.comp Nc scope l C D z k) ac tc)(he:∀C D z k,PE (X.comp Nc scope l C D z k) ab te)(hs:∀x,foldedSetIterable F X.env x=pure x:=by intro _;rfl):PE X (.ListComp ab [⟨a,F,ac,0⟩] scope aS) (KB f B wi g tc te):=by
 intro Y s σ H Q I h;rw[eval_ListComp];refine wpAny_comprehension_free (use:=none) rfl hs T.acD T.kind T.names (ϋ (hi Y s σ H _ I h) λv s1 h1=>ϋ h1 λd1 j h2=>?_);obtain⟨it,k,tn,J,H1,rfl,I1,Z,st,f1,R⟩:=h2;have P:∀b∈k,b<j.heap.objs.size:=λb m=>let ⟨o,e,_⟩:=Z.obj _ _ st b m;aI e;refine gO (wpAny_newFunctionEnv T.Y3 (by intro y hy;simp at hy) (λE ϻ Ϡ=>?_) T.kind);dsimp only at ϻ Ϡ ⊢;generalize ai:j.heap.push { cls:=.type "list",dict:=none,data:=.seq ([]:hD).toArray }=L at ϻ Ϡ ⊢;have hC:L.objs.size=j.heap.objs.size+1:=by rw[<-ai,dF]
 have au:j.heap.objs.size≠L.objs.size:=by rw[hC];exact aX (fP _)
 have Xn:j.heap.objs.size<=L.objs.size:=by rw[hC];exact fK _
 have cY:∀b,b<j.heap.objs.size->b≠L.objs.size:=λb m=>by rw[hC];exact aX (gN m)
 have aT:∀b o,j.heap.get? b=some o->E.get? b=some o:=λb o e=>Ϡ.extBut b o (cY b (aI e)) (aA _ (ai▸aA _ e));have As:∃n,E.get? j.heap.objs.size=some { cls:=.type "list",data:=.seq ([]:hD).toArray n }:=⟨_,Ϡ.extBut _ _ au (aA _ (ai▸bc _ rfl))⟩;have Yv:tn 0 E:=Z.keep _ _ _ st λb _ o e=>aT b o e;obtain⟨W,⟨m0,w0⟩,a0⟩:=R j.heap.objs.size I1.fresh;have Ic:=FD (t:=j.toks+([]:List (Str×Value)).length) T I1 Xn (ax _) au f1 P aT ϻ As;generalize O:X.comp Nc scope l L.objs.size j H1 k=Xc at Ic;have M:∀{S:Hp},(∀b∈k,S b=none)->∀b∈k,pO Xc [] S b:=λ{S} hn b m=>by
  subst O;exact⟨hn b m,cY b (P b m),(CO T I1 Xn f1 P).X2 b m,.inl m,λx c e=>(f1 b m).2.2.2.2.1 x c (T.cells x c e),λp hp=>by cases hp⟩
 have bs:∀b∈k,upd H1 j.heap.objs.size (.lst []) b=none:=λb m=>by
  rw[aP (aX (P b m))];exact(f1 b m).1
 have cS:Xc.calm=true:=by subst O;exact hc
 have V:∀K:Shared,K={ j with heap:=E,toks:=j.toks+([]:List (Str×Value)).length }->codeAny (model X.prog X.w) X.A (.compLoop (.ListComp ab [⟨a,F,ac,0⟩] scope aS) 0 (.ref it) (.ref j.heap.objs.size) (compEnvC scope l L.objs.size X.env))
  (compPost (model X.prog X.w) X.A X.xe none (EP X Y σ Q) (.ref j.heap.objs.size) L.objs.size) K:=by
  rintro K rfl;refine zq (λn s'=>∃i ys a2 S,Inv Xc [] a2 S s'/\tn i s'.heap/\(∀b∈k,S b=none)/\W i n ys a2 S) ?_ m0 ⟨0,[],_,_,Ic,Yv,bs,w0⟩;rintro n s3 ⟨i,ys,N,H3,I3,a1,aC,w3⟩;rcases a0 i n ys N H3 w3 with⟨stop,q⟩|⟨go,step⟩
  .subst O;refine ϋ (Z.done (X.comp Nc scope l L.objs.size j H1 k) rfl rfl rfl hc i [] s3 N H3 _ I3 (M aC) a1 stop) λr s4 ⟨hr,I4⟩=>?_;subst hr;obtain⟨m4,bl,_⟩:=id I4.loc;exact⟨m4,bl,λh' bm=>⟨.ref j.heap.objs.size,H3,Eb I1 Xn f1 I4 bm,rfl,q⟩⟩
  .subst O;refine ϋ (Z.item (X.comp Nc scope l L.objs.size j H1 k) rfl rfl rfl hc i [] s3 N H3 _ I3 (M aC) a1 go) λr s4 ⟨u,hr,h4⟩=>?_;subst hr;refine ϋ h4 λ_ s5 ⟨x,H5,I5,r5,y5,Z3,b1⟩=>?_;have b3:=I5.pinned (M b1) (Z.obj _ _ Z3);have U:∀{ae:St}{H7:Hp}{s7:Shared},Inv (X.comp Nc scope l L.objs.size j H1 k) ([]++vO k s5.heap) ae H7 s7->Inv (X.comp Nc scope l L.objs.size j H1 k) [] ae H7 s7/\tn (i+1) s7.heap/\∀b∈k,H7 b=none:=λ{ae H7 s7} I7=>by
    refine⟨I7.Ϩ,Z.keep _ _ _ Z3 λb m o e=>(I7.pin (b,o) (aR _ (aR _ (oZ m e)))).1,λb m=>?_⟩;obtain⟨o,e,d⟩:=Z.obj _ _ Z3 b m;exact(I7.pin (b,o) (aR _ (aR _ (oZ m e)))).2.1
   refine ϋ (hg _ _ _ _ _ s5 N H5 x u _ b3 r5 (step x H5 y5)) λ_ s6 ⟨G,H6,I6,q6⟩=>?_;refine CV (ht _ _ _ _ _ s6 G H6 _ I6 q6) λok s7 H7 I7 q7=>?_;cases ok with
   | false=>
     rw[ah bj]at q7 ⊢;obtain⟨m',hm,w7⟩:=q7;obtain⟨J1,J2,J3⟩:=U I7;exact⟨m',hm,i+1,ys,G,H7,J1,J2,J3,w7⟩
   | true=>
     rw[aj rfl]at q7 ⊢;refine dX (he _ _ _ _ _ s7 G H7 _ I7 q7) λy s8 yv H8 I8 r8 ⟨bV,bi,m',hm,w8⟩=>?_;refine ϋ (f6 _ s8 G H8 (.ref j.heap.objs.size) [yv] _ [y] (λv' S=>W (i+1) m' (ys++[yv]) G S) I8 rfl (.cons r8 .nil) ⟨_,ys,yv,rfl,rfl,bV,bi,w8⟩) λv9 s9 ⟨_,H9,I9,_,w9⟩=>?_;obtain⟨J1,J2,J3⟩:=U I9;exact⟨m',hm,i+1,ys++[yv],G,H9,J1,J2,J3,w9⟩
 exact codeAny_compStart_list (V _ rfl) (Z.self _ 0 _ _ _ Yv (V _ rfl))
end
section
variable{X:Cx}
def X5:V->List V->Hp->VK->Prop:=λx b H Q=>∃(l:Addr)(a:List V)(i:Int)(y:V),x=.ref l/\b=[.int i,y]/\H l=some (.lst a)/\0<=i/\i<=a.length/\a.length<sizeLine/\Q .π (upd H l (.lst (a.take i.toNat++y::a.drop i.toNat)))
theorem DZ:MtM X "list.insert" X5:=by
 intro g s A H x E v G Q I j p h;obtain⟨l,w,i,y,rfl,rfl,f,K,C,D,q⟩:=h;cases j;obtain⟨B,b,rfl,⟨t,rfl⟩,o⟩:=p.two;obtain⟨z,a,n,r,m,e⟩:=I.Yt f;have J:=tR;have k:Builtin.List.listFitsIndex i=true:=by
  unfold Builtin.List.listFitsIndex;rw[b5];exact⟨ba (by lia),ba (by lia)⟩
 have d:¬(!Builtin.List.listFitsIndex i)=true:=by rw[k];decide
 have c:a.toArray.size<=sizeLine:=by rw[aQ,<-m];exact z
 refine call_meets iI ⟨_,e,rfl⟩ PySem.F.entry_list_insert (PySem.F.args_list_insert_3 _ _ _) (PySem.AutoSeq1.list_insert_list_int_val_1 l a.toArray n i t b d c) ⟨e,?_⟩;refine⟨.π,_,I.aaV (its':=a.take i.toNat++b::a.drop i.toNat) f e ?_ ((r.take i.toNat).append (.cons o (r.drop i.toNat))) ?_,rfl,q⟩
 .show(a.toArray.extract 0 (if i<0 then(i+(a.toArray.size:Int)).toNat else min i.toNat a.toArray.size)).push b++a.toArray.extract (if i<0 then(i+(a.toArray.size:Int)).toNat else min i.toNat a.toArray.size)=_;have u:(if i<0 then(i+(a.toArray.size:Int)).toNat else min i.toNat a.toArray.size)=i.toNat:=by
   rw[ah (by lia),aQ]
   lia
  rw[u];exact PySem.W.kl_ins_eq a i.toNat b
 .rw[aO,aD,bg,ee]
  lia
theorem nj:Ϻ X (binaryOp .Mult) (rI (λi j=>IntMulOk i j) λi j=>.int (i*j)):=opI λi j t u s Q E h q=>PyProof.Rows.mul_int q h
def Sk(K:gh):List V->Hp->VK->Prop:=λd H Q=>∃x c t b,d=[x,c]/\Ac K H x t/\(∀a,RelV c a->PySem.W.kitOne K t a=some b)/\Q (.bl b) H
theorem uY:mZ X (.builtin "isinstance") (Sk X.K):=by
 intro a s l H k m Q I r h;obtain⟨x,c,t,b,rfl,f,d,q⟩:=h;obtain⟨u,e,rfl,g,i⟩:=Fo r;exact Me I g f (d e i) λj=>⟨.bl b,H,I.tok j,rfl,q⟩
theorem Gr(J:X.calm=true):mZ X (.builtin "all") (λn H Q=>∃(p:Addr)(c:List Bool),n=[.ref p]/\μ X.K H p (c.map V.bl)/\Q (.bl (c.all id)) H):=by
 intro t s T H n Y Q I r h;obtain⟨p,c,rfl,D,q⟩:=h;obtain⟨u,rfl,l⟩:=wx r;cases l;obtain⟨a,C,w,W⟩:=I.list D;have y:=w.isList;have S:=w.lt;have G:X.A.in1.handled=none:=I.ok.hd J;have d:a.length=c.length:=by rw[<-C.length,aa]
 refine call_all_walk (iP y ?_);refine⟨s.heap.objs.size,[s.heap.objs.size,p],[s.heap.objs.size],a.toArray.size,_,_,λi=>(c[i]?).getD true,rfl,Walks.list (A:=X.A.in1) G _ p (aX S) a.toArray,⟨⟨_,bc _ rfl,rfl,rfl⟩,y.push _⟩,λi v L F U O k=>?_,λN R M=>?_⟩
 .have f:a[i]?=some v:=by simpa using O
  have g:i<c.length:=by rw[<-d];exact(ar.mp f).1
  obtain⟨u,B,l⟩:=C.get (i:=i) (x:=V.bl c[i]) (by rw[aH,ao g];rfl);rw[f]at B;cases B;cases l;replace k:F (c[i]?.getD true) L:=k;rw[ao g]at k;exact dc k
 .have e:((List.range a.toArray.size).all λi=>(c[i]?).getD true)=c.all id:=by
   rw[aQ,d];rw[gR,fB,fB]
   constructor
   .intro z b hb;obtain⟨i,f,rfl⟩:=d8 hb;have:=z i (cA.mpr f);rw[ao f]at this;exact this
   .intro z i f;have j:=cA.mp f;rw[ao j];exact z _ (eW j)
  have E:∀b o,s.heap.get? b=some o->N.get? b=some o:=λb o m=>M b o (λP=>by rw[aE.mp P]at m;exact c7 _ (aI m)) (aA _ m);rw[e];exact⟨.bl _,H,I.kept (t':=R) E,rfl,q⟩
end
mutual
inductive ϱ(K:gh)(H:Hp):V->PyData->Prop
 | π:ϱ K H .π .none
 | bl (b:Bool):ϱ K H (.bl b) (.bool b)
 | int (i:Int):ϱ K H (.int i) (.int i)
 | str {x:Str}:PyData.canLay0 (.str x)=true->ϱ K H (.str x) (.str x)
 | lst {a:Addr} {xs:List V} {ds:List PyData}:μ K H a xs->Ρ K H xs ds->ϱ K H (.ref a) (.list ds)
 | tup {a:Addr} {xs:List V} {ds:List PyData}:Ι K H a xs->Ρ K H xs ds->ϱ K H (.ref a) (.tuple ds)
inductive Ρ(K:gh)(H:Hp):List V->List PyData->Prop
 | nil:Ρ K H [] []
 | cons {x:V} {d:PyData} {xs:List V} {ds:List PyData}:ϱ K H x d->Ρ K H xs ds->Ρ K H (x::xs) (d::ds)
end
mutual
theorem ϱ.reads{X:Cx}{f:gn}{p:St}{H:Hp}{s:Shared}(I:Inv X f p H s):∀{x:V}{d:PyData}{u:Value},ϱ X.K H x d->RelV x u->(∃as,Reads s.heap u d as)/\d.canLay0=true
 | _,_,_,.π,r=>by cases(show _=Value.none from r);exact⟨⟨_,.none⟩,by simp[PyData.canLay0]⟩
 | _,_,_,.bl b,r=>by cases(show _=Value.bool b from r);exact⟨⟨_,.bool b⟩,by simp[PyData.canLay0]⟩
 | _,_,_,.int i,r=>by obtain⟨t,e⟩:=(show ∃t,_=Value.int i t from r);cases e;exact⟨⟨_,.int i t⟩,by simp[PyData.canLay0]⟩
 | _,_,_,.str (x:=x) h,r=>by obtain⟨t,e⟩:=(show ∃t,_=Value.str x t from r);cases e;exact⟨⟨_,.str x t⟩,h⟩
 | _,_,_,.lst (a:=a) h hs,r=>by
   cases(show _=Value.ref a from r);obtain⟨k,l,⟨o,n,e,c,_,m⟩,q⟩:=I.list h;obtain⟨⟨as,g⟩,j⟩:=Ρ.reads I hs l;exact⟨⟨_,.list e c m (by simpa using g)⟩,by simpa[PyData.canLay0]using j⟩
 | _,_,_,.tup (a:=a) h hs,r=>by
   cases(show _=Value.ref a from r);obtain⟨k,l,⟨o,e,c,n,m⟩,q⟩:=I.tuple h;obtain⟨⟨as,g⟩,j⟩:=Ρ.reads I hs l;exact⟨⟨_,.tuple e c m (by simpa using g)⟩,by simpa[PyData.canLay0]using j⟩
theorem Ρ.reads{X:Cx}{a:gn}{e:St}{H:Hp}{s:Shared}(I:Inv X a e H s):∀{d:List V}{b:List PyData}{c:hD},Ρ X.K H d b->Vals d c->(∃as,ReadsAll s.heap c b as)/\PyData.canLayAll0 b=true
 | _,_,_,.nil,.nil=>⟨⟨_,.nil⟩,by simp[PyData.canLayAll0]⟩
 | _,_,_,.cons h hs,.cons r rs=>by
   obtain⟨⟨as,j⟩,i⟩:=ϱ.reads I h r;obtain⟨⟨k,f⟩,g⟩:=Ρ.reads I hs rs;exact⟨⟨_,.cons j f⟩,by simp[PyData.canLayAll0,i,g]⟩
end
section
variable{X:Cx}
def S7(K:gh):R2:=λx y H Q=>∃d e,ϱ K H x d/\ϱ K H y e/\d.depth<=40/\Q (.bl (PyData.eqv d e)) H
def PF(K:gh):R2:=λx y H Q=>∃d e,ϱ K H x d/\ϱ K H y e/\d.depth<=40/\Q (.bl (!PyData.eqv d e)) H
theorem Nd(o:X.A.units+64<cLine):Ϻ X (compareOp .Eq) (S7 X.K):=by
 intro a s m H x y v u Q I b f h;obtain⟨d,e,j,c,l,q⟩:=h;obtain⟨⟨as,g⟩,k⟩:=j.reads I b;obtain⟨⟨n,i⟩,cb⟩:=c.reads I f;exact PySem.SeqAt.compareEq_reads g i k cb (by lia) ⟨.bl _,H,I,rfl,q⟩
theorem Na(n:X.A.units+64<cLine):Ϻ X (compareOp .NotEq) (PF X.K):=by
 intro a s l H x y v u Q I b f h;obtain⟨d,e,hd,c,k,q⟩:=h;obtain⟨⟨as,g⟩,j⟩:=hd.reads I b;obtain⟨⟨m,i⟩,cb⟩:=c.reads I f;exact PySem.SeqAt.compareNe_reads g i j cb (by lia) ⟨.bl _,H,I,rfl,q⟩
end
structure Bv(P:Program)(w:World)(l:Addr)(ob:Obj)(src:Heap->Array Value->Prop)(at':Addr->Nat->Heap->Prop):Prop where
 start:∀(A:Around)(s:Shared)(vs:Array Value)(Q:f5)(E:f5),src s.heap vs->Q (.ref s.heap.objs.size) { s with heap:=s.heap.push ob }->wpAny (model P w) A (pyIter (.ref l)) Q E s
 first:∀it h,h.get? it=some ob->at' it 0 h
 atK:∀it i h h',at' it i h->(∀o,h.get? it=some o->h'.get? it=some o)->at' it i h'
 X6:∀h h' vs,src h vs->(∀o,h.get? l=some o->h'.get? l=some o)->src h' vs
 obj:∀it i h,at' it i h->∃o,h.get? it=some o/\∀v,o.data≠.cell v
 item:∀(A:Around)(s:Shared)(it:Addr)(i:Nat)(vs:Array Value)(x:Value)(Q:f5)(E:f5),at' it i s.heap->src s.heap vs->vs[i]?=some x->(∀h',at' it (i+1) h'->Heap.SameBut it s.heap h'->Q x { s with heap:=h' })->wpAny (model P w) A (Builtin.SmallTypes.nextOf (.ref it)) Q E s
 fin:∀(A:Around)(s:Shared)(it:Addr)(i:Nat)(vs:Array Value)(Q:f5)(E:f5),A.handled=none->at' it i s.heap->src s.heap vs->vs[i]?=none->(∀h' e,Heap.ExtBut it s.heap h'->(∃o,h'.get? e=some o/\o.cls=.type "StopIteration")->E (.ref e) { s with heap:=h' })->wpAny (model P w) A (Builtin.SmallTypes.nextOf (.ref it)) Q E s
theorem Np{P:Program}{w:World}(l:Addr):Bv P w l { cls:=.type "list_iterator",data:=.fields #[.ref l,.int 0 0] } (λh c=>h.IsList l c) (λa i h=>h.IsListIter a l i) where
 start:=λA s c Q E n b=>iP n b
 first:=λa h e=>⟨_,e,rfl,rfl⟩
 atK:=λa i h p x k=>x.at k
 X6:=λh p c x k=>x.at k
 obj:=λa i h x=>by
  obtain⟨o,j,_,hd⟩:=x;exact⟨o,j,λv z=>by rw[hd]at z;cases z⟩
 item:=λA s a i c x Q E f g d b=>wpAny_nextOf_list_item f g d b
 fin:=λA s a i c Q E m f g d b=>wpAny_nextOf_list_end m f g d b
section
variable{P:Program}{w:World}{A:Around}{E:f5}{s:Shared}
theorem yG{c t:Addr}{i:Nat}{j:Array Value}{x:Value}{Q:f5}(h:s.heap.IsTupleIter c t i)(m:s.heap.IsTuple t j)(l:j[i]?=some x)(k:∀f,f.IsTupleIter c t (i+1)->Heap.SameBut c s.heap f->Q x { s with heap:=f }):wpAny (model P w) A (Builtin.SmallTypes.nextOf (.ref c)) Q E s:=by
 obtain⟨p,b,d,a⟩:=id h;obtain⟨n,e,_,o,g⟩:=m;unfold Builtin.SmallTypes.nextOf;refine ak (wpAny_callSpecial?_slot (name:=Str.ofString "__next__") h.typeIs fS (i9 fS h.typeIs kD ?_ (j2 _)));show wpAny (model P w) _ (field (.ref c) 0>>=_) _ _ s;refine ak (cM b a (x:=.ref t) rfl ?_);show wpAny (model P w) _ (if(Value.ref t==Value.none)=true then _ else _) _ _ s;rw[ah (by exact bj)];show wpAny (model P w) _ (field (.ref c) 1>>=_) _ _ s;refine ak (cM b a (x:=.int i 0) rfl ?_);show wpAny (model P w) _ (seqItems? (.ref t)>>=_) _ _ s;refine ak (d6 e g ?_);simp only[bu,l];refine ak (iC b a (by simp) (bh ⟨x,rfl,bh (k _ ?_ (Heap.SameBut.update ..))⟩));exact⟨_,eP _ b (gU (eD a _)),(Obj.cls_mapFields ..).trans d,by rw[eD a];simp[rawInt]⟩
theorem zY{d t:Addr}{i:Nat}{l:Array Value}{Q:f5}(k:A.handled=none)(j:s.heap.IsTupleIter d t i)(r:s.heap.IsTuple t l)(q:l[i]?=none)(p:∀g e,Heap.ExtBut d s.heap g->(∃o,g.get? e=some o/\o.cls=.type "StopIteration")->E (.ref e) { s with heap:=g }):wpAny (model P w) A (Builtin.SmallTypes.nextOf (.ref d)) Q E s:=by
 obtain⟨y,b,n,c⟩:=id j;obtain⟨u,f,_,v,h⟩:=r;unfold Builtin.SmallTypes.nextOf;refine ak (wpAny_callSpecial?_slot (name:=Str.ofString "__next__") j.typeIs fS (i9 fS j.typeIs kD ?_ (j2 _)));show wpAny (model P w) _ (field (.ref d) 0>>=_) _ _ s;refine ak (cM b c (x:=.ref t) rfl ?_);show wpAny (model P w) _ (if(Value.ref t==Value.none)=true then _ else _) _ _ s;rw[ah (by exact bj)];show wpAny (model P w) _ (field (.ref d) 1>>=_) _ _ s;refine ak (cM b c (x:=.int i 0) rfl ?_);show wpAny (model P w) _ (seqItems? (.ref t)>>=_) _ _ s;refine ak (d6 f h ?_);simp only[bu,q];refine ak (wpAny_rule (ak (iC b c (by simp) ?_)));show wpAny (model P w) _ (newExc (.type "StopIteration") []>>=_) _ _ _;refine ak ?_;simp only[newExc,newTuple];refine ak (gO ?_ (by size_fits));refine ak (m:=firstArgMember _ _) (wpAny_of_eq (a:=Value.none) (by first|rfl|(simp only[firstArgMember];rfl)) ?_);refine gO ?_ (by size_fits);simp only[raiseNew];refine ak (wpAny_handled ?_)
 first|rw[show A.in1.handled=none from k]|rw[k]
 refine ak (bh (wpAny_throw ?_));exact p _ _ (((Heap.SameBut.update ..).extBut.push _).push _) ⟨_,bc _ rfl,rfl⟩
end
theorem Pm{P:Program}{w:World}(l:Addr):Bv P w l { cls:=.type "tuple_iterator",data:=.fields #[.ref l,.int 0 0] } (λh d=>h.IsTuple l d) (λa i h=>h.IsTupleIter a l i) where
 start:=λA s d Q E n c=>j3 n c
 first:=λa h e=>⟨_,e,rfl,rfl⟩
 atK:=λa i h p x k=>let ⟨o,b,r⟩:=x;⟨o,k o b,r⟩
 X6:=λh p d x k=>let ⟨o,b,r⟩:=x;⟨o,k o b,r⟩
 obj:=λa i h x=>by
  obtain⟨o,b,_,hd⟩:=x;exact⟨o,b,λv z=>by rw[hd]at z;cases z⟩
 item:=λA s a i d x Q E g j f c=>yG g j f c
 fin:=λA s a i d Q E m g j f c=>zY m g j f c
structure ZAp(z TI TO i1 i2 l1 l2:Addr):Prop where
 a1:TI≠z
 a2:TO≠z
 a3:i1≠z
 a4:i2≠z
 a5:TI≠TO
 a6:TI≠i1
 a7:TI≠i2
 a8:TO≠i1
 a9:TO≠i2
 a0:i1≠i2
 b1:l1≠z/\l1≠TO/\l1≠i1/\l1≠i2
 b2:l2≠z/\l2≠TO/\l2≠i1/\l2≠i2
section
variable{P:Program}{w:World}{A:Around}{E:f5}{s:Shared}{p n:Addr}{f i:Obj}{m l:Heap->Array Value->Prop}{j k:Addr->Nat->Heap->Prop}
theorem FL(F:Bv P w p f m j)(K:Bv P w n i l k){z TI TO g h:Addr}{H C:Nat}{S U:Array Value}{x y a b:Value}{Q:f5}(D:ZAp z TI TO g h p n)(L:IsZip s.heap z TI TO .none)(HI:IsPair s.heap TI (.ref g) (.ref h))(ai:IsPair s.heap TO a b)(p1:j g H s.heap)(p2:k h C s.heap)(q1:m s.heap S)(q2:l s.heap U)(hx:S[H]?=some x)(hy:U[C]?=some y)(hQ:∀q,IsZip q z TI TO (rawInt s.heap.objs.size)->IsPair q TO x y->j g (H+1) q->k h (C+1) q->IsPair q s.heap.objs.size x y->q.objs.size=s.heap.objs.size+1->(∀c o,c≠z->c≠TO->c≠g->c≠h->s.heap.get? c=some o->q.get? c=some o)->Q (.ref s.heap.objs.size) { s with heap:=q }):wpAny (model P w) A (Builtin.«zip.__next__» ⟨[.ref z],[]⟩) (λfn s'=>∃v,fn=.done (.ret v)/\Q v s') E s:=by
 show wpAny (model P w) _ (field (.ref z) 2>>=_) _ _ _;refine ak (cM L rfl (x:=.bool false) rfl ?_);show wpAny (model P w) _ (field (.ref z) 3>>=_) _ _ _;refine ak (cM L rfl (x:=.ref TI) rfl ?_);refine ak (d6 HI rfl ?_);show wpAny (model P w) _ (Builtin.SmallTypes.ownedTupleIsFree (.ref z)>>=_) _ _ _;refine ak ?_;unfold Builtin.SmallTypes.ownedTupleIsFree;refine ak (cM L rfl (x:=.none) rfl (bh ?_));simp only[if_true];refine ak (wpAny_rule ?_);refine ak (cM L rfl (x:=.ref TO) rfl ?_);refine ak (fC L (by simp) λg1 z1 r=>?_);replace z1:IsZip g1 z TI TO .ellipsis:=z1;refine ak ?_;simp only[List.zipIdx_cons,List.zipIdx_nil,mq,List.forIn_nil];refine ak (ak (j7 ?_));show wpAny (model P w) _ (Builtin.SmallTypes.nextOf (.ref g)>>=_) _ _ _;refine ak (F.item _ { s with heap:=g1 } g H S x _ _ (F.atK _ _ _ _ p1 λo e=>r.extBut _ _ D.a3 e) (F.X6 _ _ _ q1 λo e=>r.extBut _ _ D.b1.1 e) hx λg2 ad B=>bh ?_);have o2:IsPair g2 TO a b:=B.extBut _ _ D.a8 (r.extBut _ _ D.a2 ai);refine ak (d6 o2 rfl ?_);refine ak (jM o2 λg3 T u=>?_);replace T:IsPair g3 TO x b:=T;refine ak (lF (bh ?_));refine ak (ak (j7 ?_));show wpAny (model P w) _ (Builtin.SmallTypes.nextOf (.ref h)>>=_) _ _ _;refine ak (K.item _ { s with heap:=g3 } h C U y _ _ (K.atK _ _ _ _ p2 λo e=>u.extBut _ _ D.a9.symm (B.extBut _ _ D.a0.symm (r.extBut _ _ D.a4 e))) (K.X6 _ _ _ q2 λo e=>u.extBut _ _ D.b2.2.1 (B.extBut _ _ D.b2.2.2.1 (r.extBut _ _ D.b2.1 e))) hy λg4 V G=>bh ?_);have o4:IsPair g4 TO x b:=G.extBut _ _ D.a9 T;refine ak (d6 o4 rfl ?_);refine ak (jM o4 λd N M=>?_);replace N:IsPair d TO x y:=N;refine ak (lF (bh (bh ?_)));refine ak (d6 N rfl ?_);refine ak (wpAny_newTuple ?_);have sz:d.objs.size=s.heap.objs.size:=by rw[M.1,G.1,u.1,B.1,r.1]
 have z5:IsZip d z TI TO .ellipsis:=M.extBut _ _ D.a2.symm (G.extBut _ _ D.a4.symm (u.extBut _ _ D.a2.symm (B.extBut _ _ D.a3.symm z1)));have k5:∀c o,c≠z->c≠TO->c≠g->c≠h->s.heap.get? c=some o->d.get? c=some o:=λc o t O Z c4 e=>
  M.extBut _ _ O (G.extBut _ _ c4 (u.extBut _ _ O (B.extBut _ _ Z (r.extBut _ _ t e))))
 have Y:j g (H+1) d:=F.atK _ _ _ _ ad λo e=>M.extBut _ _ D.a8.symm (G.extBut _ _ D.a0 (u.extBut _ _ D.a8.symm e));have X:k h (C+1) d:=K.atK _ _ _ _ V λo e=>M.extBut _ _ D.a9.symm e;have I:z<d.objs.size:=aI z5;show wpAny (model P w) _ (Builtin.SmallTypes.ownedTupleHandOut (.ref z) (.ref d.objs.size)>>=_) _ _ _;refine ak ?_;unfold Builtin.SmallTypes.ownedTupleHandOut;have z6:IsZip (d.push { cls:=.type "tuple",data:=.seq #[x,y] }) z TI TO .ellipsis:=aA _ z5;refine ak (fC z6 (by simp) λg7 z7 W=>?_);replace z7:IsZip g7 z TI TO (rawInt d.objs.size):=z7;refine fC z7 (by simp) λJ R e8=>?_;replace R:IsZip J z TI TO (rawInt d.objs.size):=R;have up:∀c o,c≠z->d.get? c=some o->J.get? c=some o:=λc o t e=>e8.extBut _ _ t (W.extBut _ _ t (aA _ e));have t8:IsPair J d.objs.size x y:=e8.extBut _ _ (eO I) (W.extBut _ _ (eO I) (bc _ rfl));have s8:J.objs.size=d.objs.size+1:=by rw[e8.1,W.1,dF]
 rw[sz]at R t8 s8;refine bh ⟨_,rfl,?_⟩;show Q (.ref d.objs.size) _;rw[sz];exact hQ J R (up _ _ D.a2 N) (F.atK _ _ _ _ Y λo e=>up _ o D.a3 e) (K.atK _ _ _ _ X λo e=>up _ o D.a4 e) t8 s8 λc o t O Z c4 e=>up c o t (k5 c o t O Z c4 e)
theorem Hx(L:Bv P w p f m j)(X:Bv P w n i l k){z TI TO r C:Addr}{B K:Nat}{y M:Array Value}{a b:Value}{Q:Fin->Shared->Prop}(hh:A.handled=none)(D:ZAp z TI TO r C p n)(I:IsZip s.heap z TI TO .none)(HI:IsPair s.heap TI (.ref r) (.ref C))(Z:IsPair s.heap TO a b)(p1:j r B s.heap)(p2:k C K s.heap)(q1:m s.heap y)(q2:l s.heap M)(U:y[B]?=none\/M[K]?=none)(hE:∀Y e,(∀c o,c≠z->c≠TO->c≠r->c≠C->s.heap.get? c=some o->Y.get? c=some o)->(∃o,Y.get? e=some o/\o.cls=.type "StopIteration")->E (.ref e) { s with heap:=Y }):wpAny (model P w) A (Builtin.«zip.__next__» ⟨[.ref z],[]⟩) Q E s:=by
 show wpAny (model P w) _ (field (.ref z) 2>>=_) _ _ _;refine ak (cM I rfl (x:=.bool false) rfl ?_);show wpAny (model P w) _ (field (.ref z) 3>>=_) _ _ _;refine ak (cM I rfl (x:=.ref TI) rfl ?_);refine ak (d6 HI rfl ?_);show wpAny (model P w) _ (Builtin.SmallTypes.ownedTupleIsFree (.ref z)>>=_) _ _ _;refine ak ?_;unfold Builtin.SmallTypes.ownedTupleIsFree;refine ak (cM I rfl (x:=.none) rfl (bh ?_));simp only[if_true];refine ak (wpAny_rule ?_);refine ak (cM I rfl (x:=.ref TO) rfl ?_);refine ak (fC I (by simp) λJ N u=>?_);replace N:IsZip J z TI TO .ellipsis:=N;refine ak ?_;simp only[List.zipIdx_cons,List.zipIdx_nil,mq,List.forIn_nil];refine ak (ak (j7 ?_));show wpAny (model P w) _ (Builtin.SmallTypes.nextOf (.ref r)>>=_) _ _ _;have G:j r B J:=L.atK _ _ _ _ p1 λo e=>u.extBut _ _ D.a3 e;have H:m J y:=L.X6 _ _ _ q1 λo e=>u.extBut _ _ D.b1.1 e;cases hx:y[B]? with
 | none=>
   refine ak (L.fin _ { s with heap:=J } r B y _ _ hh G H hx λS e q O=>?_);obtain⟨T,d,g⟩:=O;have z2:IsZip S z TI TO .ellipsis:=q _ _ D.a3.symm N;have V:e≠z:=λt=>by subst t;rw[z2]at d;cases d;simp at g
   refine fC z2 (by simp) λR _ v=>hE R e (λc o F _ W _ t=>v.extBut _ _ F (q _ _ W (u.extBut _ _ F t))) ⟨T,v.extBut _ _ V d,g⟩
 | some x=>
   have hy:M[K]?=none:=by
    rcases U with h|h
    .rw[hx]at h;cases h
    .exact h
   refine ak (L.item _ { s with heap:=J } r B y x _ _ G H hx λS a1 q=>bh ?_);have o2:IsPair S TO a b:=q.extBut _ _ D.a8 (u.extBut _ _ D.a2 Z);refine ak (d6 o2 rfl ?_);refine ak (jM o2 λR o3 v=>?_);refine ak (lF (bh ?_));refine ak (ak (j7 ?_));show wpAny (model P w) _ (Builtin.SmallTypes.nextOf (.ref C)>>=_) _ _ _;refine ak (X.fin _ { s with heap:=R } C K M _ _ hh (X.atK _ _ _ _ p2 λo e=>v.extBut _ _ D.a9.symm (q.extBut _ _ D.a0.symm (u.extBut _ _ D.a4 e))) (X.X6 _ _ _ q2 λo e=>v.extBut _ _ D.b2.2.1 (q.extBut _ _ D.b2.2.2.1 (u.extBut _ _ D.b2.1 e))) hy λg4 e e4 O=>?_);obtain⟨T,d,g⟩:=O;have z4:IsZip g4 z TI TO .ellipsis:=e4 _ _ D.a4.symm (v.extBut _ _ D.a2.symm (q.extBut _ _ D.a3.symm N));have V:e≠z:=λt=>by subst t;rw[z4]at d;cases d;simp at g
   refine fC z4 (by simp) λg5 _ e5=>hE g5 e (λc o F c2 W c4 t=>e5.extBut _ _ F (e4 _ _ c4 (v.extBut _ _ c2 (q.extBut _ _ W (u.extBut _ _ F t))))) ⟨T,e5.extBut _ _ V d,g⟩
abbrev zp1(h:Heap)(f i:Obj):Heap:=(h.push f).push i
abbrev zp2(h:Heap)(f i:Obj):Heap:=(zp1 h f i).push { cls:=.type "tuple",data:=.seq #[.ref h.objs.size,.ref (h.push f).objs.size] }
abbrev zp3(h:Heap)(f i:Obj):Heap:=(zp2 h f i).push { cls:=.type "tuple",data:=.seq #[.none,.none] }
abbrev zp4(h:Heap)(f i:Obj):Heap:=(zp3 h f i).push { cls:=.type "zip",data:=.fields #[.none,.bool false,.bool false,.ref (zp1 h f i).objs.size,.ref (zp2 h f i).objs.size] }
theorem EZ(y:∀P w,Bv P w p f m j)(u:∀P w,Bv P w n i l k)(ne:∀h B,l h B->∃o,h.get? n=some o)(q t:Array Value):Meets (Builtin.«zip.__new__» ⟨[.type "zip",.ref p,.ref n],[]⟩) (λ_ R s=>m s.heap q/\l s.heap t/\R (.ok (.ret (.ref (zp3 s.heap f i).objs.size))) { s with heap:=zp4 s.heap f i }):=.of_wp λa w A R s b=>by
 obtain⟨c,g,d,v,os⟩:=s;obtain⟨F,z,r⟩:=b;have C:=sub_zip;have x:m (Shared.heap ⟨c,g,d,v,os⟩) q:=F;have D:l (Shared.heap ⟨c.push f,g,d,v,os⟩) t:=(u a w).X6 _ _ _ z λo e=>aA _ e
 wp_walk using ((y a w).start _ _ _ _ _ x),((u a w).start _ _ _ _ _ D)
 exact⟨_,rfl,r⟩
theorem O7(u:∀P w,Bv P w p f m j)(B:∀P w,Bv P w n i l k)(ne:∀h J,l h J->∃o,h.get? n=some o){t v:Array Value}{Q:f5}(K:m s.heap t)(I:l s.heap v)(h:∀a,IsZip a (s.heap.objs.size+4) (s.heap.objs.size+2) (s.heap.objs.size+3) .none->IsPair a (s.heap.objs.size+2) (.ref s.heap.objs.size) (.ref (s.heap.objs.size+1))->IsPair a (s.heap.objs.size+3) .none .none->j s.heap.objs.size 0 a->k (s.heap.objs.size+1) 0 a->(∀c o,s.heap.get? c=some o->a.get? c=some o)->Q (.ref (s.heap.objs.size+4)) { s with heap:=a })(G:f.isFreed=false)(D:i.isFreed=false):wpAny (model P w) A (call (.type "zip") [.ref p,.ref n]) Q E s:=by
 refine callType_new F.called_zip (by decide) (F.typeCall_zip_2 _ _) (F.newCall_zip_2 _ _) (λb=>F.args_object_init_3 b _ _) F.entry_zip_new (EZ u B ne t v) ⟨K,I,?_⟩;have d:(s.heap.push f).objs.size=s.heap.objs.size+1:=dF ..;have r:(zp1 s.heap f i).objs.size=s.heap.objs.size+2:=by rw[dF,d]
 have q:(zp2 s.heap f i).objs.size=s.heap.objs.size+3:=by rw[dF,r]
 have y:(zp3 s.heap f i).objs.size=s.heap.objs.size+4:=by rw[dF,q]
 have g:(zp4 s.heap f i).get? (zp3 s.heap f i).objs.size=some _:=bc _ rfl;have C:(zp4 s.heap f i).get? (zp2 s.heap f i).objs.size=some _:=aA _ (bc _ rfl);have z:(zp4 s.heap f i).get? (zp1 s.heap f i).objs.size=some _:=aA _ (aA _ (bc _ rfl));have x:(zp4 s.heap f i).get? (s.heap.push f).objs.size=some i:=aA _ (aA _ (aA _ (bc _ D)));have H:(zp4 s.heap f i).get? s.heap.objs.size=some f:=aA _ (aA _ (aA _ (aA _ (bc _ G))));show _/\_;rw[r,q,y]at g;rw[d,r]at z;rw[q]at C;rw[d]at x;rw[y];exact⟨⟨_,g,rfl⟩,h _ g z C ((u P w).first _ _ H) ((B P w).first _ _ x) λc o e=>aA _ (aA _ (aA _ (aA _ (aA _ e))))⟩
end
def ϣ(K:gh):Bool->Hp->Addr->List V->Prop
 | true,H,a,xs=>μ K H a xs
 | false,H,a,xs=>Ι K H a xs
def Itz(K:gh)(c d:Bool)(a b:Addr):It:=⟨λi H=>∃f e x y,ϣ K c H a f/\ϣ K d H b e/\f[i]?=some x/\e[i]?=some y,λi H v g=>∃p x y,H p=none/\v=.ref p/\g=upd H p (.tup [x,y])/\(∀f,ϣ K c H a f->f[i]?=some x)/\∀e,ϣ K d H b e->e[i]?=some y,λi H=>∃f e,ϣ K c H a f/\ϣ K d H b e/\(f.length<=i\/e.length<=i)⟩
def Vb(a:Addr):Bool->Obj
 | true=>{ cls:=.type "list_iterator",data:=.fields #[.ref a,.int 0 0] }
 | false=>{ cls:=.type "tuple_iterator",data:=.fields #[.ref a,.int 0 0] }
def Lv(a:Addr):Bool->Heap->Array Value->Prop
 | true,h,vs=>h.IsList a vs
 | false,h,vs=>h.IsTuple a vs
def zAt(a:Addr):Bool->Addr->Nat->Heap->Prop
 | true,it,i,h=>h.IsListIter it a i
 | false,it,i,h=>h.IsTupleIter it a i
theorem j6(a:Addr)(c:Bool)(P:Program)(w:World):Bv P w a (Vb a c) (Lv a c) (zAt a c):=by
 cases c
 .exact Pm a
 .exact Np a
theorem xx(a:Addr)(c:Bool):(Vb a c).isFreed=false:=by cases c<;>rfl
theorem sU(a:Addr)(c:Bool)(h:Heap)(b:Array Value)(e:Lv a c h b):∃o,h.get? a=some o:=by
 cases c
 .obtain⟨o,ho,_⟩:=e;exact⟨o,ho⟩
 .obtain⟨o,ho,_⟩:=e;exact⟨o,ho⟩
theorem Inv.XR{X:Cx}{d:gn}{g:St}{H:Hp}{s:Shared}{c:Bool}{a:Addr}{e:List V}(I:Inv X d g H s)(h:ϣ X.K c H a e):∃b:List Value,Vals e b/\Lv a c s.heap b.toArray:=by
 cases c with
 | true=>
   obtain⟨b,r,j,_⟩:=I.list h;exact⟨b,r,j.isList⟩
 | false=>
   obtain⟨b,r,⟨o,f,i,n,k⟩,_⟩:=I.tuple h;exact⟨b,r,⟨o,f,i,n,k⟩⟩
theorem Inv.X7{X:Cx}{b:gn}{g:St}{H:Hp}{s:Shared}{c:Bool}{a:Addr}{f d:List V}(I:Inv X b g H s)(h:ϣ X.K c H a f)(e:ϣ X.K c H a d):f=d:=by
 cases c with
 | true=>exact I.iO h e
 | false=>exact I.XM h e
theorem Q0{P:Program}{w:World}{K:gh}{V:List Expr}{x1}{W6:Pos}(c d:Bool)(a b z TI TO i1 i2:Addr)(D:ZAp z TI TO i1 i2 a b):Turn P w K (.Tuple V x1 W6) (Itz K c d a b) [z,TI,TO,i1,i2] z (λi h=>IsZip h z TI TO .none/\IsPair h TI (.ref i1) (.ref i2)/\(∃u v,IsPair h TO u v)/\zAt a c i1 i h/\zAt b d i2 i h) where
 mem:=by simp
 obj:=λi h t e he=>by
  obtain⟨t1,J,⟨u,v,N⟩,M,L⟩:=t;simp only[aq,dN,or_false]at he;rcases he with rfl|rfl|rfl|rfl|rfl
  .exact⟨_,t1,λv z=>by cases z⟩
  .exact⟨_,J,λv z=>by cases z⟩
  .exact⟨_,N,λv z=>by cases z⟩
  .exact(j6 a c P w).obj _ _ _ M
  .exact(j6 b d P w).obj _ _ _ L
 keep:=λi h h' t k=>by
  obtain⟨t1,J,⟨u,v,N⟩,M,L⟩:=t;exact⟨k z (by simp) _ t1,k TI (by simp) _ J,⟨u,v,k TO (by simp) _ N⟩,(j6 a c P w).atK _ _ _ _ M λo e=>k i1 (by simp) o e,(j6 b d P w).atK _ _ _ _ L λo e=>k i2 (by simp) o e⟩
 item:=λX e1 e2 e3 hc i B s σ H E I f t g=>by
  subst e1 e2 e3;obtain⟨t1,J,⟨u,v,N⟩,M,L⟩:=t;obtain⟨xs,ys,x,y,s1,s2,hx,hy⟩:=g;obtain⟨us,r1,q1⟩:=I.XR s1;obtain⟨vs,r2,q2⟩:=I.XR s2;obtain⟨xu,a9,rx⟩:=r1.get hx;obtain⟨yu,be,ry⟩:=r2.get hy;have U:s.TypeIs (.ref z) "zip":=⟨_,t1,rfl⟩;unfold pyNext;refine ak (wpAny_attempt (wpAny_callSpecial?_slot (name:=Str.ofString "__next__") U jO (i9 jO U F.entry_zip_next
   (FL (j6 a c _ _) (j6 b d _ _) D t1 J N M L q1 q2 (x:=xu) (y:=yu) (by simpa using a9) (by simpa using be) λh' w1 w2 w3 w4 w5 w6 w7=>bh ?_) (F.args_zip_next_1 _))))
  refine⟨_,rfl,wpAny_letOwnedTupleGo_zip w1 λh2 n1 R=>?_⟩;have G:∀q∈[z,TI,TO,i1,i2],pO X B H q:=f;have bk:s.heap.objs.size≠z:=eO (aI t1);have new:IsPair h2 s.heap.objs.size xu yu:=R.extBut _ _ bk w5;have kp:∀q o,q∉[z,TI,TO,i1,i2]->s.heap.get? q=some o->h2.get? q=some o:=λq o j e=>by
   simp only[aq,dN,or_false,not_or]at j;exact R.extBut _ _ j.1 (w7 q o j.1 j.2.2.1 j.2.2.2.1 j.2.2.2.2 e)
  have bm:h2.get? TI=some _:=R.extBut _ _ D.a1 (w7 TI _ D.a1 D.a5 D.a6 D.a7 J);have Y:∀q u,H q=some u->q∉[z,TI,TO,i1,i2]:=λq u e j=>by rw[(G q j).1]at e;cases e
  have C:Inv X B σ H { s with heap:=h2 }:=by
   refine I.step (g':=s.gens) (d':=s.drawn) (t':=s.toks) (ch:=[z,TI,TO,i1,i2]) (λq j=>⟨(G q j).2.2.2.1,(G q j).2.1,(G q j).2.2.2.2.1,(G q j).2.2.2.2.2⟩) (λq o _ _ j e _=>kp q o j e) (λq o _ _ j e _=>⟨o.slots,kp q o j e⟩) (λ_ _ _ _ n=>n)
    (λq o j e=>⟨o,kp q o j e⟩) (λ_ _ e=>e) (λ_ _ _ e=>e) (λq ps e=>⟨#[],by rw[e];simp⟩) (λm hm=>?_) (λq u e=>?_) I.bare
   .obtain⟨o,es,ep,O,r⟩:=hm;exact⟨o,es,ep,kp _ o (λj=>(G _ j).2.1 rfl) O,r⟩
   .refine(I.χ q u e).gT (λZ v W8 l=>kp Z v ?_ l) (λ_ l=>l) λ_ _ l=>l;rcases W8 with rfl|W8
    .exact Y _ u e
    .exact Y _ _ W8
  have S:H s.heap.objs.size=none:=I.fresh;have I3:Inv X B σ (upd H s.heap.objs.size (.tup [x,y])) { s with heap:=h2 }:=by
   refine⟨C.ok,C.os,C.bare,?_,C.loc,C.cell,?_,λn c e=>?_,λp hp=>?_,λq u e=>?_,C.len⟩
   .refine⟨C.base.keep,C.base.slot,λq o e n hx=>?_,C.base.there,λq xs e=>?_,λq o u e=>?_,λq ps e=>?_⟩
    .have lt:q<X.s₀.heap.objs.size:=aI e;rw[aP (aX (aY lt I.sz))];exact C.base.free q o e n hx
    .have l:=C.base.iD q xs e;rw[aP (λz=>by rw[z,S]at l;cases l)];exact l
    .have l:=C.base.ϸ q o u e;rw[aP (λz=>by rw[z,S]at l;cases l)];exact l
    .obtain⟨more,l⟩:=C.base.iF q ps e;exact⟨more,by rw[aP (λz=>by rw[z,S]at l;cases l)];exact l⟩
   .rw[aP (aX I.lt)];exact C.free
   .obtain⟨vv,o,O,_⟩:=I.cell n c e;rw[aP (aX (aI O))];exact C.ϊ n c e
   .obtain⟨k1,k2,k3⟩:=I.pin p hp;rw[aP (aX (aI k1))];exact C.pin p hp
   .by_cases j:q=s.heap.objs.size
    .subst j;rw[aw]at e;cases e;exact⟨by show 2<=sizeLine;decide,[xu,yu],.cons rx (.cons ry .nil),_,new,rfl,_,rfl⟩
    .rw[aP j]at e;refine(C.χ q u e).gT (λ_ _ _ l=>l) (λZ l=>?_) λZ xs l=>?_
     .rw[aP (λz=>by rw[z,S]at l;cases l)];exact l
     .rw[aP (λz=>by rw[z,S]at l;cases l)];exact l
  refine⟨.ref s.heap.objs.size,_,I3,rfl,⟨_,x,y,S,rfl,rfl,λco q=>?_,λaS q=>?_⟩,⟨n1,bm,⟨_,_,R.extBut _ _ D.a2 w2⟩,(j6 a c X.prog X.w).atK _ _ _ _ w3 λo e=>R.extBut _ _ D.a3 e,(j6 b d X.prog X.w).atK _ _ _ _ w4 λo e=>R.extBut _ _ D.a4 e⟩,λq j=>?_⟩
  .rw[<-I.X7 s1 q];exact hx
  .rw[<-I.X7 s2 q];exact hy
  .have Χ:q<s.heap.objs.size:=by
    simp only[aq,dN,or_false]at j;rcases j with rfl|rfl|rfl|rfl|rfl
    .exact aI t1
    .exact aI J
    .exact aI N
    .exact let ⟨o,e,_⟩:=(j6 a c X.prog X.w).obj _ _ _ M;aI e
    .exact let ⟨o,e,_⟩:=(j6 b d X.prog X.w).obj _ _ _ L;aI e
   rw[aP (aX Χ)];exact(G q j).1
 done:=λX e1 e2 e3 hc i B s σ H E I f t g=>by
  subst e1 e2 e3;obtain⟨t1,J,⟨u,v,N⟩,M,L⟩:=t;obtain⟨xs,ys,s1,s2,bd⟩:=g;obtain⟨us,r1,q1⟩:=I.XR s1;obtain⟨vs,r2,q2⟩:=I.XR s2;have G:∀q∈[z,TI,TO,i1,i2],pO X B H q:=f;have hh:X.A.handled=none:=I.ok.hd hc;have U:s.TypeIs (.ref z) "zip":=⟨_,t1,rfl⟩;have au:us.toArray[i]?=none\/vs.toArray[i]?=none:=by
   rcases bd with e|e
   .exact .inl (by have:=r1.length;simp;lia)
   .exact .inr (by have:=r2.length;simp;lia)
  unfold pyNext;refine ak (wpAny_attempt (wpAny_callSpecial?_slot (name:=Str.ofString "__next__") U jO (i9 jO U F.entry_zip_next
   (Hx (j6 a c _ _) (j6 b d _ _) hh D t1 J N M L q1 q2 au λh' e hk he=>?_) (F.args_zip_next_1 _))))
  obtain⟨o,O,bp⟩:=he;refine ak (wpAny_isInstance (T:="StopIteration") (b:=true) ⟨o,O,bp⟩ isSubtype_stop (bh ⟨rfl,?_⟩));have kp:∀q o,q∉[z,TI,TO,i1,i2]->s.heap.get? q=some o->h'.get? q=some o:=λq o j e=>by
   simp only[aq,dN,or_false,not_or]at j;exact hk q o j.1 j.2.2.1 j.2.2.2.1 j.2.2.2.2 e
  have Y:∀q u,H q=some u->q∉[z,TI,TO,i1,i2]:=λq u e j=>by rw[(G q j).1]at e;cases e
  refine I.step (g':=s.gens) (d':=s.drawn) (t':=s.toks) (ch:=[z,TI,TO,i1,i2]) (λq j=>⟨(G q j).2.2.2.1,(G q j).2.1,(G q j).2.2.2.2.1,(G q j).2.2.2.2.2⟩) (λq o _ _ j e _=>kp q o j e) (λq o _ _ j e _=>⟨o.slots,kp q o j e⟩) (λ_ _ _ _ n=>n)
   (λq o j e=>⟨o,kp q o j e⟩) (λ_ _ e=>e) (λ_ _ _ e=>e) (λq ps e=>⟨#[],by rw[e];simp⟩) (λm hm=>?_) (λq u e=>?_) I.bare
  .obtain⟨o,es,ep,O,r⟩:=hm;exact⟨o,es,ep,kp _ o (λj=>(G _ j).2.1 rfl) O,r⟩
  .refine(I.χ q u e).gT (λZ v W8 l=>kp Z v ?_ l) (λ_ l=>l) λ_ _ l=>l;rcases W8 with rfl|W8
   .exact Y _ u e
   .exact Y _ _ W8
 self:=λA i s Q E t q=>wpAny_pyIter_zip t.1 q
section
variable{X:Cx}{b:gn}{f:St}{H d:Hp}{s g:Shared}{a:Addr}{o:HO}
theorem Inv.aeG(I:Inv X b f H s)(i:Inv X b f d g)(k:s.heap.objs.size<=a)(j:d a=none)(l:Γ X.prog X.w (upd d a o) g.heap a o):Inv X b f (upd d a o) g:=by
 refine⟨i.ok,i.os,i.bare,?_,i.loc,i.cell,?_,λn c e=>?_,λp r=>?_,λq u e=>?_,i.len⟩
 .refine⟨i.base.keep,i.base.slot,λq m e n y=>?_,i.base.there,λq t e=>?_,λq m u e=>?_,λq x e=>?_⟩
  .rw[aP (aX (aY (aY (aI e) I.sz) k))];exact i.base.free q m e n y
  .have h:=i.base.iD q t e;rw[aP (λz=>by rw[z,j]at h;cases h)];exact h
  .have h:=i.base.ϸ q m u e;rw[aP (λz=>by rw[z,j]at h;cases h)];exact h
  .obtain⟨more,h⟩:=i.base.iF q x e;exact⟨more,by rw[aP (λz=>by rw[z,j]at h;cases h)];exact h⟩
 .rw[aP (aX (aY I.lt k))];exact i.free
 .obtain⟨vv,oc,ho,_⟩:=I.cell n c e;rw[aP (aX (aY (aI ho) k))];exact i.ϊ n c e
 .obtain⟨k1,k2,k3⟩:=I.pin p r;rw[aP (aX (aY (aI k1) k))];exact i.pin p r
 .by_cases hq:q=a
  .subst hq;rw[aw]at e;cases e;exact l
  .rw[aP hq]at e;refine(i.χ q u e).gT (λ_ _ _ h=>h) (λv h=>?_) λv t h=>?_
   .rw[aP (λz=>by rw[z,j]at h;cases h)];exact h
   .rw[aP (λz=>by rw[z,j]at h;cases h)];exact h
end
theorem LD:typeLookup (.type "list_reverseiterator") "__len__"=pure none:=by rw[typeLookup_type,builtinLookup_eq_fast];kernel_rfl
theorem QW:typeLookup (.type "list_reverseiterator") "__length_hint__"=pure (some (.builtin "list_reverseiterator.__length_hint__")):=by rw[typeLookup_type,builtinLookup_eq_fast];kernel_rfl
section
variable{P:Program}{w:World}{A:Around}{E:f5}{s:Shared}
theorem QV{f:Addr}{Q:Bool->Shared->Prop}(e:s.TypeIs (.ref f) "list_reverseiterator")(h:Q false s):wpAny (model P w) A (Builtin.List.listLengthHint (.ref f)) Q E s:=by
 unfold Builtin.List.listLengthHint;refine ak (lV e LD ?_);refine fZ (λa=>absurd a (by decide)) (λ_=>?_);refine fZ (λa=>absurd a (by decide)) (λ_=>?_);refine ak (lV e QW ?_);generalize c:("list_reverseiterator.__length_hint__":String)=d
 wp_delta
 rw[show splitId d=some ("list_reverseiterator","__length_hint__")from by subst c;decide +kernel];subst c;refine ak (wpAny_isInstance (T:="list_reverseiterator") (b:=true) e (by rw[isSubtype_type];kernel_rfl) ?_);refine fZ (λa=>absurd a (by decide)) (λ_=>?_);refine fZ (λ_=>?_) (λa=>absurd (by decide +kernel) a);refine fZ (λa=>absurd a (by decide +kernel)) (λ_=>?_);exact bh h
end
def K8(I l:Addr)(a:Array Value)(i:Nat)(h:Heap):Prop:=i<=a.size/\h.IsRevIter I l ((a.size:Int)-1-(i:Int))/\h.IsList l a
def Li(a:Array Value)(i:Nat)(v:Value):Prop:=a[a.size-1-i]?=some v
section
variable{P:Program}{w:World}{A:Around}{E:f5}{s:Shared}{R:Result->Shared->Prop}
theorem Lz(r:A.handled=none){I l S:Addr}{its:Array Value}{g:Value}{k:Nat}(st:K8 I l its 0 s.heap)(ne:l≠I)(m:S≠I)(x:S≠l)(u:its.size<=sizeLine)(p:s.heap.get? S=some { cls:=.type "list",data:=.seq #[] k })(y:∀c d h,Moved [S,I] (λa b=>b=a) s c->c.heap.get? S=some { cls:=.type "list",dict:=none,data:=.seq d h,slots:=#[] }->ItemsOf (Li its) d its.size->R (.ok (.ret g)) c):wpAny (model P w) A.in1 (Builtin.List.listExtendWith (.ref S) (.ref I) g) (λB c=>match B with|.done f=>R (.ok f) c|.again h=>h.quiet=true/\codeAny (model P w) A h R c) (λe c=>R (.error e) c) s:=by
 have W:=(Walks.listRev (prog:=P) (w:=w) (A:=A.in1) r I l ne its).toS;have j:s.TypeIs (.ref I) "list_reverseiterator":=st.2.1.typeIs;unfold Builtin.List.listExtendWith;refine ak (wpAny_typeOf j ?_);have q:Builtin.List.listSameRef (.ref S) (.ref I)=false:=by simp[Builtin.List.listSameRef,m]
 have n:(Value.type "list_reverseiterator" == Value.type "list")=false:=by decide
 have o:(Value.type "list_reverseiterator" == Value.type "tuple")=false:=by decide
 simp only[q,n,o,Bool.or_false,dL,if_false];refine ak (jL st.2.1 ?_);refine ak (ko (QV j ?_));refine fZ (λz=>absurd z (by decide +kernel)) (λ_=>?_);refine bh ⟨plainId_quiet F.plain_extend_loop _,codeAny_extend_loopS W u S (by simp[m,x]) g its.size 0 _ #[] k rfl (bx _) st p (ItemsOf.nil _) λc d h v i t=>?_⟩;exact y c d h v i t
theorem EF(q:A.handled=none){I l:Addr}{its:Array Value}{Q:f5}(st:K8 I l its 0 s.heap)(ne:l≠I)(v:its.size<=sizeLine)(u:∀(d:Shared) (a:Array Value) (p:Nat),d.os=s.os->d.gens=s.gens->d.drawn=s.drawn->(∀b o,b≠I->s.heap.get? b=some o->d.heap.get? b=some o)->d.heap.get? s.heap.objs.size=some { cls:=.type "list",dict:=none,data:=.seq a p,slots:=#[] }->ItemsOf (Li its) a its.size->Q (.ref s.heap.objs.size) d):wpAny (model P w) A (call (.type "list") [.ref I]) Q E s:=by
 obtain⟨C,m,_⟩:=id st.2.1;obtain⟨D,hol,_⟩:=id st.2.2;have B:s.heap.objs.size≠I:=eO (aI m);have x:s.heap.objs.size≠l:=eO (aI hol);refine callType_codes (Q₁:=λg c=>g=.ref s.heap.objs.size/\c={ s with heap:=s.heap.push { cls:=.type "list",data:=.seq #[] } }) F.called_list (F.typeCall_list_1 _) F.entry_list_init (code_list_new _ ⟨rfl,rfl⟩) λg c f=>?_;obtain⟨rfl,rfl⟩:=f;have h:(s.heap.push { cls:=.type "list",data:=.seq #[] }).get? s.heap.objs.size=some { cls:=.type "list",data:=.seq #[] }:=bc _ rfl;refine⟨⟨_,h,rfl⟩,F.args_list_init_2 _ _,?_⟩;show wpAny (model P w) A.in1.in1 (do let n <-Builtin.List.listItems (.ref s.heap.objs.size);Builtin.List.listUpdate (.ref s.heap.objs.size) (λ_=>#[]);letGo n.toList.reverse;Builtin.List.listExtendWith (.ref s.heap.objs.size) (.ref I) .none) _ _ _;refine ak ?_;unfold Builtin.List.listItems;refine ak (d6 h rfl (bh ?_));show wpAny (model P w) A.in1.in1 (updateSeq s.heap.objs.size (λ_=>#[])>>=λ_=>letGo (#[]:Array Value).toList.reverse>>=λ_=>Builtin.List.listExtendWith (.ref s.heap.objs.size) (.ref I) .none) _ _ _;refine ak (wpAny_updateSeq h rfl ?_);have r:=eP (Obj.mapSeq (λ_=>(#[]:Array Value))) h rfl;have k:∀b o,s.heap.get? b=some o->((s.heap.push { cls:=.type "list",data:=.seq #[] }).update s.heap.objs.size (Obj.mapSeq (λ_=>(#[]:Array Value)))).get? b=some o:=λb o e=>(di _ _ (eO (aI e))).trans (aA _ e)
 refine ak (lF ?_);refine Lz (A:=A.in1) q (I:=I) (l:=l) (its:=its) ⟨st.1,st.2.1.at λo e=>k _ o e,st.2.2.at λo e=>k _ o e⟩ ne B x v r λd a p i j t=>?_;refine⟨rfl,u d a p i.os i.gens i.drawn (λb o y e=>i.heap b o (λz=>?_) (k b o e)) j t⟩;simp only[aq,dN,or_false]at z;rcases z with z|z
 .exact absurd (aI e) (by rw[z];exact c7 _)
 .exact y z
end
theorem LN{b a:hD}(h:ItemsOf (Li b.toArray) a.toArray b.toArray.size):a=b.reverse:=by
 obtain⟨e,d⟩:=h;simp only[aQ]at e;refine eX λj=>?_;by_cases c:j<a.length
 .have q:=d j a[j] (by simp[c]);unfold Li at q;rw[ao c,b7 (by lia)];simp only[aQ,List.getElem?_toArray]at q;exact q.symm
 .rw[bN (by lia),bN (by rw[aU];lia)]
section
variable{X:Cx}{e:Expr}{g:TE}{i f d c:Pos}
def Ry(K:gh)(g:TE):TE:=λj H Q=>g j H λx b=>∃a h,x=.ref a/\μ K b a h/\∀l,b l=none->Q (.ref l) (upd b l (.lst h.reverse))
theorem Sy{j:gn}{s:Shared}{o:St}{H:Hp}{R:List Value->Shared->Prop}(G:Gl X "reversed")(J:X.mg "reversed"=none)(C:PE X e g)(I:Inv X j o H s){p:V->Hp->Prop}(h:g o H p)(E:starEach [.Call (.Name "reversed" f) [e] [] c] X.env=[(false,eval (.Call (.Name "reversed" f) [e] [] c) X.env)])(z:starEach [e] X.env=[(false,eval e X.env)])(k:∀l m x a n (b:hD),Inv X j o m l->p x m->x=.ref a->μ X.K m a n->Vals n b->K8 l.heap.objs.size a b.toArray 0 (l.heap.push (revObj a ((b.toArray.size:Int)-1)))->a≠l.heap.objs.size->b.toArray.size<=sizeLine->R [.ref l.heap.objs.size] { l with heap:=l.heap.push (revObj a ((b.toArray.size:Int)-1)) })(B:∀x m,p x m->∃a n,x=.ref a/\μ X.K m a n):wpAny (model X.prog X.w) X.A (spliced (backTo d (starEach [.Call (.Name "reversed" f) [e] [] c] X.env))) R X.xe s:=by
 rw[E];show wpAny _ _ (spliced ((false,eval (.Call (.Name "reversed" f) [e] [] c) X.env)::backTo d [])) _ _ s;refine gL ?_;refine Call_ (pG I G J boot_reversed (cL ?_ z rfl));rw[z];show wpAny _ _ (spliced ((false,eval e X.env)::backTo c [])) _ _ s;refine gL (dX (C j s o H _ I h) λu l x m r D v=>gW ?_);obtain⟨a,n,L,t⟩:=B x m v;subst L;cases D;obtain⟨b,y,q,F⟩:=r.list t;have ne:a≠l.heap.objs.size:=aX q.lt;refine call_reversed_list q.isList (gW ?_);refine k l m _ a n b r v rfl t y ⟨bx _,⟨_,bc _ rfl,rfl,?_⟩,q.isList.push _⟩ ne (by rw[aQ,<-y.length];exact F);simp[revObj]
theorem Sn(W:X.calm=true)(hg:Gl X "reversed")(hm:X.mg "reversed"=none)(A:Gl X "list")(v:X.mg "list"=none)(T:PE X e g)(L:starEach [.Call (.Name "reversed" f) [e] [] c] X.env=[(false,eval (.Call (.Name "reversed" f) [e] [] c) X.env)]:=by rfl)(h2:starEach [e] X.env=[(false,eval e X.env)]:=by rfl):PE X (.Call (.Name "list" i) [.Call (.Name "reversed" f) [e] [] c] [] d) (Ry X.K g):=by
 intro j s E H Q I h;refine Call_ (pG I A v boot_list (cL ?_ L rfl));refine Sy hg hm T I h L h2 (λl r x a w k n q1 B y P st ne M=>?_) λx r ⟨a,w,B,y,_⟩=>⟨a,w,B,y⟩;obtain⟨a',aS,m,t,q⟩:=q1;rw[B]at m;cases m;have V:=n.iO y t;subst V;refine EF (n.ok.hd W) st ne M λZ p c' C F D N z As=>?_;obtain⟨O,gs,ds,Y,an⟩:=Z;simp only at C F D N z;subst C F D;obtain⟨G,rfl⟩:∃G:List Value,p=G.toArray:=⟨p.toList,by simp⟩;have er:=LN As;subst er;have U:∀b u,l.heap.get? b=some u->O.get? b=some u:=λb u R=>N b u (aX (aI R)) (aA _ R);have I2:Inv X j E r { l with heap:=O,toks:=Y }:=n.kept U;have J:(l.heap.push (revObj a ((k.toArray.size:Int)-1))).objs.size=l.heap.objs.size+1:=dF ..;rw[J]at z;show EP X j E Q (.ref (l.heap.push (revObj a ((k.toArray.size:Int)-1))).objs.size) _;rw[J];have S:r (l.heap.objs.size+1)=none:=n.χ.fresh (fK _);refine⟨.ref _,_,n.aeG (o:=.lst w.reverse) I2 (fK _) S ⟨?_,k.reverse,c',P.reverse,z⟩,rfl,q _ S⟩;rw[aU,P.length]
 simpa using M
end
theorem kQ{a b:Nat}(h:a<b\/b<a):a≠b:=by lia
theorem UK(n a b:Nat)(d:a<n)(c:b<n):ZAp (n+4) (n+2) (n+3) n (n+1) a b:=⟨kQ (by lia),kQ (by lia),kQ (by lia),kQ (by lia),kQ (by lia),kQ (by lia),kQ (by lia),kQ (by lia),kQ (by lia),kQ (by lia),⟨kQ (by lia),kQ (by lia),kQ (by lia),kQ (by lia)⟩,⟨kQ (by lia),kQ (by lia),kQ (by lia),kQ (by lia)⟩⟩
section
variable{X:Cx}
def Od(K:gh)(c d:Bool)(f:TA):TI:=λg H R=>f g H λh e=>∃a b,h=[.ref a,.ref b]/\(∃j,ϣ K c e a j)/\(∃i,ϣ K d e b i)/\R (Itz K c d a b) e
theorem VX{k:List Expr}{x1}{W6:Pos}{ea eb:Expr}{ta:TA}{p pos:Pos}(c d:Bool)(hg:Gl X "zip")(hm:X.mg "zip"=none)(ha:PA X [ea,eb] ta)(hs:starEach [ea,eb] X.env=[(false,eval ea X.env),(false,eval eb X.env)]:=by rfl)(hs2:starEach [eb] X.env=[(false,eval eb X.env)]:=by rfl):PI X (.Tuple k x1 W6) (.Call (.Name "zip" p) [ea,eb] [] pos) (Od X.K c d ta):=by
 intro g s A H R I h;refine Call_ (pG I hg hm boot_zip (cL (uP (ha pos g s A H _ I h) λF f E y i r l=>?_) (by rw[hs,hs2]) (by rw[hs2];rfl)));obtain⟨a,b,e,⟨S,C⟩,⟨T,B⟩,q⟩:=l;subst e;obtain⟨u,v,rfl,J,M⟩:=Fo r;cases J;cases M;obtain⟨F,r,l⟩:=i.XR C;obtain⟨E,W,w⟩:=i.XR B;obtain⟨Q,n⟩:=sU a c _ _ l;obtain⟨V,m⟩:=sU b d _ _ w;have x:=aI n;have N:=aI m;refine O7 (j6 a c) (j6 b d) (sU b d) l w (λU t O P G L z=>?_) (xx a c) (xx b d);refine wpAny_pyIter_zip t ?_;have D:=UK f.heap.objs.size a b x N;refine⟨_,[f.heap.objs.size+4,f.heap.objs.size+2,f.heap.objs.size+3,f.heap.objs.size,f.heap.objs.size+1],_,_,y,rfl,i.kept (t':=f.toks) z,Q0 c d a b _ _ _ _ _ D,⟨t,O,⟨_,_,P⟩,G,L⟩,λq o=>?_,q⟩;have j:f.heap.objs.size<=q:=by
  simp only[aq,dN,or_false]at o;rcases o with rfl|rfl|rfl|rfl|rfl
  .exact iZ _ 4
  .exact iZ _ 2
  .exact iZ _ 3
  .exact ax _
  .exact iZ _ 1
 exact i.Zz j (i.χ.fresh j)
end
end L2
namespace Pb
structure Road where
 a:Int
 b:Int
 t:Int
 u:Int
 deriving DecidableEq
abbrev hT:=List Road
def M5(m:Int)(c:hT):Prop:=∀S:Int->Prop,S 0->(∀r∈c,(S r.a↔S r.b))->∀v,0<=v->v<m->S v
structure X8(m:Int)(r:Road):Prop where
 a0:0<=r.a
 a1:r.a<m
 b0:0<=r.b
 b1:r.b<m
 ne:r.a≠r.b
 t0:2<=r.t
 t1:r.t<=1000000
 u0:2<=r.u
 u1:r.u<=1000000
structure Good(m:Int)(rs:hT):Prop where
 m1:1<=m
 Θ:m<=24
 len:(rs.length:Int)=m-1
 ok:∀r∈rs,X8 m r
 jn:M5 m rs
theorem q8{c:Type}[DecidableEq c]:∀{l l':List c},l.Nodup->(∀x∈l,x∈l')->l.length<=l'.length
 | [],_,_,_=>bx _
 | x::r,l',hn,hs=>by
   obtain⟨f,d⟩:=bf.mp hn;have a:x∈l':=hs x aK;have:r.length<=(l'.erase x).length:=q8 d λy b=>(mN (λ(e:y=x)=>f (by rw[<-e];exact b))).mpr (hs y (aF _ b));rw[List.length_erase_of_mem a]at this;have g:0<l'.length:=List.length_pos_of_mem a;rw[aD]
   lia
def cY(n:Nat):List Int:=(List.range n).map λ(k:Nat)=>(k:Int)
theorem gM{n:Nat}{v:Int}:v∈cY n↔0<=v/\v<n:=by
 unfold cY;rw[bz]
 constructor
 .rintro⟨k,hk,rfl⟩;have:=cA.mp hk
  lia
 .rintro⟨h0,h1⟩;exact⟨v.toNat,cA.mpr (by lia),by lia⟩
theorem cX(n:Nat):(cY n).length=n:=by simp[cY]
theorem kC(n:Nat):(cY n).Nodup:=by
 unfold cY;refine List.Pairwise.map _ (λa b h=>?_) (List.nodup_range (n:=n));intro e;exact h (by lia)
theorem fj{m:Int}{l:eu}(c:0<=m)(b:l.Nodup)(h:∀x∈l,0<=x/\x<m):(l.length:Int)<=m:=by
 have:=q8 (l':=cY m.toNat) b λx a=>gM.mpr ⟨(h x a).1,by have:=(h x a).2;lia⟩;rw[cX]at this
 lia
theorem OJ{m:Int}{l:eu}(c:0<=m)(h:∀v,0<=v->v<m->v∈l):m<=(l.length:Int):=by
 have:=q8 (l:=cY m.toNat) (l':=l) (kC _) λx b=>by
  obtain⟨a,d⟩:=gM.mp b;exact h x a (by lia)
 rw[cX]at this
 lia
def uG(p:Int)(r:Road):List Int:=(if r.a=p then[r.b]else[])++(if r.b=p then[r.a]else[])
def gi(a:hT)(p:Int):List Int:=a.flatMap (uG p)
theorem tU{d:hT}{p e:Int}:e∈gi d p↔∃r∈d,(r.a=p/\r.b=e)\/(r.b=p/\r.a=e):=by
 unfold gi uG;rw[eY]
 constructor
 .rintro⟨r,hr,h⟩;refine⟨r,hr,?_⟩;rcases aV.mp h with h|h
  .by_cases c:r.a=p
   .rw[aj c]at h;exact .inl ⟨c,(aE.mp h).symm⟩
   .rw[ah c]at h;cases h
  .by_cases c:r.b=p
   .rw[aj c]at h;exact .inr ⟨c,(aE.mp h).symm⟩
   .rw[ah c]at h;cases h
 .rintro⟨r,hr,h⟩;refine⟨r,hr,aV.mpr ?_⟩;rcases h with⟨h1,h2⟩|⟨h1,h2⟩
  .exact .inl (by rw[aj h1,h2];exact aE.mpr rfl)
  .exact .inr (by rw[aj h1,h2];exact aE.mpr rfl)
theorem FZ(e:hT)(p:Int):(gi e p).length<=2*e.length:=by
 unfold gi
 induction e with
 | nil=>simp
 | cons r e ih=>
   rw[bD,aO,aD];have:(uG p r).length<=2:=by
    unfold uG;rw[aO];by_cases c:r.a=p<;>by_cases d:r.b=p<;>simp[c,d]
   lia
theorem uv(a:hT)(r:Road)(p:Int):gi (a++[r]) p=gi a p++uG p r:=by
 unfold gi;rw[j9];simp
def Bt(c:List Int×List Int)(e:Int):List Int×List Int:=if e∈c.1 then c else(c.1++[e],c.2++[e])
structure Yx(m:Int)(rs:hT)(ks ws:eu):Prop where
 nd:ks.Nodup
 zero:0∈ks
 Λ:∀k∈ks,0<=k/\k<m
 sub:∀w∈ws,w∈ks
 cl:∀k∈ks,k∉ws->∀e∈gi rs k,e∈ks
 wl:ws.length<=ks.length
theorem K9{l:eu}{e:Int}(h:l.Nodup)(f:e∉l):(l++[e]).Nodup:=by
 rw[dC];refine⟨h,by simp,λa c b d=>?_⟩;rw[aE.mp d];exact λz=>f (z▸c)
structure X9(m:Int)(rs:hT)(p:Int)(es ks ws ks0:eu)(n0:Nat):Prop where
 nd:ks.Nodup
 zero:0∈ks
 Λ:∀k∈ks,0<=k/\k<m
 sub:∀w∈ws,w∈ks
 cl:∀k∈ks,k∉ws->k=p\/∀e∈gi rs k,e∈ks
 seen:∀e∈es,e∈ks
 pin:p∈ks
 mu:ks.length+n0=ks0.length+ws.length
 up:ks0.length<=ks.length
 wl:ws.length<=ks.length
theorem X9.start{m:Int}{b:hT}{ks a:eu}{p:Int}(h:Yx m b ks (a++[p])):X9 m b p [] ks a ks a.length where
 nd:=h.nd
 zero:=h.zero
 Λ:=h.Λ
 sub:=λw hw=>h.sub w (bq _ hw)
 cl:=λk hk hw=>by
  by_cases e:k=p
  .exact .inl e
  .exact .inr (h.cl k hk λz=>by
    rcases aV.mp z with z|z
    .exact hw z
    .exact e (aE.mp z))
 seen:=λe c=>by cases c
 pin:=h.sub p (aR _ (aE.mpr rfl))
 mu:=rfl
 up:=ax _
 wl:=by have:=h.wl;rw[aO]at this;simp at this;lia
theorem X9.step{m:Int}{j:hT}{p:Int}{l f i b:eu}{n:Nat}{e:Int}(h:X9 m j p l f i b n)(q:0<=e)(o:e<m):X9 m j p (l++[e]) (Bt (f,i) e).1 (Bt (f,i) e).2 b n:=by
 unfold Bt;by_cases c:e∈f
 .rw[aj c];refine⟨h.nd,h.zero,h.Λ,h.sub,h.cl,λx a=>?_,h.pin,h.mu,h.up,h.wl⟩;rcases aV.mp a with z|z
  .exact h.seen x z
  .rw[aE.mp z];exact c
 .rw[ah c];dsimp only;refine⟨K9 h.nd c,bq _ h.zero,λk g=>?_,λw d=>?_,λk g d=>?_,λx a=>?_,bq _ h.pin,?_,by have:=h.up;simp;lia,by have:=h.wl;simp;exact this⟩
  .rcases aV.mp g with z|z
   .exact h.Λ k z
   .rw[aE.mp z];exact⟨q,o⟩
  .rcases aV.mp d with z|z
   .exact bq _ (h.sub w z)
   .exact aR _ z
  .rcases aV.mp g with z|z
   .rcases h.cl k z λy=>d (bq _ y)with y|y
    .exact .inl y
    .exact .inr λx a=>bq _ (y x a)
   .exact absurd (aR _ z) d
  .rcases aV.mp a with z|z
   .exact bq _ (h.seen x z)
   .exact aR _ z
  .have:=h.mu;simp only[aO,aD,dY]
   lia
theorem X9.done{m:Int}{a:hT}{p:Int}{ks c b:eu}{d:Nat}(h:X9 m a p (gi a p) ks c b d):Yx m a ks c where
 nd:=h.nd
 zero:=h.zero
 Λ:=h.Λ
 sub:=h.sub
 cl:=λk hk hw=>by
  rcases h.cl k hk hw with z|z
  .rw[z];exact h.seen
  .exact z
 wl:=h.wl
theorem Yx.start{m:Int}{a:hT}(b:1<=m):Yx m a [0] [0] where
 nd:=by simp
 zero:=by simp
 Λ:=λk hk=>by rw[aE.mp hk];lia
 sub:=λw hw=>hw
 cl:=λk hk hw=>absurd hk hw
 wl:=by simp
theorem Yx.all{m:Int}{d:hT}{c:eu}(h:Yx m d c [])(f:1<=m)(j:M5 m d):(c.length:Int)=m:=by
 have up:=fj (by lia) h.nd h.Λ;have:∀v,0<=v->v<m->v∈c:=j (λv=>v∈c) h.zero λr e=>by
  constructor
  .intro ha;exact h.cl r.a ha (by simp) r.b (tU.mpr ⟨r,e,.inl ⟨rfl,rfl⟩⟩)
  .intro hb;exact h.cl r.b hb (by simp) r.a (tU.mpr ⟨r,e,.inr ⟨rfl,rfl⟩⟩)
 have:=OJ (by lia) this
 lia
theorem Qk{m:Int}{a:hT}(h:∀r∈a,X8 m r){p e:Int}(b:e∈gi a p):0<=e/\e<m:=by
 obtain⟨r,c,z⟩:=tU.mp b;have k:=h r c;rcases z with⟨_,rfl⟩|⟨_,rfl⟩
 .exact⟨k.b0,k.b1⟩
 .exact⟨k.a0,k.a1⟩
structure Row where
 k:Int
 un:Int
 t:Int
 u:Int
 sw:Int
 sp:Int
structure Ze(r:Row):Prop where
 u0:0<=r.un
 u1:r.un<r.k
 t0:2<=r.t
 t1:r.t<=1000000
 v0:2<=r.u
 v1:r.u<=1000000
 s0:0<=r.sp
 s1:r.sp<r.k
structure Rows(n:Nat)(rows:List Row):Prop where
 len:rows.length=n
 ok:∀(i:Nat)(r:Row),rows[i]?=some r->r.k=(i:Int)+1/\Ze r
structure ώ(n:Nat)(ls:eu):Prop where
 len:ls.length=n
 nd:ls.Nodup
 all:∀v:Int,0<=v->v<n->v∈ls
 Λ:∀v∈ls,0<=v/\v<n
theorem ώ.nil:ώ 0 []:=⟨rfl,by simp,λv a b=>(by lia),λv h=>(by cases h)⟩
theorem sE{a:Type}{l:List a}{k:Nat}{x y:a}:y∈l.take k++x::l.drop k↔y=x\/y∈l:=by
 rw[aV,aq]
 constructor
 .rintro(h|h|h)
  .exact .inr (fJ h)
  .exact .inl h
  .exact .inr (cj h)
 .rintro(h|h)
  .exact .inr (.inl h)
  .rw[<-cw k l]at h;rcases aV.mp h with z|z
   .exact .inl z
   .exact .inr (.inr z)
theorem ώ.put{n:Nat}{a:eu}(h:ώ n a)(k:Nat)(hk:k<=n):ώ (n+1) (a.take k++(n:Int)::a.drop k) where
 len:=by
  rw[aO,aD,bg,ee,h.len]
  lia
 nd:=by
  have p:(a.take k++(n:Int)::a.drop k).Perm ((n:Int)::a):=by
   refine List.perm_middle.trans ?_;rw[cw]
  refine p.nodup_iff.mpr (bf.mpr ⟨λz=>?_,h.nd⟩);have:=(h.Λ _ z).2
  lia
 all:=λv b c=>by
  rw[sE];by_cases e:v=n
  .exact .inl e
  .exact .inr (h.all v b (by lia))
 Λ:=λv hv=>by
  rcases sE.mp hv with z|z
  .lia
  .have:=h.Λ v z
   lia
def oA(a:eu)(r:Row):Road:=if r.sw=1 then⟨a.getD r.un.toNat 0,a.getD r.k.toNat 0,r.t,r.u⟩else⟨a.getD r.k.toNat 0,a.getD r.un.toNat 0,r.t,r.u⟩
structure Put(ls:eu)(rows:List Row)(rs:hT):Prop where
 len:rs.length=rows.length
 of:∀r∈rs,∃w∈rows,r=oA ls w
 to:∀w∈rows,oA ls w∈rs
theorem Put.nil(a:eu):Put a [] []:=⟨rfl,λr h=>(by cases h),λr h=>(by cases h)⟩
theorem Put.step{c:eu}{a:List Row}{d:hT}(h:Put c a d)(w:Row)(k:Nat):Put c (a++[w]) (d.take k++oA c w::d.drop k) where
 len:=by
  rw[aO,aD,bg,ee,aO,h.len];simp
  lia
 of:=λr hr=>by
  rcases sE.mp hr with z|z
  .exact⟨w,by simp,z⟩
  .obtain⟨b,hw,e⟩:=h.of r z;exact⟨b,bq _ hw,e⟩
 to:=λb hw=>by
  rw[sE];rcases aV.mp hw with z|z
  .exact .inr (h.to b z)
  .exact .inl (by rw[aE.mp z])
theorem sZ{a:eu}{n:Nat}(h:ώ n a){i:Nat}(b:i<n):a[i]?=some (a.getD i 0):=by
 have:i<a.length:=by rw[h.len];exact b
 simp[List.getD,ao this]
theorem FP{a:eu}{n:Nat}(h:ώ n a){i:Nat}(b:i<n):a.getD i 0∈a:=aJ (sZ h b)
theorem Pl{a:eu}{n:Nat}(h:ώ n a){i j:Nat}(l:i<n)(f:j<n)(e:a.getD i 0=a.getD j 0):i=j:=by
 have c:i<a.length:=by rw[h.len];exact l
 have b:j<a.length:=by rw[h.len];exact f
 have d:=sZ h l;have k:=sZ h f;rw[e]at d;have g:a[i]'c=a[j]'b:=by
  rw[ao c]at d;rw[ao b]at k;exact br (d.trans k.symm)
 have nd:=ir.mp h.nd;rcases iT i j with z|z|z
 .exact absurd g (nd i j c b z)
 .exact z
 .exact absurd g.symm (nd j i b c z)
theorem Ss{n:Nat}{f:eu}{a:List Row}{q:hT}(s:1<=n)(t:n<=24)(L:ώ n f)(W:Rows (n-1) a)(P:Put f a q):Good n q where
 m1:=by lia
 Θ:=by lia
 len:=by rw[P.len,W.len];lia
 ok:=λr hr=>by
  obtain⟨w,hw,rfl⟩:=P.of r hr;obtain⟨i,b⟩:=cR hw;obtain⟨ek,ok⟩:=W.ok i w b;have d:i<a.length:=(ar.mp b).1;rw[W.len]at d;have hk:w.k.toNat<n:=by lia
  have l:w.un.toNat<n:=by have:=ok.u0;have:=ok.u1;lia
  have h:=L.Λ _ (FP L hk);have m:=L.Λ _ (FP L l);have ne:f.getD w.k.toNat 0≠f.getD w.un.toNat 0:=λe=>by
   have:=Pl L hk l e;have:=ok.u0;have:=ok.u1
   lia
  unfold oA;by_cases c:w.sw=1
  .rw[aj c];exact⟨m.1,m.2,h.1,h.2,ne.symm,ok.t0,ok.t1,ok.v0,ok.v1⟩
  .rw[ah c];exact⟨h.1,h.2,m.1,m.2,ne,ok.t0,ok.t1,ok.v0,ok.v1⟩
 jn:=by
  intro S s0 u;have g:∀i:Nat,i<n->(S (f.getD i 0)↔S (f.getD 0 0)):=by
   intro i
   induction i using Nat.strongRecOn with
   | ind i ih=>
     intro b;by_cases z:i=0
     .rw[z]
     .have d:i-1<a.length:=(by rw[W.len];lia);obtain⟨ek,ok⟩:=W.ok (i-1) a[i-1] (ao d);have y:=P.to a[i-1] (eW d);have hr:=u _ y;have hk:(a[i-1]).k.toNat=i:=(by lia);have l:(a[i-1]).un.toNat<i:=(by have:=ok.u0;have:=ok.u1;lia);have p:=ih _ l (by lia);unfold oA at hr;rw[hk]at hr;by_cases c:(a[i-1]).sw=1
      .rw[aj c]at hr;exact hr.symm.trans p
      .rw[ah c]at hr;exact hr.trans p
  have at_:∀v,0<=v->v<(n:Int)->∃i,i<n/\f.getD i 0=v:=λv o s=>by
   obtain⟨i,b⟩:=cR (L.all v o s);have d:i<n:=(by have:=(ar.mp b).1;rw[L.len]at this;exact this);refine⟨i,d,?_⟩;have:=sZ L d;rw[b]at this;exact(br this).symm
  intro v o hv;obtain⟨i,b,rfl⟩:=at_ v o hv;obtain⟨j,A,x⟩:=at_ 0 (by lia) (by lia);refine(g i b).mpr ((g j A).mp ?_);rw[x];exact s0
def ZD(c:hT)(a b:Int):Prop:=∃x∈c,(x.a=a/\x.b=b)\/(x.b=a/\x.a=b)
theorem ZD.symm{d:hT}{a b:Int}(h:ZD d a b):ZD d b a:=by
 obtain⟨x,c,h⟩:=h;rcases h with⟨h1,h2⟩|⟨h1,h2⟩
 .exact⟨x,c,.inr ⟨h2,h1⟩⟩
 .exact⟨x,c,.inl ⟨h2,h1⟩⟩
theorem zZ{c:hT}{a b:Int}:b∈gi c a↔ZD c a b:=tU
theorem Good.adj{m:Int}{c:hT}(g:Good m c){a b:Int}(h:ZD c a b):(0<=a/\a<m)/\(0<=b/\b<m)/\a≠b:=by
 obtain⟨x,d,h⟩:=h;have k:=g.ok x d;rcases h with⟨h1,h2⟩|⟨h1,h2⟩
 .subst h1 h2;exact⟨⟨k.a0,k.a1⟩,⟨k.b0,k.b1⟩,k.ne⟩
 .subst h1 h2;exact⟨⟨k.b0,k.b1⟩,⟨k.a0,k.a1⟩,k.ne.symm⟩
theorem Good.from{m:Int}{d:hT}(g:Good m d){r:Int}(f:0<=r)(k:r<m)(S:Int->Prop)(e:S r)(j:∀x∈d,(S x.a↔S x.b)):∀v,0<=v->v<m->S v:=by
 have c:∀v,0<=v->v<m->(S v↔S 0):=g.jn (λv=>S v↔S 0) Iff.rfl λx i=>by
  have:=j x i;exact⟨λh=>this.symm.trans h,λh=>this.trans h⟩
 intro v a b;exact(c v a b).mpr ((c r f k).mp e)
inductive Xp(rs:hT)(r:Int):Nat->Int->Prop
 | zero:Xp rs r 0 r
 | step {n:Nat} {u v:Int}:Xp rs r n u->ZD rs u v->Xp rs r (n+1) v
theorem Wl{P:Nat->Prop}:∀n,P n->∃k,P k/\∀j,j<k->¬P j:=by
 intro n
 induction n using Nat.strongRecOn with
 | ind n ih=>
   intro h;by_cases z:∃j,j<n/\P j
   .obtain⟨j,a,b⟩:=z;exact ih j a b
   .exact⟨n,h,λj a b=>z ⟨j,a,b⟩⟩
structure ε(m:Int)(rs:hT)(r:Int)(par:fc)(dep:fz):Prop where
 root:dep r=0
 up:∀v,0<=v->v<m->v≠r->(0<=par v/\par v<m)/\ZD rs v (par v)/\dep (par v)+1=dep v
 road:∀x∈rs,(x.a≠r/\par x.a=x.b)\/(x.b≠r/\par x.b=x.a)
 one:(rs.map λx=>if x.a≠r/\par x.a=x.b then x.a else x.b).Nodup
theorem SA{n:Nat}{l:List Nat}(b:l.Nodup)(d:l.length=n)(a:∀x∈l,x<n):∀i,i<n->i∈l:=by
 intro i c;by_cases z:i∈l
 .exact z
 .have:=q8 (l:=i::l) (l':=List.range n) (bf.mpr ⟨z,b⟩) λx hx=>by
   rcases aq.mp hx with rfl|hx
   .exact cA.mpr c
   .exact cA.mpr (a x hx)
  rw[aD,bI]at this
  lia
theorem B5{m:Int}{s:hT}(g:Good m s){r:Int}(Z:0<=r)(h1:r<m):∃f o,ε m s r f o:=by
 classical
 have E:∀v,0<=v->v<m->∃n,Xp s r n v:=g.from Z h1 (λv=>∃n,Xp s r n v) ⟨0,.zero⟩ λx hx=>by
  constructor
  .rintro⟨n,d⟩;exact⟨n+1,d.step ⟨x,hx,.inl ⟨rfl,rfl⟩⟩⟩
  .rintro⟨n,d⟩;exact⟨n+1,d.step ⟨x,hx,.inr ⟨rfl,rfl⟩⟩⟩
 have hd:∀v,∃k,(0<=v/\v<m)->Xp s r k v/\∀j,j<k->¬Xp s r j v:=λv=>by
  by_cases z:0<=v/\v<m
  .obtain⟨n,d⟩:=E v z.1 z.2;obtain⟨k,h⟩:=Wl (P:=λk=>Xp s r k v) n d;exact⟨k,λ_=>h⟩
  .exact⟨0,λh=>absurd h z⟩
 obtain⟨o,U⟩:∃o:Int->Nat,∀v,0<=v->v<m->Xp s r (o v) v/\∀j,j<o v->¬Xp s r j v:=⟨λv=>(hd v).choose,λv a b=>(hd v).choose_spec ⟨a,b⟩⟩;have dr:o r=0:=by
  have:=(U r Z h1).2 0;by_cases z:o r=0
  .exact z
  .exact absurd Xp.zero (this (by lia))
 have hp:∀v,∃u,(0<=v/\v<m/\v≠r)->ZD s v u/\o u+1=o v:=λv=>by
  by_cases z:0<=v/\v<m/\v≠r
  .obtain⟨a,b,c⟩:=z;obtain⟨d,dm⟩:=U v a b;generalize hk:o v=k at d dm;cases d with
   | zero=>exact absurd rfl c
   | @step n u _ d e=>
     refine⟨u,λ_=>⟨e.symm,?_⟩⟩;obtain⟨⟨u0,u1⟩,_⟩:=g.adj e;have l1:o u<=n:=by
      by_cases w:o u<=n
      .exact w
      .exact absurd d ((U u u0 u1).2 n (by lia))
     have l2:¬o u<n:=λw=>dm (o u+1) (by lia) ((U u u0 u1).1.step e)
     lia
  .exact⟨0,λh=>absurd h z⟩
 obtain⟨f,L⟩:∃f:Int->Int,∀v,0<=v->v<m->v≠r->ZD s v (f v)/\o (f v)+1=o v:=⟨λv=>(hp v).choose,λv a b c=>(hp v).choose_spec ⟨a,b,c⟩⟩;have hi:∀v,∃i:Nat,(0<=v/\v<m/\v≠r)->∃x,s[i]?=some x/\((x.a=v/\x.b=f v)\/(x.b=v/\x.a=f v)):=λv=>by
  by_cases z:0<=v/\v<m/\v≠r
  .obtain⟨x,hx,h⟩:=(L v z.1 z.2.1 z.2.2).1;obtain⟨i,e⟩:=cR hx;exact⟨i,λ_=>⟨x,e,h⟩⟩
  .exact⟨0,λh=>absurd h z⟩
 obtain⟨t,O⟩:∃t:Int->Nat,∀v,0<=v->v<m->v≠r->∃x,s[t v]?=some x/\((x.a=v/\x.b=f v)\/(x.b=v/\x.a=f v)):=⟨λv=>(hi v).choose,λv a b c=>(hi v).choose_spec ⟨a,b,c⟩⟩;have V:∀v u,0<=v->v<m->v≠r->0<=u->u<m->u≠r->t v=t u->v=u:=by
  intro v u a b c K G I e;obtain⟨x,hx,h⟩:=O v a b c;obtain⟨y,Q,h'⟩:=O u K G I;rw[e,Q]at hx;cases hx;have T:=(L v a b c).2;have R:=(L u K G I).2;rcases h with⟨p,q⟩|⟨p,q⟩<;>rcases h' with⟨p',q'⟩|⟨p',q'⟩
  .exact p.symm.trans p'
  .exfalso
   have D:v=f u:=p.symm.trans q';have H:u=f v:=p'.symm.trans q;rw[<-D]at R;rw[<-H]at T
   lia
  .exfalso
   have D:v=f u:=p.symm.trans q';have H:u=f v:=p'.symm.trans q;rw[<-D]at R;rw[<-H]at T
   lia
  .exact p.symm.trans p'
 let B:List Int:=(cY m.toNat).filter λv=>decide (v≠r)
 have J:∀v,v∈B↔(0<=v/\v<m/\v≠r):=λv=>by
  rw[bG,gM,b4]
  constructor
  .rintro⟨⟨a,b⟩,c⟩;exact⟨a,by lia,c⟩
  .rintro⟨a,b,c⟩;exact⟨⟨a,by lia⟩,c⟩
 have nv:B.Nodup:=(kC _).filter _;have lv:B.length=s.length:=by
  have D:(r::B).length<=(cY m.toNat).length:=q8 (bf.mpr ⟨λh=>((J r).mp h).2.2 rfl,nv⟩) λx hx=>by
   rcases aq.mp hx with rfl|hx
   .exact gM.mpr ⟨Z,by lia⟩
   .have:=(J x).mp hx;exact gM.mpr ⟨this.1,by lia⟩
  have H:(cY m.toNat).length<=(r::B).length:=q8 (kC _) λx hx=>by
   have:=gM.mp hx;by_cases z:x=r
   .rw[z];exact aK
   .exact aF _ ((J x).mpr ⟨this.1,by lia,z⟩)
  rw[cX,aD]at D H;have:=g.len;have:=g.m1
  lia
 have il:(B.map t).Nodup:=by
  have:∀(l:eu),l.Nodup->(∀v∈l,0<=v/\v<m/\v≠r)->(l.map t).Nodup:=by
   intro l
   induction l with
   | nil=>intro _ _;simp
   | cons v l ih=>
     intro hn Y;obtain⟨n1,n2⟩:=bf.mp hn;rw[az];refine bf.mpr ⟨λz=>?_,ih n2 λu S=>Y u (aF _ S)⟩;obtain⟨u,S,e⟩:=bz.mp z;obtain⟨a,b,c⟩:=Y v aK;obtain⟨K,G,I⟩:=Y u (aF _ S);exact n1 (V u v K G I a b c e▸S)
  exact this B nv λv F=>(J v).mp F
 have ib:∀i∈B.map t,i<s.length:=λi A=>by
  obtain⟨v,F,rfl⟩:=bz.mp A;obtain⟨a,b,c⟩:=(J v).mp F;obtain⟨x,hx,_⟩:=O v a b c;exact(ar.mp hx).1
 have W:=SA il (by rw[aa,lv]) ib;have C:∀i x,s[i]?=some x->∃v,(0<=v/\v<m/\v≠r)/\t v=i/\((x.a=v/\x.b=f v)\/(x.b=v/\x.a=f v)):=λi x e=>by
  obtain⟨v,F,rfl⟩:=bz.mp (W i (ar.mp e).1);obtain⟨a,b,c⟩:=(J v).mp F;obtain⟨y,Q,h⟩:=O v a b c;rw[e]at Q;cases Q;exact⟨v,⟨a,b,c⟩,rfl,h⟩
 have X:∀v,0<=v->v<m->v≠r->f v≠r->f (f v)≠v:=λv a b c I z=>by
  have T:=L v a b c;obtain⟨_,⟨K,G⟩,_⟩:=g.adj T.1;have R:=L (f v) K G I;rw[z]at R
  lia
 have N:∀i x,s[i]?=some x->∃v,(0<=v/\v<m/\v≠r)/\t v=i/\(if x.a≠r/\f x.a=x.b then x.a else x.b)=v:=λi x e=>by
  obtain⟨v,⟨a,b,c⟩,F,h⟩:=C i x e;refine⟨v,⟨a,b,c⟩,F,?_⟩;rcases h with⟨p,q⟩|⟨p,q⟩
  .rw[aj ⟨by rw[p];exact c,by rw[p];exact q.symm⟩];exact p
  .rw[ah]
   .exact p
   .rintro⟨z1,z2⟩;rw[q]at z1 z2;exact X v a b c z1 (z2.trans p)
 refine⟨f,o,dr,λv a b c=>?_,λx hx=>?_,?_⟩
 .obtain⟨p,q⟩:=L v a b c;obtain⟨_,w,_⟩:=g.adj p;exact⟨w,p,q⟩
 .obtain⟨i,e⟩:=cR hx;obtain⟨v,⟨a,b,c⟩,_,h⟩:=C i x e;rcases h with⟨p,q⟩|⟨p,q⟩
  .exact .inl ⟨by rw[p];exact c,by rw[p];exact q.symm⟩
  .exact .inr ⟨by rw[p];exact c,by rw[p];exact q.symm⟩
 .refine ir.mpr λi j A M lt=>?_;rw[aa]at A M;rw[iY,iY];intro z;obtain⟨v,_,D,k1⟩:=N i s[i] (ao A);obtain⟨u,_,H,k2⟩:=N j s[j] (ao M);rw[k1,k2]at z;rw[z]at D
  lia
theorem KR{m:Int}{n:hT}(g:Good m n){p:Int}(B:0<=p)(v:p<m):(gi n p).Nodup:=by
 obtain⟨f,A,R⟩:=B5 g B v;have one:=R.one;have ok:=g.ok;have road:=R.road;clear R g
 induction n with
 | nil=>simp[gi]
 | cons x l ih=>
   have o:=ok x aK;have q:∀y∈l,X8 m y:=λy hy=>ok y (aF _ hy);rw[az]at one;obtain⟨t,C⟩:=bf.mp one;have k:=ih C q λy hy=>road y (aF _ hy);have e:gi (x::l) p=uG p x++gi l p:=by unfold gi;rw[bD]
   rw[e];have i:∀y,X8 m y->((y.a≠p/\f y.a=y.b)\/(y.b≠p/\f y.b=y.a))->(y.a=p->(if y.a≠p/\f y.a=y.b then y.a else y.b)=y.b)/\(y.b=p->(if y.a≠p/\f y.a=y.b then y.a else y.b)=y.a):=λy D hy=>by
    constructor
    .intro z;rw[ah (λw=>w.1 z)]
    .intro z;rcases hy with hy|hy
     .rw[aj hy]
     .exact absurd z hy.1
   have r:=i x o (road x aK);have j:∀e∈gi l p,e∈l.map λy=>if y.a≠p/\f y.a=y.b then y.a else y.b:=λe u=>by
    obtain⟨y,hy,h⟩:=tU.mp u;have s:=i y (q y hy) (road y (aF _ hy));refine bz.mpr ⟨y,hy,?_⟩;rcases h with⟨p1,q1⟩|⟨p1,q1⟩
    .rw[s.1 p1];exact q1
    .rw[s.2 p1];exact q1
   unfold uG;by_cases c:x.a=p
   .have d:¬x.b=p:=λz=>o.ne (c.trans z.symm);rw[aj c,ah d,bJ];refine bf.mpr ⟨λz=>t ?_,k⟩;rw[r.1 c];exact j _ z
   .rw[ah c,fW];by_cases d:x.b=p
    .rw[aj d];refine bf.mpr ⟨λz=>t ?_,k⟩;rw[r.2 d];exact j _ z
    .rw[ah d];exact k
def mG(m:Int)(a:hT)(p:Int):List Int:=(cY m.toNat).filter λq=>decide (q∈gi a p)
theorem xw:∀{l c:eu},l.Perm c->l.Pairwise (·<=·)->c.Pairwise (·<=·)->l=c
 | [],c,p,_,_=>(List.Perm.nil_eq p)
 | a::l,c,p,h,h'=>by
   cases c with
   | nil=>exact absurd p.symm.nil_eq (by simp)
   | cons b r=>
     obtain⟨k,i⟩:=List.pairwise_cons.mp h;obtain⟨f,d⟩:=List.pairwise_cons.mp h';have e:a=b:=by
      have j:a∈b::r:=p.subset aK;have g:b∈a::l:=p.symm.subset aK;rcases aq.mp j with z|z
      .exact z
      .rcases aq.mp g with w|w
       .exact w.symm
       .have:=k b w;have:=f a z
        lia
     subst e;rw[xw (List.Perm.cons_inv p) i d]
theorem Gu(n:Nat):(cY n).Pairwise (·<=·):=by
 unfold cY;refine List.Pairwise.map _ (λa b (h:a<b)=>?_) List.pairwise_lt_range
 lia
theorem zk(m:Int)(a:hT)(p:Int):(mG m a p).Pairwise (·<=·):=(Gu _).filter _
theorem AW(m:Int)(a:hT)(p:Int):(mG m a p).Nodup:=(kC _).filter _
theorem Ft{m:Int}{c:hT}(g:Good m c){p q:Int}:q∈mG m c p↔ZD c p q:=by
 unfold mG;rw[bG,b4,zZ,gM]
 constructor
 .exact λh=>h.2
 .intro h;obtain⟨_,⟨a,b⟩,_⟩:=g.adj h;exact⟨⟨a,by lia⟩,h⟩
theorem ik:∀{l c:eu},l.Nodup->c.Nodup->(∀x,x∈l↔x∈c)->l.Perm c
 | [],c,_,_,h=>by
   cases c with
   | nil=>exact .nil
   | cons b r=>exact absurd ((h b).mpr aK) (by simp)
 | a::l,c,n,n',h=>by
   obtain⟨e,d⟩:=bf.mp n;have f:a∈c:=(h a).mp aK;refine List.Perm.trans (List.Perm.cons a ?_) (List.perm_cons_erase f).symm;refine ik d (n'.erase a) λx=>?_
   constructor
   .intro hx;have ne:x≠a:=λz=>e (z▸hx);exact(mN ne).mpr ((h x).mp (aF _ hx))
   .intro hx;have:x≠a:=λz=>by
     subst z;exact(List.Nodup.not_mem_erase n') hx
    rcases aq.mp ((h x).mpr (List.mem_of_mem_erase hx))with z|z
    .exact absurd z this
    .exact z
theorem RO{m:Int}{a:hT}(g:Good m a){p:Int}(c:0<=p)(f:p<m){b:eu}(d:b.Perm (gi a p))(e:b.Pairwise (·<=·)):b=mG m a p:=by
 refine xw (d.trans (ik (KR g c f) (AW m a p) λx=>?_)) e (zk m a p);rw[Ft g,zZ]
def jE(a b:Int)(x:Road):Option Int:=if x.a=a/\x.b=b then some x.t else if x.a=b/\x.b=a then some x.u else none
def c9(c:hT)(a b:Int):Option Int:=c.findSome? (jE a b)
theorem zX{e:hT}{a b:Int}:(c9 e a b).isSome=true↔ZD e a b:=by
 unfold c9;rw[List.findSome?_isSome_iff]
 constructor
 .rintro⟨x,hx,h⟩;unfold jE at h;by_cases c:x.a=a/\x.b=b
  .exact⟨x,hx,.inl c⟩
  .rw[ah c]at h;by_cases d:x.a=b/\x.b=a
   .exact⟨x,hx,.inr ⟨d.2,d.1⟩⟩
   .rw[ah d]at h;cases h
 .rintro⟨x,hx,h⟩;refine⟨x,hx,?_⟩;unfold jE;rcases h with h|h
  .rw[aj h];rfl
  .by_cases c:x.a=a/\x.b=b
   .rw[aj c];rfl
   .rw[ah c,aj ⟨h.2,h.1⟩];rfl
def sH(x:Road)(a b:Int):Prop:=(x.a=a/\x.b=b)\/(x.b=a/\x.a=b)
theorem D3{m:Int}{c:hT}(g:Good m c){a b:Int}{i j:Nat}{x y:Road}(o:c[i]?=some x)(B:c[j]?=some y)(k:sH x a b)(s:sH y a b):i=j:=by
 obtain⟨⟨v,C⟩,_,_⟩:=g.adj (show ZD c a b from⟨x,aJ o,k⟩);obtain⟨d,u,R⟩:=B5 g v C;have e:∀z∈c,sH z a b->(if z.a≠a/\d z.a=z.b then z.a else z.b)=b:=λz t E=>by
  rcases E with⟨p,q⟩|⟨p,q⟩
  .rw[ah (λw=>w.1 p)];exact q
  .rcases R.road z t with w|w
   .rw[aj w];exact q
   .exact absurd p w.1
 have f:=(ar.mp o);have h:=(ar.mp B);obtain⟨f,D⟩:=f;obtain⟨h,A⟩:=h;have l:=ir.mp R.one;have r:(c.map λz=>if z.a≠a/\d z.a=z.b then z.a else z.b)[i]'(by rw[aa];exact f)=b:=by
  rw[iY];exact e _ (eW f) (D▸k)
 have n:(c.map λz=>if z.a≠a/\d z.a=z.b then z.a else z.b)[j]'(by rw[aa];exact h)=b:=by
  rw[iY];exact e _ (eW h) (A▸s)
 rcases iT i j with z|z|z
 .exact absurd (r.trans n.symm) (l i j _ _ z)
 .exact z
 .exact absurd (n.trans r.symm) (l j i _ _ z)
theorem J8{a b:Int}{x:Road}(h:¬sH x a b):jE a b x=none:=by
 unfold jE;rw[ah (λz=>h (.inl z)),ah (λz=>h (.inr ⟨z.2,z.1⟩))]
theorem xR{m:Int}{d:hT}(g:Good m d){a b:Int}{i:Nat}{x:Road}(l:d[i]?=some x)(j:sH x a b):c9 d a b=jE a b x:=by
 have lt:=(ar.mp l);obtain⟨lt,s⟩:=lt;have e:d=d.take i++x::d.drop (i+1):=by rw[<-s,lZ,cw]
 have f:c9 (d.take i) a b=none:=by
  unfold c9;rw[List.findSome?_eq_none_iff];intro y n;refine J8 λp=>?_;obtain⟨k,h⟩:=cR n;have q:=(ar.mp h).1;rw[bg]at q;rw[iJ (by lia)]at h;have:=D3 g h l p j
  lia
 have o:(jE a b x).isSome=true:=by
  unfold jE;rcases j with z|z
  .rw[aj z];rfl
  .by_cases c:x.a=a/\x.b=b
   .rw[aj c];rfl
   .rw[ah c,aj ⟨z.2,z.1⟩];rfl
 obtain⟨v,r⟩:=eT.mp o;have:c9 (d.take i++x::d.drop (i+1)) a b=jE a b x:=by
  unfold c9 at f ⊢;rw[jH,f,ku,r]
  rfl
 rw[<-e]at this;exact this
theorem L9{c:hT}{a b:Int}(h:¬ZD c a b):c9 c a b=none:=by
 cases q:c9 c a b with
 | none=>rfl
 | some v=>exact absurd (zX.mp (by rw[q];rfl)) h
theorem Pp{x:Road}(h:x.a≠x.b):jE x.a x.b x=some x.t:=by unfold jE;rw[aj ⟨rfl,rfl⟩]
theorem PJ{x:Road}(h:x.a≠x.b):jE x.b x.a x=some x.u:=by unfold jE;rw[ah (λz=>h z.1),aj ⟨rfl,rfl⟩]
theorem Nw{m:Int}{a:hT}(p:Int):mG m a p=(cY m.toNat).filter λq=>(c9 a p q).isSome:=by
 unfold mG
 congr 1
 funext q
 rw[gR,b4,zX,zZ]
end Pb
namespace L2
open PySem PySem.Spec PyProof.Rows
def b6(b:W7):Prop:=∀a H s e c,¬b a H s E0 e c
theorem uz{a:W7}(q:b6 a){X:Cx}:rL a X E0:=λ_ _ _ _ _ _ _ h=>(q _ _ _ _ _ h).elim
structure Df(K:gh)(mg:hH)(x:Str)(st:Stmt)(ps:hL)(f:Addr)(fd:FuncData):Prop where
 F:Y2 K x x st f fd
 m:mg x=some (.ref f)
 b:Binds K fd ps []
section
variable{P:Program}{w:World}{K:gh}{c:hH}{a:Heap}{b:W7}
theorem Y2.ό{x e:Str}{st:Stmt}{f:Addr}{o:FuncData}{N l:hL}{k:Nat}{j:Sp}(F:Y2 K x e st f o)(S:ζ N l (aG st))(n:∀g H Q E,j g H Q E->g.length=l.length)(p:∀(i:Value) (A:Around) (d:List Env) (s:Shared) (H:Hp) (g:List V) (Q:VK) (E:XK),Ν k (A.deeper (envOfC e (aG st) s.heap.objs.size f i))->j g H Q E->∃t,YS (sA b P w K c a N e (aG st) f i A d s H E).nox (hJ st) t/\t { nx:=λ_ z=>Q .π z,rt:=Q } (start N g) H):Ψ P w K c a b (k+1) f o l j:=by
 obtain⟨G,I,kV,y,J,D,i,C,B,rfl,v,u⟩:=F.ex;refine Rz v u S n λA d s H g Q E r m=>?_;obtain⟨t,h,q⟩:=p i A d s H g Q E r m;exact⟨t,h.nox,q⟩
end
structure ZE(sc:Scope)(x:Str):Prop where
 l:sc.names.lookup x=some .local
 d:(x==("__debug__":Str))=false
 c:(x==("__classdict__":Str))=false
structure Zi(sc:Scope)(x:Str):Prop where
 l:sc.names.lookup x=some .cell
 d:(x==("__debug__":Str))=false
 c:(x==("__classdict__":Str))=false
structure Ϙ(sc:Scope)(x:Str):Prop where
 g:sc.names.lookup x=some .globalImplicit
 d:(x==("__debug__":Str))=false
 n:x≠"__name__"
theorem us1{a:hD}(h:a.length=1):∃b,a=[b]:=List.length_eq_one_iff.mp h
theorem us2{b:hD}(h:b.length=2):∃c a,b=[c,a]:=by
 cases b with
 | nil=>cases h
 | cons c t=>
   obtain⟨a,e⟩:=us1 (jh h);subst e;exact⟨c,a,rfl⟩
theorem us3{c:hD}(h:c.length=3):∃d a b,c=[d,a,b]:=by
 cases c with
 | nil=>cases h
 | cons d t=>
   obtain⟨a,b,e⟩:=us2 (jh h);subst e;exact⟨d,a,b,rfl⟩
theorem us4{c:hD}(h:c.length=4):∃d a b f,c=[d,a,b,f]:=by
 cases c with
 | nil=>cases h
 | cons d t=>
   obtain⟨a,b,f,e⟩:=us3 (jh h);subst e;exact⟨d,a,b,f,rfl⟩
theorem us5{c:hD}(h:c.length=5):∃d a b g f,c=[d,a,b,g,f]:=by
 cases c with
 | nil=>cases h
 | cons d t=>
   obtain⟨a,b,g,f,e⟩:=us4 (jh h);subst e;exact⟨d,a,b,g,f,rfl⟩
theorem us6{c:hD}(h:c.length=6):∃d a b g f i,c=[d,a,b,g,f,i]:=by
 cases c with
 | nil=>cases h
 | cons d t=>
   obtain⟨a,b,g,f,i,e⟩:=us5 (jh h);subst e;exact⟨d,a,b,g,f,i,rfl⟩
def nmL(a:Scope)(x:Str):Bool:=decide (a.names.lookup x=some .local)&&!(x==("__debug__":Str))&&!(x==("__classdict__":Str))
def nmC(a:Scope)(x:Str):Bool:=decide (a.names.lookup x=some .cell)&&!(x==("__debug__":Str))&&!(x==("__classdict__":Str))
def nmG(a:Scope)(x:Str):Bool:=decide (a.names.lookup x=some .globalImplicit)&&!(x==("__debug__":Str))&&!decide (x="__name__")
theorem ZE.of{a:Scope}{x:Str}(h:nmL a x=true):ZE a x:=by
 unfold nmL at h;simp only[b5,b4,fX]at h;exact⟨h.1.1,h.1.2,h.2⟩
theorem Zi.of{a:Scope}{x:Str}(h:nmC a x=true):Zi a x:=by
 unfold nmC at h;simp only[b5,b4,fX]at h;exact⟨h.1.1,h.1.2,h.2⟩
theorem Ϙ.of{a:Scope}{x:Str}(h:nmG a x=true):Ϙ a x:=by
 unfold nmG at h;simp only[b5,b4,fX,decide_eq_false_iff_not]at h;exact⟨h.1.1,h.1.2,h.2⟩
def Vt(N b:hL)(a:Scope):Bool:=decide (a.kind=.function)&&!a.isCoroutine&&!a.isGenerator&&decide N.Nodup&&decide (N.take b.length=b)&&(b.all λx=>decide (a.names.lookup x=some .local\/a.names.lookup x=some .cell))&&(a.names.all λy=>decide (y.2≠.free))
theorem ζ.of{N b:hL}{a:Scope}(h:Vt N b a=true:=by kernel_rfl):ζ N b a:=by
 unfold Vt at h;simp only[b5,b4,fX,fB]at h;obtain⟨⟨⟨⟨⟨⟨j,d⟩,g⟩,i⟩,e⟩,f⟩,c⟩:=h;exact⟨j,d,g,i,e,f,c⟩
theorem pvl{X:Cx}(i:Nat){x:Str}{a:Pos}(n:ZE X.env.scope x)(b:X.N[i]?=some x:=by rfl):PE X (.Name x a) (xZ i):=Gi b (.inl n.l) n.d n.c
theorem pvc{X:Cx}(i:Nat){x:Str}{a:Pos}(n:Zi X.env.scope x)(b:X.N[i]?=some x:=by rfl):PE X (.Name x a) (xZ i):=Gi b (.inr (.inl n.l)) n.d n.c
theorem Nv{e:W7}{P:Program}{w:World}{K:gh}{g:hH}{c:Heap}{N:hL}{d:Str}{b:Scope}{f:Addr}{h:Value}{A:Around}{a:List Env}{s:Shared}{H:Hp}{E:XK}:(sA e P w K g c N d b f h A a s H E).K=K:=rfl
theorem Ec(D:Ends)(a:St)(H:Hp):Z2 D a H=False:=rfl
theorem SE(i j:Int):nW (.int i) (.int j)=true:=rfl
theorem SH(i j:Bool):nW (.bl i) (.bl j)=true:=rfl
theorem Sv(i:Int):nW (.int i) .π=true:=rfl
theorem RR(i:Int):nW .π (.int i)=true:=rfl
theorem R8:nW .π .π=true:=rfl
theorem RK(i j:Str):nW (.str i) (.str j)=true:=rfl
theorem Xa{K:gh}{H:Hp}{p:Addr}{a:List V}{i:Int}{v:V}{Q:VK}(h:H p=some (.tup a))(e:ϥ a i=some v)(q:Q v H):QA K (.ref p) (.int i) H Q:=⟨p,a,i,v,rfl,rfl,Ι.of h,e,q⟩
theorem Η{K:gh}{H:Hp}{p:Addr}{xs:List V}{i:Int}{v:V}{Q:VK}(h:H p=some (.lst xs))(e:ϥ xs i=some v)(q:Q v H):GZ K (.ref p) (.int i) H Q:=⟨p,xs,i,v,rfl,rfl,μ.of h,e,q⟩
theorem ixS{K:gh}{H:Hp}{p:Addr}{a:List V}{i:Int}{v:V}{Q:VK}(h:μ K H p a)(e:ϥ a i=some v)(q:Q v H):GZ K (.ref p) (.int i) H Q:=⟨p,a,i,v,rfl,rfl,h,e,q⟩
theorem Xj{K:gh}{H:Hp}{l:Addr}{a:List V}(h:H l=some (.lst a)):tyV K "list" (.ref l) H:=.inl ⟨rfl,_,μ.of h⟩
theorem qN{H:Hp}{l:Addr}{a:List V}{y:V}{Q:VK}(h:H l=some (.lst a))(b:a.length<sizeLine)(q:Q .π (upd H l (.lst (a++[y])))):X4 (.ref l) [y] H Q:=⟨l,a,y,rfl,rfl,h,b,q⟩
theorem TK{H:Hp}{l:Addr}{a:List V}{i:Int}{y:V}{Q:VK}(h:H l=some (.lst a))(c:0<=i)(d:i<=a.length)(b:a.length<sizeLine)(q:Q .π (upd H l (.lst (a.take i.toNat++y::a.drop i.toNat)))):X5 (.ref l) [.int i,y] H Q:=⟨l,a,i,y,rfl,rfl,h,c,d,b,q⟩
theorem KP{H:Hp}{l:Addr}{a:List V}{y:V}{Q:VK}(h:H l=some (.lst (a++[y])))(q:Q y (upd H l (.lst a))):aeq (.ref l) [] H Q:=⟨l,a++[y],y,rfl,rfl,h,by simp,by rw[List.dropLast_concat];exact q⟩
theorem eJ{n:Nat}(h:n<=100000):n<sizeLine:=fE h (by decide)
theorem cg{n:Nat}(h:n<=100000):n<=sizeLine:=je (eJ h)
theorem cB{b:Type}{a:List b}{i:Int}{v:b}(c:0<=i)(h:a[i.toNat]?=some v):ϥ a i=some v:=by
 obtain⟨n,rfl⟩:∃n:Nat,i=n:=⟨i.toNat,by lia⟩;exact JQ (by simpa using h)
theorem wm{X:Cx}{x:Str}{i:Int}{a:Pos}(b:Gl X x)(c:∃t,X.mg x=some (.int i t))(hd:(x==("__debug__":Str))=false:=by decide):PE X (.Name x a) (tC (.int i)):=by
 obtain⟨t,e⟩:=c;exact RC b e ⟨t,rfl⟩ hd
def Itx(K:gh):Bool->Addr->It
 | true,a=>Itl K a
 | false,a=>Itt K a
def OY(K:gh)(c:Bool)(e:TE):TI:=λd H R=>e d H λx b=>∃a,x=.ref a/\(∃f,ϣ K c b a f)/\R (Itx K c a) b
theorem M7{X:Cx}{d l:Expr}{b:TE}(c:Bool)(a:PE X l b):PI X d l (OY X.K c b):=by
 cases c
 .exact vF a
 .exact gQ a
def u9(J:It)(p:Addr)(Q:VK)(g:TG)(r:TT)(n:TE)(h:St)(o:Hp):Prop:=∃W:Nat->Nat->List V->St->Hp->Prop,(∃m,W 0 m [] h o)/\∀i m c d e,W i m c d e->(J.stop i e/\Q (.ref p) e)\/(J.go i e/\∀x l,J.yld i e x l->g x d l λa q=>r a q λb k=>
 if b=true then n a k λy j=>j p=some (.lst c)/\c.length<sizeLine/\∃f,f<m/\W (i+1) f (c++[y]) a (upd j p (.lst (c++[y])))
 else ∃f,f<m/\W (i+1) f c a k)
theorem DU{a:Nat}{d:List Nat}{h:TI}{g:TG}{c:TT}{e:TE}{b:St}{H:Hp}{Q:VK}:KB a d h g c e b H Q=h b H λJ f=>∀p,f p=none->u9 J p Q g c e (mU a d b) (upd f p (.lst [])):=rfl
def sO(J:It)(D:Ends)(g:TG)(h:TS)(b:St)(H:Hp):Prop:=∃W:Nat->Nat->St->Hp->Prop,(∃m,W 0 m b H)/\∀i m b H,W i m b H->(J.stop i H/\D.nx b H)\/(J.go i H/\∃N:St->Hp->Prop,(∀a c,N a c->∃e,e<m/\W (i+1) e a c)/\∀x c,J.yld i H x c->g x b c λd f=>h { D with nx:=N,ct:=N,bk:=D.nx } d f)
theorem JH{b:TI}{g:TG}{c:TS}{D:Ends}{a:St}{H:Hp}:TJ b g c D a H=b a H λJ d=>sO J D g c a d:=rfl
theorem lW{K:gh}{c:Bool}{a p:Addr}{xs:List V}{Q:VK}{g:TG}{A:TT}{t:TE}{n:St}{u:Hp}(k:Nat->List V->St->Hp->Prop)(I:k 0 [] n u)(C:∀i d f H,i<=xs.length->k i d f H->ϣ K c H a xs)(E:∀(i:Nat) (x:V) (d:List V) (f:St) (H:Hp) (N:List V->St->Hp->Prop),(∀o h l,k (i+1) o h l->N o h l)->xs[i]?=some x->k i d f H->g x f H λj F=>A j F λb z=>
 if b=true then t j z λy w=>w p=some (.lst d)/\d.length<sizeLine/\N (d++[y]) j (upd w p (.lst (d++[y])))else N d j z)(D:∀d f H,k xs.length d f H->Q (.ref p) H):u9 (Itx K c a) p Q g A t n u:=by
 refine⟨λi m d f H=>m=xs.length-i/\i<=xs.length/\k i d f H,⟨xs.length,by simp,bx _,I⟩,?_⟩;rintro i m d f H ⟨rfl,G,pv⟩;have q:=C i d f H G pv;by_cases r:i<xs.length
 .refine .inr ⟨?_,λx l y=>?_⟩
  .cases c
   .exact⟨xs,xs[i],q,by simp[r]⟩
   .exact⟨xs,xs[i],q,by simp[r]⟩
  .have e:l=H/\xs[i]?=some x:=by
    cases c
    .exact⟨y.1,y.2 xs q⟩
    .exact⟨y.1,y.2 xs q⟩
   obtain⟨rfl,B⟩:=e;exact E i x d f _ (λo h l=>∃v,v<xs.length-i/\(v=xs.length-(i+1)/\i+1<=xs.length/\k (i+1) o h l)) (λo h l s=>⟨xs.length-(i+1),by lia,rfl,r,s⟩) B pv
 .have e:i=xs.length:=by lia
  subst e;refine .inl ⟨?_,D d f H pv⟩;cases c
  .exact⟨xs,q,ax _⟩
  .exact⟨xs,q,ax _⟩
theorem qE{lo:Int}{n:Nat}{p:Addr}{Q:VK}{g:TG}{w:TT}{r:TE}{k:St}{s:Hp}(h:Nat->List V->St->Hp->Prop)(C:h 0 [] k s)(A:∀(i:Nat) (a:List V) (f:St) (H:Hp) (N:List V->St->Hp->Prop),(∀l c j,h (i+1) l c j->N l c j)->i<n->h i a f H->g (.int (lo+i)) f H λd B=>w d B λb v=>
 if b=true then r d v λy u=>u p=some (.lst a)/\a.length<sizeLine/\N (a++[y]) d (upd u p (.lst (a++[y])))else N a d v)(z:∀a f H,h n a f H->Q (.ref p) H):u9 (Itr lo n) p Q g w r k s:=by
 refine⟨λi m a f H=>m=n-i/\i<=n/\h i a f H,⟨n,by simp,bx _,C⟩,?_⟩;rintro i m a f H ⟨rfl,D,pv⟩;by_cases o:i<n
 .refine .inr ⟨o,λx j y=>?_⟩;obtain⟨rfl,rfl⟩:=y;exact A i a f _ (λl c j=>∃t,t<n-i/\(t=n-(i+1)/\i+1<=n/\h (i+1) l c j)) (λl c j q=>⟨n-(i+1),by lia,rfl,o,q⟩) o pv
 .have e:i=n:=by lia
  subst e;exact .inl ⟨ax _,z a f H pv⟩
theorem SJ:bootBuiltins "int"=some (.type "int"):=by decide +kernel
theorem Gb:bootBuiltins "tuple"=some (.type "tuple"):=by decide +kernel
theorem Sg:bootBuiltins "bool"=some (.type "bool"):=by decide +kernel
section
variable{X:Cx}{a b o e:Expr}{m:List Expr}{i q n:TE}{t:TA}{g c k:Pos}{f d:Str}{T j:String}{r:V->List V->Hp->VK->Prop}
theorem Dk(K:gh)(h:X.K=K):mZ X (.type "tuple") (λu H Q=>∃p s,u=[.ref p]/\((μ K H p s/\∀l,H l=none->Q (.ref l) (upd H l (.tup s)))\/(Ι K H p s/\Q (.ref p) H))):=by subst h;exact kZ
theorem mQ(K:gh)(h:X.K=K):IxR X (GZ K):=by subst h;exact bF
theorem yh(K:gh)(h:X.K=K):IxR X (QA K):=by subst h;exact ia
end
theorem Cj{x:Str}{k:NameKind}:∀{l:List (Str×NameKind)},l.lookup x=some k->∃y,(y,k)∈l
 | [],h=>by simp at h
 | (n,j)::r,h=>by
   rw[cP]at h;cases q:x==n with
   | true=>
     rw[q]at h;cases h;exact⟨n,aK⟩
   | false=>
     rw[q]at h;obtain⟨y,a⟩:=Cj h;exact⟨y,aF _ a⟩
theorem vW{X:Cx}{Nc:hL}{a:Scope}(own:Nat)(g:∀y∈a.names,y.2≠.free)(d:∀y∈a.names,y.2≠.cell)(hk:a.kind=.function)(q:∀y∈a.names,y.2=.local->a.names.lookup y.1=some .local)(p:Nc.length=own):ϟ X Nc own [] a [] where
 acD:=closureFor_none g
 kind:=hk
 Y3:=d
 names:=q
 cells:=λx c h=>by cases h
 has:=λx h=>by
  have b:∀k,(relabel a X.env).names.lookup x=some k->k≠.cell/\k≠.free:=λk e=>by
   obtain⟨y,m⟩:=Cj e;obtain⟨⟨n,k0⟩,l,f⟩:=bz.mp m;have j:=g _ l;have r:=d _ l;have o:(k0==NameKind.free)=false:=(by simpa using j);simp only[o,jg,dL,if_false]at f;cases f;exact⟨r,j⟩
  rcases h with h|h
  .exact absurd rfl (b _ h).1
  .exact absurd rfl (b _ h).2
 len:=by simpa using p
 outer:=λi x h=>by
  rw[bN (by lia)]at h;cases h
theorem uy{K:gh}{a:Addr}{xs:List V}{g:TG}{f:TS}{D:Ends}{b:St}{H:Hp}(c:Nat->St->Hp->Prop)(o:c 0 b H)(k:∀i b H,i<=xs.length->c i b H->μ K H a xs)(m:∀(i:Nat) (x:V) (b:St) (H:Hp) (N:St->Hp->Prop),(∀d h,c (i+1) d h->N d h)->xs[i]?=some x->c i b H->g x b H λe n=>f { D with nx:=N,ct:=N,bk:=D.nx } e n)(l:∀b H,c xs.length b H->D.nx b H):sO (Itl K a) D g f b H:=QJ c o k (λi x b H j p=>m i x b H (c (i+1)) (λ_ _ z=>z) j p) l
theorem FK{K:gh}{a:Addr}{xs:List V}{g:TG}{f:TS}{D:Ends}{b:St}{H:Hp}(c:Nat->St->Hp->Prop)(o:c 0 b H)(k:∀i b H,i<=xs.length->c i b H->Ι K H a xs)(m:∀(i:Nat) (x:V) (b:St) (H:Hp) (N:St->Hp->Prop),(∀d h,c (i+1) d h->N d h)->xs[i]?=some x->c i b H->g x b H λe n=>f { D with nx:=N,ct:=N,bk:=D.nx } e n)(l:∀b H,c xs.length b H->D.nx b H):sO (Itt K a) D g f b H:=CY c o k (λi x b H j p=>m i x b H (c (i+1)) (λ_ _ z=>z) j p) l
theorem sF{lo:Int}{n:Nat}{g:TG}{e:TS}{D:Ends}{a:St}{H:Hp}(b:Nat->St->Hp->Prop)(m:b 0 a H)(j:∀(i:Nat) (a:St) (H:Hp) (N:St->Hp->Prop),(∀c f,b (i+1) c f->N c f)->i<n->b i a H->g (.int (lo+i)) a H λd k=>e { D with nx:=N,ct:=N,bk:=D.nx } d k)(h:∀a H,b n a H->D.nx a H):sO (Itr lo n) D g e a H:=MM b m (λi a H l p=>j i a H (b (i+1)) (λ_ _ z=>z) l p) h
theorem vy{c:TT}{i:TS}{D:Ends}{e:St}{H:Hp}(W:Nat->St->Hp->Prop)(j:Nat)(o:W j e H)(l:∀(n:Nat) (e:St) (H:Hp) (N:St->Hp->Prop),(∀g a d,g<n->W g a d->N a d)->(∀a d,N a d->∃f,f<n/\W f a d)->W n e H->c e H λb h=>if b=true then ∃N:St->Hp->Prop,(∀a d,N a d->∃f,f<n/\W f a d)/\i { D with nx:=N,ct:=N,bk:=D.nx } e h else D.nx e h):FJ c i D e H:=⟨W,⟨j,o⟩,λn e H w=>l n e H (λa d=>∃f,f<n/\W f a d) (λg _ _ m k=>⟨g,m,k⟩) (λ_ _ z=>z) w⟩
theorem yi{a:Int}{n:Nat}(h:a.natAbs<2^n):Builtin.Int.intBits a<=n:=by
 unfold Builtin.Int.intBits;by_cases z:a=0
 .subst z;simp
 .have hz:(a==0)=false:=by simpa using z
  rw[hz];simp only[dL,if_false];have:=(oE (by lia)).mpr h
  lia
theorem Nm{a b:Int}(d:a.natAbs<2^4000)(c:b.natAbs<2^4000):IntMulOk a b:=IntMulOk.of_bits (aN (yi d) (by decide)) (aN (yi c) (by decide))
open Pb
def qa(r:Road):List V:=[.int r.a,.int r.b,.int r.t,.int r.u]
abbrev ρ(H:Hp):List Addr->List Road->Prop:=Paired λp r=>H p=some (.tup (qa r))
theorem ρ.same{H a:Hp}(e:δ H a){c:g8}{b:hT}(h:ρ H c b):ρ a c b:=Paired.imp' (λp r q=>e p _ q) h
theorem ρ.get{H:Hp}:∀{c:g8}{d:hT}{i:Nat}{x:V},ρ H c d->(c.map V.ref)[i]?=some x->∃p r,x=.ref p/\c[i]?=some p/\d[i]?=some r/\H p=some (.tup (qa r))
 | _,_,i,x,.nil,e=>by simp at e
 | _,_,0,x,.cons (a:=p) (b:=r) h hs,e=>⟨p,r,by simpa using e.symm,by simp,by simp,h⟩
 | a::l1,_,i+1,x,.cons h hs,e=>by
   have g:(List.map V.ref l1)[i]?=some x:=by simpa using e
   obtain⟨p,r,l,f,j,k⟩:=ρ.get hs g;exact⟨p,r,l,by simpa using f,by simpa using j,k⟩
theorem δ.tup{K:gh}{H b:Hp}{a:Addr}{xs:List V}(e:δ H b)(h:Ι K H a xs):Ι K b a xs:=by
 rcases h with(h|⟨o,h⟩)|h
 .exact .inl (.inl (e _ _ h))
 .exact .inl (.inr ⟨o,e _ _ h⟩)
 .exact .inr h
theorem δ.XR{K:gh}{H b:Hp}{c:Bool}{a:Addr}{d:List V}(e:δ H b)(h:ϣ K c H a d):ϣ K c b a d:=by
 cases c
 .exact δ.tup e h
 .exact δ.seq e h
theorem δ.new{H:Hp}{p:Addr}(o:HO)(h:H p=none):δ H (upd H p o):=λb u e=>by rw[aP (b9 e h)];exact e
end L2
namespace L2
open PySem PySem.Spec PyProof.Rows
abbrev Z9:List Value:=[.type "ValueError",.type "Exception",.type "BaseException",.type "object"]
structure aac(K:gh)(C:Addr):Prop where
 ty:PySem.W.typeIn K (.ref C)=some (.type "type")
 ga:PySem.W.findIn K (.ref C) "__getattribute__"=some (some (.builtin "BaseException.__getattribute__"))
 gt:PySem.W.findIn K (.ref C) "__getattr__"=some none
 cl:PySem.W.findIn K (.ref C) "__class__"=some (some (.builtin "object.__class__"))
 gs:PySem.W.specialIn K (.builtin "object.__class__") "__get__"=some (some (.builtin "getset_descriptor.__get__"))
 tk:PySem.W.takesIn K (.builtin "object.__class__")=some true
 mo:PySem.W.mroIn K C (.type "object")=some true
 mb:PySem.W.mroIn K C (.type "BaseException")=some true
 hd:PySem.W.hasDictIn K C=true
 sf:PySem.W.mroIn K C (.ref C)=some true
def qw(h:Heap)(e:Addr)(cls:Value)(d:Option Addr)(a:Value):Prop:=∃b c,h.get? e=some b/\b.cls=cls/\b.dict=d/\b.data=.fields c/\c[1]?=some a/\c[2]?=some .none
def TbO(h:Heap)(T:Addr)(c:Value):Prop:=∃b a,h.get? T=some b/\b.data=.fields a/\a[3]?=some c
structure Err(h:Heap)(ea T:Addr)(cls:Value)(od:Option Addr)(fl:Value):Prop where
 e:qw h ea cls od (.ref T)
 t:TbO h T fl
 ne:T≠ea
structure Kept(fs xs:g8)(h h':Heap):Prop where
 keep:∀b o,h.get? b=some o->b∉fs->b∉xs->h'.get? b=some o
 slot:∀b o,h.get? b=some o->b∈fs->b∉xs->∃sl,h'.get? b=some { o with slots:=sl }
 there:∀b o,h.get? b=some o->∃o',h'.get? b=some o'
theorem Kept.mono{c g a:g8}{h d:Heap}(k:Kept c g h d)(s:∀b∈g,b∈a):Kept c a h d:=⟨λb o e f x=>k.keep b o e f λz=>x (s b z),λb o e f x=>k.slot b o e f λz=>x (s b z),k.there⟩
theorem Kept.trans{d i:g8}{h k j:Heap}(a:Kept d i h k)(b:Kept d i k j):Kept d i h j where
 keep:=λc o e f x=>b.keep c o (a.keep c o e f x) f x
 slot:=λc o e f x=>by
  obtain⟨s1,g⟩:=a.slot c o e f x;obtain⟨n,m⟩:=b.slot c _ g f x;exact⟨n,m⟩
 there:=λc o e=>by
  obtain⟨l,g⟩:=a.there c o e;exact b.there c l g
theorem Kept.acK{c d:g8}{h a:Heap}(k:∀b o,h.get? b=some o->a.get? b=some o):Kept c d h a:=⟨λb o e _ _=>k b o e,λb o e _ _=>⟨o.slots,k b o e⟩,λb o e=>⟨o,k b o e⟩⟩
theorem AJ{j d:g8}{h:Heap}{a:Addr}{f:Obj}{g:Array Value}{i:Nat}{v:Value}(k:h.get? a=some f)(l:f.data=.fields g)(m:a∈d):Kept j d h (h.update a (Obj.mapFields (·.setIfInBounds i v))):=by
 have c:∀b o,h.get? b=some o->b∉d->(h.update a (Obj.mapFields (·.setIfInBounds i v))).get? b=some o:=λb o e x=>by
  rw[di _ _ (λ(z:a=b)=>x (z▸m))];exact e
 refine⟨λb o e _ x=>c b o e x,λb o e _ x=>⟨o.slots,c b o e x⟩,λb o e=>?_⟩;by_cases z:b=a
 .subst z;exact⟨_,eP _ k (gU (eD l _))⟩
 .rw[di _ _ (Ne.symm z)];exact⟨o,e⟩
theorem Oa{h:Heap}{b:Addr}{a p v:Value}{g:Option Addr}(e:qw h b a g p):qw (h.update b (Obj.mapFields (·.setIfInBounds 1 v))) b a g v:=by
 obtain⟨k,o,n,r,j,f,i,l⟩:=e;have m:1<o.size:=(fV.mp i).1;refine⟨_,_,eP _ n (gU (eD f _)),?_,?_,eD f _,by simp[m],by rw[Array.getElem?_setIfInBounds_ne (by decide)];exact l⟩
 .rw[<-r];exact Obj.cls_mapFields _ _
 .rw[<-j];obtain⟨c,d,q,s⟩:=k;cases q<;>rfl
theorem AV{h:Heap}{c a:Addr}{b d:Value}{g:Option Addr}{f:Obj->Obj}(e:qw h c b g d)(ne:a≠c):qw (h.update a f) c b g d:=by
 obtain⟨j,i,l,k⟩:=e;exact⟨j,i,by rw[di _ _ ne];exact l,k⟩
theorem DP{h d:Heap}{b:Addr}{a c:Value}{f:Option Addr}(e:qw h b a f c)(k:∀o,h.get? b=some o->d.get? b=some o):qw d b a f c:=by
 obtain⟨i,g,l,j⟩:=e;exact⟨i,g,k _ l,j⟩
theorem Mj{h a:Heap}{c:Addr}{b i:Value}{j:Option Addr}{l:List Env}(e:qw h c b j i)(f:h.FunFrames a l):c∉ϝ l:=λz=>by
 obtain⟨p,g,n,_,_,k,_⟩:=e;obtain⟨_,o,d,m⟩:=f.mem z;rw[n]at d;cases d;exact m g k
theorem Oe{h a:Heap}{T:Addr}{c:Value}{l:List Env}(e:TbO h T c)(f:h.FunFrames a l):T∉ϝ l:=λz=>by
 obtain⟨k,d,j,g,_⟩:=e;obtain⟨_,o,b,i⟩:=f.mem z;rw[j]at b;cases b;exact i d g
section
variable{M:Model}{A:Around}{E:f5}{s:Shared}{Q:Unit->Shared->Prop}{fs:g8}{i T L:Addr}{g l k:Value}{j:Option Addr}{base:Heap}{d:Env}{c:List Env}
theorem yp(r:Err s.heap i T g j l)(h:∀b,Err b i T g j .none->Kept fs [T] s.heap b->Q () { s with heap:=b }):wpAny M A (setFlight (.ref i) none) Q E s:=by
 obtain⟨⟨t,p,o,x,v,m,f,u⟩,⟨y,q,e,a,w⟩,ne⟩:=r;have n:3<q.size:=(fV.mp w).1;unfold setFlight;refine ak (cM o m f ?_);rw[aj (by simp:(Value.ref T != Value.none)=true)];refine iC e a n (h _ ⟨AV ⟨t,p,o,x,v,m,f,u⟩ ne,⟨_,_,eP _ e (gU (eD a _)),eD a _,by simp[n]⟩,ne⟩ (AJ e a (by simp)))
theorem G6{m:Value}{u:Bool}(w:A.frames=some (d::c))(D:s.heap.FunFrames base (d::c))(I:d.frame=some L)(r:qw s.heap i g j k)(h:∀v B,Err v i B g j (rawInt L)->Kept (ϝ (d::c)) [i] s.heap v->s.heap.get? B=none->Q () { s with heap:=v }):wpAny M A (do let a <-frameOf d;let p <-entryPlaceOf L u;let b <-EntryCells.newEntry m a .none (rawInt L) .none p;setField (.ref i) 1 b) Q E s:=by
 have J:=Mj r D;refine ak (wpAny_frameOf_fun w D I λn q=>ak (wpAny_entryPlaceOf λp K=>?_));unfold EntryCells.newEntry newFields;refine ak (gO ?_ (K.sizeOk5 _ _ _ _ _));have y:qw n i g j k:=DP r λo e=>(q.2.1 i J).trans e;generalize F:({ cls:=.type "traceback",dict:=none,data:=.fields ([m,.ref L,.none,rawInt L,.none]++(if p.isEmpty then List.replicate 6 Value.none else p)).toArray }:Obj)=t;have G:qw (n.push t) i g j k:=DP y λo e=>aA _ e;obtain⟨R,U,x,S,P,C,N,V⟩:=id G;have lt:i<n.objs.size:=by
  obtain⟨_,_,e,_⟩:=y;exact aI e
 have H:(n.push t).get? n.objs.size=some t:=bc n (by rw[<-F];rfl);refine iC x C (fV.mp N).1 (h _ n.objs.size ⟨Oa G,⟨t,([m,.ref L,.none,rawInt L,.none]++(if p.isEmpty then List.replicate 6 Value.none else p)).toArray,?_,by rw[<-F],by simp⟩,eO lt⟩ ?_ ?_)
 .rw[di _ _ (aX lt)];exact H
 .have k1:Kept (ϝ (d::c)) [i] s.heap n:=⟨λb o e f _=>(q.2.1 b f).trans e,λb o e _ _=>q.2.2 b o e,λb o e=>by
   obtain⟨O,z⟩:=q.2.2 b o e;exact⟨_,z⟩⟩
  exact k1.trans ((Kept.acK λb o e=>aA _ e).trans (AJ x C (by simp)))
 .exact Heap.get?_none_of_le (by rw[q.1];exact ax _)
theorem Oi(a:A.frames=some (d::c))(n:s.heap.FunFrames base (d::c))(f:d.frame=some L)(r:qw s.heap i g j .none)(h:∀b e,Err b i e g j (rawInt L)->Kept (ϝ (d::c)) [i] s.heap b->s.heap.get? e=none->Q () { s with heap:=b }):wpAny M A (noteFrame (.ref i) d) Q E s:=by
 obtain⟨t,q,m,v,w,o,p,u⟩:=id r;unfold noteFrame;simp only[f];refine ak (cM m o p ?_);rw[ah (by decide)];exact G6 a n f r h
theorem Jk(u:A.frames=some (d::c))(y:s.heap.FunFrames base (d::c))(x:d.frame=some L)(r:Err s.heap i T g j .none)(h:∀f a,Err f i a g j (rawInt L)->Kept (ϝ (d::c)) [i,T] s.heap f->s.heap.get? a=none->Q () { s with heap:=f }):wpAny M A (noteFrame (.ref i) d) Q E s:=by
 have J:=Oe r.t y;obtain⟨⟨N,P,C,O,K,F,I,R⟩,⟨S,D,p,m,v⟩,ne⟩:=id r;unfold noteFrame;simp only[x];refine ak (cM C F I ?_);rw[aj (by simp:(Value.ref T != Value.none)=true)];refine ak (cM p m v ?_);rw[ah (by simp[rawInt])];have w:Kept (ϝ (d::c)) [i,T] s.heap (s.heap.update T (Obj.mapFields (·.setIfInBounds 3 Value.none))):=AJ p m (by simp);refine ak (iC p m (fV.mp v).1 ?_);refine G6 u (y.of_keeps λb o e H=>⟨o,?_,rfl⟩) x (AV r.e ne) λf a G B n=>h f a G (w.trans (B.mono (by simp))) ?_
 .by_cases z:b=T
  .subst z;rw[p]at e;cases e;exact absurd m (H D)
  .rw[di _ _ (Ne.symm z)];exact e
 .cases q:s.heap.get? a with
  | none=>rfl
  | some o=>
    obtain⟨U,z⟩:=w.there a o q;rw[z]at n;cases n
theorem Nq(p:A.frames=some (d::c))(z:s.heap.FunFrames base (d::c))(w:d.frame=some L)(r:qw s.heap i g j .none)(h:∀n t,Err n i t g j .none->Kept (ϝ (d::c)) [i] s.heap n->s.heap.get? t=none->Q () { s with heap:=n }):wpAny M A (leaving d (.ref i)) Q E s:=by
 unfold leaving;refine ak (Oi p z w r λy C u m q=>yp (fs:=ϝ (d::c)) (s:={ s with heap:=y }) u λD F a=>h D C F ⟨λb o e f x=>a.keep b o (m.keep b o e f x) f ?_,λb o e f x=>?_,λb o e=>?_⟩ q)
 .simp only[aE];rintro rfl;rw[q]at e;cases e
 .obtain⟨s1,e1⟩:=m.slot b o e f x;obtain⟨B,v⟩:=a.slot b _ e1 f (by
   simp only[aE];rintro rfl;rw[q]at e;cases e)
  exact⟨B,v⟩
 .obtain⟨o1,e1⟩:=m.there b o e;exact a.there b o1 e1
theorem QK(p:A.frames=some (d::c))(z:s.heap.FunFrames base (d::c))(w:d.frame=some L)(r:Err s.heap i T g j .none)(h:∀n t,Err n i t g j .none->Kept (ϝ (d::c)) [i,T] s.heap n->s.heap.get? t=none->Q () { s with heap:=n }):wpAny M A (leaving d (.ref i)) Q E s:=by
 unfold leaving;refine ak (Jk p z w r λy C u m q=>yp (fs:=ϝ (d::c)) (s:={ s with heap:=y }) u λD F a=>h D C F ⟨λb o e f x=>a.keep b o (m.keep b o e f x) f ?_,λb o e f x=>?_,λb o e=>?_⟩ q)
 .simp only[aE];rintro rfl;rw[q]at e;cases e
 .obtain⟨s1,e1⟩:=m.slot b o e f x;obtain⟨B,v⟩:=a.slot b _ e1 f (by
   simp only[aE];rintro rfl;rw[q]at e;cases e)
  exact⟨B,v⟩
 .obtain⟨o1,e1⟩:=m.there b o e;exact a.there b o1 e1
end
def Β(P:Program)(w:World):W7:=λa H s E e c=>∃(f T:Addr)(b:Value)(g:Option Addr)(d:Hp),e=.ref f/\c.os=s.os/\AllBare c.gens/\Un (ϝ a) [] H d s.heap c.heap/\ϧ P w d c.heap/\d f=none/\d T=none/\s.heap.get? f=none/\s.heap.get? T=none/\Err c.heap f T b g .none/\E b g d
theorem bM{P:Program}{w:World}:b6 (Β P w):=λa H s e b h=>by
 obtain⟨_,_,_,_,_,_,_,_,_,_,_,_,_,_,_,z⟩:=h;exact z
theorem AA{P:Program}{w:World}{H:Hp}{h d:Heap}{c g:g8}(x:ϧ P w H h)(k:Kept c g h d)(f:∀b∈c,H b=none)(u:∀b∈g,H b=none):ϧ P w H d:=λa o e=>by
 refine(x a o e).gT (λb i hb q=>k.keep b i q ?_ ?_) (λ_ q=>q) λ_ _ q=>q
 .intro z;rcases hb with rfl|hb
  .rw[f _ z]at e;cases e
  .rw[f _ z]at hb;cases hb
 .intro z;rcases hb with rfl|hb
  .rw[u _ z]at e;cases e
  .rw[u _ z]at hb;cases hb
theorem FM{P:Program}{w:World}{H:Hp}{h:Heap}{b:Addr}(x:ϧ P w H h)(n:h.get? b=none):H b=none:=by
 cases q:H b with
 | none=>rfl
 | some o=>
   have lt:=x.lt q;cases z:h.get? b with
   | some o'=>rw[z]at n;cases n
   | none=>
     exfalso
     have:=(x b o q);cases o with
     | lst xs=>obtain⟨_,_,_,_,e⟩:=this;rw[n]at e;cases e
     | tup xs=>obtain⟨_,_,_,a,e,_⟩:=this;rw[n]at e;cases e
     | dK η=>obtain⟨_,_,_,_,a,_,_,e,_⟩:=this;rw[n]at e;cases e
     | dT η=>obtain⟨_,_,_,_,a,_,_,e,_⟩:=this;rw[n]at e;cases e
     | set S m=>obtain⟨a,_,_,_,e,_⟩:=this;rw[n]at e;cases e
     | ins C dx fs=>obtain⟨_,_,_,e,_⟩:=this;rw[n]at e;cases e
     | own y=>obtain⟨_,e⟩:=this;rw[n]at e;cases e
     | xd fs=>obtain⟨_,⟨_,_,_,e,_⟩,_⟩:=this;rw[n]at e;cases e
     | Λ lo hi=>obtain⟨_,_,_,e⟩:=this;rw[n]at e;cases e
     | YX a u=>obtain⟨e,_⟩:=this;rw[n]at e;cases e
     | tbl ps=>have e:h.get? b=some _:=this;rw[n]at e;cases e
     | met f y=>have e:h.get? b=some _:=this;rw[n]at e;cases e
     | ext φ=>obtain⟨_,⟨_,e⟩,_⟩:=this;rw[n]at e;cases e
section
variable{P:Program}{w:World}{K:gh}{i:hH}{base:Heap}{N:hL}{d:Str}{c:Scope}{f:Addr}{g:Value}{A:Around}{a:List Env}{s:Shared}{H:Hp}{E:XK}
theorem FY{x:W7}{j:gn}{v:St}{t:Hp}{r:Shared}{u:Heap}{q:g8}(J:Inv (sA x P w K i base N d c f g A a s H E) j v t r)(k:Kept (ϝ (envOfC d c s.heap.objs.size f g::a)) q r.heap u)(B:∀b∈q,s.heap.get? b=none):Un (ϝ a) [] H t s.heap u:=by
 have h:Un (ϝ a) [] H t s.heap r.heap:=J.base;have nl:∀b o,s.heap.get? b=some o->b∉q:=λb o e z=>by rw[B b z]at e;cases e
 have y:∀b o,s.heap.get? b=some o->b∉ϝ a->b∉ϝ (envOfC d c s.heap.objs.size f g::a):=λb o e z m=>by
  unfold ϝ at m z;rw[iG]at m;have:(envOfC d c s.heap.objs.size f g).frame=some s.heap.objs.size:=rfl;rw[this]at m;rcases aq.mp m with m|m
  .exact absurd (aI e) (by rw[m];exact c7 _)
  .exact z m
 refine⟨λb o e n p l=>k.keep b o (h.keep b o e n p l) (y b o e p) (nl b o e),λb o e n p l=>?_,h.free,λb o e l=>?_,h.iD,h.ϸ,h.iF⟩
 .obtain⟨sl,e1⟩:=h.slot b o e n p l;by_cases m:b∈ϝ (envOfC d c s.heap.objs.size f g::a)
  .obtain⟨s2,e2⟩:=k.slot b _ e1 m (nl b o e);exact⟨s2,e2⟩
  .exact⟨sl,k.keep b _ e1 m (nl b o e)⟩
 .obtain⟨o1,e1⟩:=h.there b o e l;exact k.there b o1 e1
theorem qM{p:W7}{h:gn}{l:St}{k:Hp}{j:Shared}(J:Inv (sA p P w K i base N d c f g A a s H E) h l k j){b:Addr}(n:j.heap.get? b=none):s.heap.get? b=none:=by
 cases q:s.heap.get? b with
 | none=>rfl
 | some o=>
   have m:Un (ϝ a) [] H k s.heap j.heap:=J.base;obtain⟨r,e⟩:=m.there b o q (by simp);rw[n]at e;cases e
theorem dW:rL (Β P w) (sA (Β P w) P w K i base N d c f g A a s H E) E:=by
 intro p L G F e M I h;obtain⟨y,T,j,B,r,rfl,os,bare,z,m,t,D,o,u,C,q⟩:=h;have J:=I.ZZ (ch:=[]) os z m bare (by simp);refine QK (base:=base) J.ok.frames J.stack rfl C λO x l k n=>?_;have v:∀b∈ϝ (envOfC d c s.heap.objs.size f g::a),r b=none:=J.iN;refine⟨y,x,j,B,r,rfl,J.os,J.bare,FY J k ?_,AA m k v ?_,t,FM m n,qM I o,qM J n,l,q⟩
 .intro b hb;simp only[aq,kX,or_false]at hb;rcases hb with rfl|rfl
  .exact qM I o
  .exact qM I u
 .intro b hb;simp only[aq,kX,or_false]at hb;rcases hb with rfl|rfl
  .exact t
  .exact D
end
def Mu(X:Cx)(E:XK):Prop:=∀(a:gn)(g:St)(H:Hp)(s:Shared)(e:Addr)(c:Value)(f:Option Addr)(d:Heap)(h:Nat),Inv X a g H s->(∀b o,s.heap.get? b=some o->d.get? b=some o)->s.heap.get? e=none->qw d e c f .none->E c f H->X.xe (.ref e) { s with heap:=d,toks:=h }
section
variable{P:Program}{w:World}{K:gh}{h:hH}{a:Heap}{N:hL}{e:Str}{d:Scope}{f:Addr}{g:Value}{A:Around}{c:List Env}{s:Shared}{H:Hp}{E:XK}
theorem qY:Mu (sA (Β P w) P w K h a N e d f g A c s H E) E:=by
 intro o B n z u j v C y I r i x q;have J:=I.kept (t':=y) r;refine Nq (base:=a) J.ok.frames J.stack rfl x λD t l k m=>?_;have p:∀b∈ϝ (envOfC e d s.heap.objs.size f g::c),n b=none:=J.iN;refine⟨u,t,j,v,n,rfl,J.os,J.bare,FY J k ?_,AA J.χ k p ?_,FM I.χ i,FM J.χ m,qM I i,qM J m,l,q⟩
 .intro b hb;rw[aE.mp hb];exact qM I i
 .intro b hb;rw[aE.mp hb];exact FM I.χ i
end
def p9(K:gh)(C:Addr):Prop:=∃(j i:Str)(N:Addr)(m d:hD)(a:Bool)(e:hL)(c:hD)(l:Bool)(b:Option Bool)(n:Option Addr)(k o f g h:Option Value),K.lookup C=some (excClassObj j i C N m d a e c l b n k o f g h "ValueError.__new__")/\PySem.W.nsOkIn K N=true/\PySem.W.nsIn K N "__init__"=some none/\PySem.W.tailIn K Z9 d=true
theorem RL{K:gh}{C:Addr}{o:Obj}(j n:Str)(N:Addr)(p h:hD)(d:Bool)(k:hL)(f:hD)(r:Bool)(g:Option Bool)(u:Option Addr)(t q i m s:Option Value)(l:K.lookup C=some o)(e:o=excClassObj j n C N p h d k f r g u t q i m s "ValueError.__new__")(a:PySem.W.nsOkIn K N=true)(b:PySem.W.nsIn K N "__init__"=some none)(c:PySem.W.tailIn K Z9 h=true):p9 K C:=by
 subst e;exact⟨_,_,_,_,_,_,_,_,_,_,_,_,_,_,_,_,l,a,b,c⟩
def MX(C:Addr)(E:XK)(t:TA):TS:=λ_ a H=>t a H λb c=>b.length<=sizeLine/\E (.ref C) none c
section
variable{X:Cx}{x:Str}{e c d:Pos}{b:Expr}{a:List Expr}{t:TA}{C:Addr}{E:XK}
theorem pP(q:p9 X.K C)(y:X.calm=true)(S:Mu X E)(P:Gl X x)(Q:X.mg x=some (.ref C))(J:PA X (b::a) t)(hdb:(x==("__debug__":Str))=false:=by decide)(k:starEach (b::a) X.env=(false,eval b X.env)::starEach a X.env:=by rfl)(T:(backTo c (starEach a X.env)).any (·.1)=false:=by rfl):PS X (.Raise (some (.Call (.Name x e) (b::a) [] c)) none d) (MX C E t):=by
 intro f s l H D I h;obtain⟨nm,z,N,bs,bm,hdct,sn,sub,ab,col,dd,k0,k1,k2,k3,k5,v,n,R,U⟩:=q;have B:=I.mod.kin;have o:=PySem.W.tail_of_in B U;have O:X.base.Ns N (X.base.nsMap N):=.of_isNs (PySem.W.isNs_of_in B n);have r:(backTo c (starEach (b::a) X.env)).any (·.1)=false:=by
  rw[k];show(false||(backTo c (starEach a X.env)).any (·.1))=false;rw[T]
  rfl
 refine wpAny_Raise_call_subT (C:=C) (nm:=nm) (q:=z) (N:=N) (bs:=bs) (bm:=bm) (hdct:=hdct) (sn:=sn) (sub:=sub) (ab:=ab) (col:=col) (dd:=dd) (k0:=k0) (k1:=k1) (k2:=k2) (k3:=k3) (k5:=k5) PySem.F.excBase_ValueError
  (o.hasType (by decide +kernel)) (I.ok.hd y) r (PySem.W.nsMap_none_of_in B n R) (sY I P Q ⟨rfl,?_⟩ hdb)
 have g:=J c f s l H _ I h;rw[k]at g ⊢;refine Calls.evalArgs_plain (ϋ g λL j ⟨Y,u,i,w,p⟩=>⟨rfl,by show L.length<=_;rw[<-w.length];exact p.1,i.bk _ _ (B _ _ v),O.keeps i.bk,o.keeps i.bk,λM A m=>?_⟩);obtain⟨V,G,_,_⟩:=m.there;exact S f l u j A (.ref C) none M j.toks i m.keeps m.new ⟨_,_,G,rfl,rfl,rfl,rfl,rfl⟩ p.2
end
def XP(CX:W7)(X:Cx)(a:gn)(b:St)(E:XK)(e:Value)(c:Shared):Prop:=∃H s,Inv X a b H s/\CX X.stack H s E e c
def PEx(c:W7)(X:Cx)(e:Expr)(t:XK->TE):Prop:=∀(E:XK)(a:gn)(s:Shared)(b:St)(H:Hp)(Q:VK),Inv X a b H s->t E b H Q->wpAny (model X.prog X.w) X.A (eval e X.env) (EP X a b Q) (XP c X a b E) s
abbrev XS(c:W7)(X:Cx)(a:gn)(f:St->XK)(e:Value)(d:Shared):Prop:=∃b,XP c X a b (f b) e d
def PSx(d:W7)(X:Cx)(st:Stmt)(t:(St->XK)->TS):Prop:=∀(c:St->XK)(a:gn)(s:Shared)(b:St)(H:Hp)(D:Ends),Inv X a b H s->t c D b H->wpAny (model X.prog X.w) X.A (exec st X.env) (SP X a D) (XS d X a c) s
def Ud(d:W7)(X:Cx)(st:List Stmt)(t:(St->XK)->TS):Prop:=∀(c:St->XK)(a:gn)(s:Shared)(b:St)(H:Hp)(D:Ends),Inv X a b H s->t c D b H->wpAny (model X.prog X.w) X.A (execs st X.env) (SP X a D) (XS d X a c) s
section
variable{b:W7}{X:Cx}{k:Nat}{f C:Addr}{m:FuncData}{i:hL}{j:Sp}{g:List V}{d:hD}{x:Str}{p a:Pos}{e:Expr}{c:List Expr}{B:TE}{t:TA}{l:Stmt}{y:List Stmt}{G:TS}{o L:(St->XK)->TS}{n:XK->TE}
theorem Qz(F:Ψ X.prog X.w X.K X.mg X.base b k f m i j)(Y:Ν k X.A)(hg:Gl X x)(hm:X.mg x=some (.ref f))(Z:PySem.W.keepIn X.K (.ref f)=true)(hb:Binds X.K m i d)(hd:Vals g d)(ha:PA X.nox (e::c) t)(O:(x==("__debug__":Str))=false:=by decide)(U:starEach (e::c) X.env=(false,eval e X.env)::starEach c X.env:=by rfl)(ϰ:(backTo a (starEach c X.env)).any (·.1)=false:=by rfl):PEx b X (.Call (.Name x p) (e::c) [] a) (λE=>rF j g E t):=by
 intro E D s V H Q I h;refine gC (sY I hg hm ?_ O);refine kb (h₀:=X.base) I.ok.mod.kin Z (cV (ha a D s V H _ (I.RW _) h) (λM N ⟨S,P,R,r,q⟩=>⟨R.ύ.Rw,?_⟩) λ_ _ z=>False.elim z) U ϰ;have J:=R.ύ;have T:Vals (S++g) (M++d):=r.append hd;have hl:(M++d).length=i.length:=by rw[<-T.length];exact F.len _ _ _ _ q
 refine wpAny_call (jc (F.run X.A X.stack N P ⟨M,[]⟩ (M++d) (S++g) Q E Y J.acs (hb N M J.Rw hl) T q) λr s' v=>?_);cases r with
 | error e=>exact⟨P,N,J,v⟩
 | ok fl=>
   cases fl with
   | ret u=>exact J.after v
   | next=>exact False.elim v
   | brk=>exact False.elim v
   | cont=>exact False.elim v
theorem Oz(A:PEx b X e n)(F:swapsWith e none a.line X.env=pure false:=by rfl):PSx b X (.Expr e a) (λw D q H=>n (w q) q H λ_ u=>D.nx q u):=by
 intro w r s q H D I h;exact wpAny_Expr_any (cV (A (w q) r s q H _ I h) (λv K ⟨x,u,E,M,J⟩=>⟨q,u,E,J⟩) λe N z=>⟨q,z⟩) I.quiet F
theorem Ps(z:PSx b X l o):Ud b X [l] o:=by
 intro w r s u H D I h;refine kW (ϋ (z w r s u H D I h) λf A q=>?_);cases f with
 | next=>exact fY q
 | ret v=>exact q
 | brk=>exact q
 | cont=>exact q
end
abbrev Cx.held(X:Cx)(e:Value):Cx:={ X with A:=X.A.mark (some e),calm:=false }
theorem Cx.Ok.held{X:Cx}(a:X.Ok)(e:Value):(X.held e).Ok:=⟨a.mod,a.kind,a.glob,a.blt,a.above,a.inj,a.has,a.cab,(λz=>nomatch z),a.frames,a.stk,a.exf,a.bs,a.ZY,a.Yp,a.X2,a.Ϲ,a.frf⟩
theorem Cx.Ok.Y4{X:Cx}{e:Value}(a:(X.held e).Ok)(b:X.calm=true->X.A.handled=none):X.Ok:=⟨a.mod,a.kind,a.glob,a.blt,a.above,a.inj,a.has,a.cab,b,a.frames,a.stk,a.exf,a.bs,a.ZY,a.Yp,a.X2,a.Ϲ,a.frf⟩
section
variable{X:Cx}{a:gn}{g:St}{H:Hp}{s:Shared}
theorem Inv.held(I:Inv X a g H s)(e:Value):Inv (X.held e) a g H s:=⟨I.ok.held e,I.os,I.bare,I.base,I.loc,I.cell,I.free,I.ϊ,I.pin,I.χ,I.len⟩
theorem Inv.Y4{e:Value}(I:Inv (X.held e) a g H s)(b:X.calm=true->X.A.handled=none):Inv X a g H s:=⟨I.ok.Y4 b,I.os,I.bare,I.base,I.loc,I.cell,I.free,I.ϊ,I.pin,I.χ,I.len⟩
theorem Inv.moved{C:g8}{E:Heap}{tk:Nat}(I:Inv X a g H s)(k:Kept (ϝ X.stack) C s.heap E)(y:∀b∈C,H b=none/\X.s₀.heap.get? b=none/\b≠X.env.locals/\(∀x c,X.env.cells.lookup x=some c->c≠b)/\∀p∈X.pn++a,p.1≠b):Inv X a g H { s with heap:=E,toks:=tk }:=by
 have w:∀b o,X.s₀.heap.get? b=some o->b∉C:=λb o e z=>by rw[(y b z).2.1]at e;cases e
 have K:∀b o,X.s₀.heap.get? b=some o->b≠X.env.locals:=λb o e z=>absurd (aY (aI e) I.ok.above) (by rw[z];exact c7 _);have A:∀b,b≠X.env.locals->b∉X.fs->b∉ϝ X.stack:=λb J L z=>(aq.mp (I.X3 b z)).elim J L;have h:∀b o,s.heap.get? b=some o->b∉C->∃B,E.get? b=some { o with slots:=B }:=λb o e z=>by
  by_cases f:b∈ϝ X.stack
  .exact k.slot b o e f z
  .exact⟨o.slots,k.keep b o e f z⟩
 have cells:∀x c v,X.env.cells.lookup x=some c->s.heap.IsCell c v->E.IsCell c v:=λx c v e ⟨o,F,R⟩=>by
  obtain⟨B,q⟩:=h c o F λz=>(y c z).2.2.2.1 x c e rfl;exact⟨_,q,R⟩
 refine⟨I.ok,I.os,I.bare,⟨λb o e n D t=>?_,λb o e n D t=>?_,I.base.free,λb o e t=>?_,I.base.iD,I.base.ϸ,I.base.iF⟩,?_,λx c e=>?_,I.free,I.ϊ,λp M=>?_,AA I.χ k I.iN λb T=>(y b T).1,I.len⟩
 .exact k.keep b o (I.base.keep b o e n D t) (A b (K b o e) D) (w b o e)
 .obtain⟨B,j⟩:=I.base.slot b o e n D t;obtain⟨S,P⟩:=h b _ j (w b o e);exact⟨S,P⟩
 .obtain⟨o1,j⟩:=I.base.there b o e t;exact k.there b o1 j
 .obtain⟨m,⟨o,es,ep,F,r⟩,l⟩:=I.loc;obtain⟨B,j⟩:=h _ o F λz=>(y _ z).2.2.1 rfl;refine⟨m,⟨_,es,ep,j,r⟩,λi x v J L N=>?_⟩;obtain⟨u,O,G⟩:=l i x v J L N;refine⟨u,O,?_⟩;rcases G with G|⟨Q,c,e,z⟩
  .exact .inl G
  .exact .inr ⟨Q,c,e,cells x c _ e z⟩
 .obtain⟨v,z⟩:=I.cell x c e;exact⟨v,cells x c v e z⟩
 .obtain⟨e,n,ne,nf,d⟩:=I.pin p M;exact⟨k.keep p.1 p.2 e (A p.1 ne nf) λz=>(y p.1 z).2.2.2.2 p M rfl,n,ne,nf,d⟩
theorem Inv.young(I:Inv X a g H s){b:Addr}(n:s.heap.get? b=none):X.s₀.heap.get? b=none\/b∈X.ex:=by
 by_cases z:b∈X.ex
 .exact .inr z
 .refine .inl ?_;cases q:X.s₀.heap.get? b with
  | none=>rfl
  | some o=>
    obtain⟨c,e⟩:=I.base.there b o q z;rw[n]at e;cases e
theorem Inv.apart(I:Inv X a g H s){b:Addr}(n:s.heap.get? b=none):b≠X.env.locals/\(∀x c,X.env.cells.lookup x=some c->c≠b)/\∀p∈X.pn++a,p.1≠b:=by
 refine⟨?_,λx c e z=>?_,λp f z=>?_⟩
 .rintro rfl;obtain⟨m,⟨o,i,h,d,r⟩,_⟩:=I.loc;rw[n]at d;cases d
 .obtain⟨v,o,d,hd⟩:=I.cell x c e;rw[z,n]at d;cases d
 .obtain⟨e,_⟩:=I.pin p f;rw[z,n]at e;cases e
end
section
variable{K:gh}{C a:Addr}{x:Addr}{c:Obj}{d:Option Obj}{M:Model}{A:Around}{E:f5}{s:Shared}{b:Bool}{Q:Bool->Shared->Prop}
theorem HU(X:K.In s.heap)(n:∃o,s.heap.get? x=some o/\o.cls=.ref C)(i:aac K a)(m:PySem.W.mroIn K C (.ref a)=some b)(h:Q b s):wpAny M A (excMatches (.ref x) (.ref a)) Q E s:=by
 obtain⟨o,j,l⟩:=n;obtain⟨f,g,z,t,os⟩:=s;have G:PySem.W.Looks M f (typeOf (.ref x)) (.ref C):=l▸(PySem.W.Looks.ld j).andThen .now;have F:=nc (M:=M) X m;have v:=nc (M:=M) X i.mb;have D:=PySem.W.looks_typeIn (M:=M) X i.ty;have H:PySem.W.Looks M f (isSubtype (.type "type") (.type "tuple")) false:=.of_pure tc_notTuple;obtain⟨y,e,_⟩:=PySem.W.any_some i.hd;have p:PySem.W.Looks M f (isType (.ref a)) true:=by
  unfold PySem.W.clsIn at e;split at e
  .rename_i Yq
   intro B r w u k q;unfold isType loadHead;exact ak (wpAny_loadPart (k _ _ (X _ _ Yq)) (bh q))
  .cases e
 unfold excMatches isInstance isExcClass;cases b
 all_goals
  repeat lk
  exact h
end
structure Loose(X:Cx)(pins:gn)(H:Hp)(b:Addr):Prop where
 un:H b=none
 new:X.s₀.heap.get? b=none
 loc:b≠X.env.locals
 cel:∀x c,X.env.cells.lookup x=some c->c≠b
 pin:∀p∈X.pn++pins,p.1≠b
theorem Loose.all{X:Cx}{a:gn}{H:Hp}{b:Addr}(l:Loose X a H b):H b=none/\X.s₀.heap.get? b=none/\b≠X.env.locals/\(∀x c,X.env.cells.lookup x=some c->c≠b)/\∀p∈X.pn++a,p.1≠b:=⟨l.un,l.new,l.loc,l.cel,l.pin⟩
abbrev TH:=Ends->St->Value->Option Addr->Hp->Prop
def PHs(X:Cx)(g:List ExceptHandler)(f:TH):Prop:=∀(a:gn)(s:Shared)(d:St)(H:Hp)(D:Ends)(c T:Addr)(b:Value)(e:Option Addr),Inv X a d H s->Err s.heap c T b e .none->Loose X a H c->Loose X a H T->f D d b e H->wpAny (model X.prog X.w) X.A (handleBy (.ref c) X.env g) (SP X a D) X.xe s
def abk:TH:=λ_ _ _ _ _=>False
section
variable{X:Cx}{x n:Str}{m a:Pos}{i:Nat}{k:Addr}{g:Stmt}{d:List Stmt}{c:List ExceptHandler}{j:TS}{l:TH}
theorem UE:PHs X [] abk:=λ_ _ _ _ _ _ _ _ _ _ _ _ _ h=>h.elim
def OE(q:(St->XK)->TS)(f:TH):TS:=λD h H=>q (λb e p o=>f D b e p o) D h H
theorem Uo{r:List Stmt}{W:ExceptHandler}{V:List ExceptHandler}{S:(St->XK)->TS}{N:TH}(U:X.ex=[])(E:X.stack=X.env::X.outer)(hf:X.env.frame=some X.env.locals)(A:Ud (Β X.prog X.w) X r S)(hh:PHs X (W::V) N):PS X (.Try r (W::V) [] [] a) (OE S N):=by
 intro o s σ H D I h;refine wpAny_Try_except (cV (A _ o s σ H D I h) (λf Q q=>?_) λe B z=>?_)
 .cases f with
  | next=>exact fY q
  | ret v=>exact q
  | brk=>exact q
  | cont=>exact q
 .obtain⟨σ1,H1,Q,I1,ea,T,cls,od,H',rfl,os,bare,un,χ,n1,n2,f1,f2,er,q⟩:=z;have J:=I1.ZZ (ch:=[]) os un χ bare (by simp);have p:∀b,Q.heap.get? b=none->H' b=none->Loose X o H' b:=λb z u=>by
   obtain⟨L,M,K⟩:=I1.apart z;refine⟨u,?_,L,M,K⟩;rcases I1.young z with y|y
   .exact y
   .rw[U]at y;cases y
  have le:=p ea f1 n1;have lt:=p T f2 n2;have R:=J.ok.frames;have st:=J.stack;rw[E]at R st;refine Jk R st hf er λY P F O t=>?_;rw[<-E]at O;have J2:Inv X o σ1 H' { B with heap:=Y }:=J.moved (tk:=B.toks) O λb A=>by
   simp only[aq,kX,or_false]at A;rcases A with rfl|rfl
   .exact le.all
   .exact lt.all
  have C:Loose X o H' P:=by
   obtain⟨L,M,K⟩:=J.apart t;refine⟨FM χ t,?_,L,M,K⟩;rcases J.young t with y|y
   .exact y
   .rw[U]at y;cases y
  refine yp (fs:=ϝ X.stack) (s:={ B with heap:=Y }) F λZ G k3=>?_;have J3:Inv X o σ1 H' { B with heap:=Z }:=J2.moved (tk:=B.toks) k3 λb A=>by rw[aE.mp A];exact C.all
  exact hh o _ σ1 H' D ea P cls od J3 G le C q
end
def ub(a:List (Str×Addr)):List (Str×NameKind)->List (Str×Addr)->List (Str×Addr)
 | [],acc=>acc
 | (n,k)::r,acc=>if k==.free then ub a r ((n,(a.lookup n).getD 0)::acc)else ub a r acc
theorem Ko{b:Scope}{d:Env}(h:∀y∈b.names,y.2=.free->(d.cells.lookup y.1).isSome=true):closureFor b d=pure (ub d.cells b.names []):=by
 have f:∀(l:List (Str×NameKind))(e:List (Str×Addr)),(∀y∈l,y.2=.free->(d.cells.lookup y.1).isSome=true)->(forIn l e λ(y:Str×NameKind)(c:List (Str×Addr))=>(if y.2==NameKind.free then do let a <-cellOf d y.1;pure (ForInStep.yield ((y.1,a)::c))else pure (ForInStep.yield c):Sem (ForInStep (List (Str×Addr)))))=(pure (ub d.cells l e):Sem (List (Str×Addr))):=by
  intro l
  induction l with
  | nil=>intro e _;rfl
  | cons y l ih=>
    obtain⟨n,k⟩:=y;intro e g;have o:=g (n,k) aK;have j:∀y∈l,y.2=.free->(d.cells.lookup y.1).isSome=true:=λy m=>g y (aF _ m);rw[mq];unfold ub;cases q:k==NameKind.free with
    | false=>
      simp only[dL,if_false,pure_bind];exact ih e j
    | true=>
      obtain⟨c,i⟩:=eT.mp (o (by simpa using q));dsimp only at i;simp only[if_true,cellOf,i,pure_bind,Option.getD_some];exact ih _ j
 have:=f b.names [] h;unfold closureFor;simp only[bind_pure];exact this
theorem Ah{b:List (Str×Addr)}{x:Str}{c:Addr}:∀{l:List (Str×NameKind)}{e:List (Str×Addr)},(∀y∈l,y.2=.free->(b.lookup y.1).isSome=true)->(∀x c,e.lookup x=some c->b.lookup x=some c)->(ub b l e).lookup x=some c->b.lookup x=some c
 | [],e,_,h2,h3=>h2 x c h3
 | (n,k)::r,e,h1,h2,h3=>by
   have g:∀y∈r,y.2=.free->(b.lookup y.1).isSome=true:=λy f=>h1 y (aF _ f);unfold ub at h3;cases q:k==NameKind.free with
   | false=>
     rw[q]at h3;exact Ah g h2 (by simpa using h3)
   | true=>
     rw[q]at h3;simp only[if_true]at h3;obtain⟨a,h⟩:=eT.mp (h1 (n,k) aK (by simpa using q));dsimp only at h;rw[h]at h3;refine Ah g (λy d f=>?_) h3;rw[cP]at f;cases z:y==n with
     | true=>
       rw[z]at f;cases f;rw[eq_of_beq z];exact h
     | false=>
       rw[z]at f;exact h2 y d f
theorem Ad{a:List (Str×Addr)}{x:Str}:∀{l:List (Str×NameKind)}{b:List (Str×Addr)},((∃c,b.lookup x=some c)\/(x,NameKind.free)∈l)->∃c,(ub a l b).lookup x=some c
 | [],b,h=>by
   rcases h with h|h
   .exact h
   .cases h
 | (n,k)::r,b,h=>by
   unfold ub;cases q:k==NameKind.free with
   | false=>
     simp only[dL,if_false];refine Ad ?_;rcases h with h|h
     .exact .inl h
     .rcases aq.mp h with z|z
      .cases z;simp at q
      .exact .inr z
   | true=>
     simp only[if_true];refine Ad ?_;by_cases z:x=n
     .subst z;exact .inl ⟨(a.lookup x).getD 0,by rw[cP];simp⟩
     .rcases h with⟨c,h⟩|h
      .refine .inl ⟨c,?_⟩;rw[cP];have:(x==n)=false:=(by simpa using z);rw[this];exact h
      .rcases aq.mp h with y|y
       .cases y;exact absurd rfl z
       .exact .inr y
theorem qT{env:Env}{x:Str}{k:NameKind}:∀{l:List (Str×NameKind)},l.lookup x=some k->(l.map λ(n,k)=>if(k==NameKind.free&&env.scope.kind==.function&&env.kindOf n==some .cell)then(n,NameKind.cell)else(n,k)).lookup x=some (if(k==NameKind.free&&env.scope.kind==.function&&env.kindOf x==some .cell)then NameKind.cell else k)
 | [],h=>by simp at h
 | (n,j)::r,h=>by
   have a:=@qT env x k r;rw[az];rw[cP]at h;cases z:x==n with
   | true=>
     rw[z]at h;cases h;have e:=eq_of_beq z;subst e;by_cases q:(k==NameKind.free&&env.scope.kind==.function&&env.kindOf x==some .cell)=true
     .simp only[q,if_true,cP,z]
     .simp only[q,if_false,cP,z,dL]
   | false=>
     rw[z]at h;dsimp only;by_cases q:(j==NameKind.free&&env.scope.kind==.function&&env.kindOf n==some .cell)=true
     .rw[aj q,cP,z];exact a h
     .rw[ah q,cP,z];exact a h
theorem SC{X:Cx}{d:hL}{scope:Scope}(a:Nat)(b:List Nat)(m:∀y∈scope.names,y.2≠.cell)(B:scope.kind=.function)(F:∀y∈scope.names,y.2=.local->scope.names.lookup y.1=some .local)(C:d.length=a+b.length)(p:∀y∈scope.names,y.2=.free->X.env.scope.names.lookup y.1=some .cell)(v:X.env.scope.kind=.function)(D:∀x,X.env.scope.names.lookup x=some .cell->∃c,X.env.cells.lookup x=some c)(E:∀i,i<b.length->∃x j,d[a+i]?=some x/\b[i]?=some j/\X.N[j]?=some x/\scope.names.lookup x=some .free):ϟ X d a b scope (ub X.env.cells scope.names []):=by
 have s:∀y∈scope.names,y.2=.free->(X.env.cells.lookup y.1).isSome=true:=λy t e=>by
  obtain⟨c,q⟩:=D _ (p y t e);rw[q]
  rfl
 have G:∀x,scope.names.lookup x=some .free->X.env.scope.names.lookup x=some .cell:=λx h=>p (x,.free) (dH h) rfl;refine⟨Ko s,B,m,F,λx c h=>Ah s (λx c z=>by simp at z) h,λx h=>?_,C,λi x h=>?_⟩
 .cases q:scope.names.lookup x with
  | none=>
    exfalso
    have:(relabel scope X.env).names.lookup x=none:=by
     unfold relabel;dsimp only
     revert q
     generalize scope.names=l
     induction l with
     | nil=>intro _;rfl
     | cons y l ih=>
       obtain⟨n,k⟩:=y;intro q;rw[cP]at q;cases z:x==n with
       | true=>rw[z]at q;cases q
       | false=>
         rw[z]at q;rw[az];dsimp only;by_cases w:(k==NameKind.free&&X.env.scope.kind==.function&&X.env.kindOf n==some .cell)=true
         .rw[aj w,cP,z];exact ih q
         .rw[ah w,cP,z];exact ih q
    rw[this]at h;rcases h with h|h<;>cases h
  | some k=>
    have r:(relabel scope X.env).names.lookup x=some _:=qT (env:=X.env) q;cases k with
    | free=>exact Ad (.inr (dH q))
    | cell=>exact absurd rfl (m _ (dH q))
    | _=>
      rw[r]at h;simp at h
 .have hi:i<b.length:=by
   have:=(ar.mp h).1
   lia
  obtain⟨y,j,g,A,u,o⟩:=E i hi;rw[h]at g;cases g;have f:=G x o;refine⟨j,A,u,f,?_⟩;have r:(relabel scope X.env).names.lookup x=some _:=qT (env:=X.env) o;rw[r];have:X.env.kindOf x=some .cell:=f;rw[this,v]
  rfl
theorem JS:∀{a:eu}{b:hD},Vals (a.map V.int) b->IntsAre b a
 | [],_,h=>by cases h;exact .nil
 | n::a,_,h=>by
   cases h with
   | cons r t=>
     obtain⟨k,rfl⟩:=(show ∃t,_=Value.int n t from r);exact .cons n k (JS t)
theorem Jd:∀{a:eu}{b:hD},IntsAre b a->Vals (a.map V.int) b
 | _,_,.nil=>.nil
 | _,_,.cons n t r=>.cons ⟨t,rfl⟩ (Jd r)
section
variable{X:Cx}
theorem zf:mZ X (.builtin "sorted") (λi H Q=>∃(p:Addr)(d:eu),i=[.ref p]/\μ X.K H p (d.map V.int)/\d.length<64/\∀(l:Addr)(c:eu),H l=none->c.Perm d->c.Pairwise (·<=·)->Q (.ref l) (upd H l (.lst (c.map V.int)))):=by
 intro j s E H i G Q I r h;obtain⟨p,d,rfl,t,n,q⟩:=h;obtain⟨u,rfl,B⟩:=wx r;cases B;obtain⟨g,C,y,F⟩:=I.list t;have k:=JS C;have D:=IntsAre.length k;refine sorted_ints y.isList k (by lia) λf c A m w=>?_;obtain⟨e,v⟩:=sortedAll_at s.heap g f;have z:H (s.heap.objs.size+1)=none:=I.χ.fresh (fK _);have x:c.length=d.length:=m.length_eq;refine⟨.ref (s.heap.objs.size+1),_,I.laid (a:=s.heap.objs.size+1) (o:=.lst (c.map V.int)) (t':=s.toks) (λb o e=>sortedAll_old e) (fK _) ⟨?_,f.toList,e,Jd A,?_⟩,rfl,q _ c z m w⟩
 .rw[aa,x];exact cg (by lia)
 .exact v
end
theorem RX{K:gh}{C T:Addr}{g:Value}{i:Option Addr}{e:ClassData}{f:Array (Option Value)}(h:K.lookup C=some ⟨g,i,.cls e,f⟩)(m:e.mro=.ref C::.ref T::Z9)(c:Addr):PySem.W.mroIn K C (.ref c)=some (decide (c=C)||decide (c=T)):=by
 unfold PySem.W.mroIn PySem.W.clsIn;rw[h];simp only[Option.bind_some,m,List.isEmpty_cons,dL,if_false]
 congr 1
 by_cases d:c=C
 .subst d;simp
 .by_cases h2:c=T
  .subst h2;simp
  .have a:(Value.ref c==Value.ref C)=false:=(by simpa using d);have b:(Value.ref c==Value.ref T)=false:=(by simpa using h2);simp[eK,a,b,d,h2]
structure aT(K:gh)(T C:Addr):Prop where
 x:aac K C
 mr:∀C',PySem.W.mroIn K C (.ref C')=some (decide (C'=C)||decide (C'=T))
 mv:PySem.W.mroIn K C (.type "ValueError")=some true
theorem Cu{K:gh}{C:Addr}{d:Value}{e:Option Addr}{a:ClassData}{b:Array (Option Value)}{r:hD}(h:K.lookup C=some ⟨d,e,.cls a,b⟩)(m:a.mro=.ref C::r){v:Value}(c:(Value.ref C::r).contains v=true):PySem.W.mroIn K C v=some true:=by
 unfold PySem.W.mroIn PySem.W.clsIn;rw[h];simp only[Option.bind_some,m,List.isEmpty_cons,dL,if_false,c]
section
variable{K:gh}{T C:Addr}{f:Value}{g:Option Addr}{d:ClassData}{e:Array (Option Value)}
theorem Jn{r:hD}(o:PySem.W.typeIn K (.ref C)=some (.type "type"))(n:PySem.W.findIn K (.ref C) "__getattribute__"=some (some (.builtin "BaseException.__getattribute__")))(k:PySem.W.findIn K (.ref C) "__getattr__"=some none)(l:PySem.W.findIn K (.ref C) "__class__"=some (some (.builtin "object.__class__")))(i:PySem.W.specialIn K (.builtin "object.__class__") "__get__"=some (some (.builtin "getset_descriptor.__get__")))(j:PySem.W.takesIn K (.builtin "object.__class__")=some true)(c:PySem.W.hasDictIn K C=true)(h:K.lookup C=some ⟨f,g,.cls d,e⟩)(m:d.mro=.ref C::r)(a:r.contains (.type "object")=true)(b:r.contains (.type "BaseException")=true):aac K C:=⟨o,n,k,l,i,j,Cu h m (by rw[eK,a,lH]),Cu h m (by rw[eK,b,lH]),c,Cu h m (by simp)⟩
structure acL(K:gh)(T:Addr):Prop where
 x:aac K T
theorem Sj(l:PySem.W.typeIn K (.ref C)=some (.type "type"))(k:PySem.W.findIn K (.ref C) "__getattribute__"=some (some (.builtin "BaseException.__getattribute__")))(i:PySem.W.findIn K (.ref C) "__getattr__"=some none)(j:PySem.W.findIn K (.ref C) "__class__"=some (some (.builtin "object.__class__")))(b:PySem.W.specialIn K (.builtin "object.__class__") "__get__"=some (some (.builtin "getset_descriptor.__get__")))(c:PySem.W.takesIn K (.builtin "object.__class__")=some true)(a:PySem.W.hasDictIn K C=true)(h:K.lookup C=some ⟨f,g,.cls d,e⟩)(m:d.mro=.ref C::Z9):acL K C:=⟨Jn l k i j b c a h m (by decide +kernel) (by decide +kernel)⟩
theorem RZ(p:PySem.W.typeIn K (.ref C)=some (.type "type"))(o:PySem.W.findIn K (.ref C) "__getattribute__"=some (some (.builtin "BaseException.__getattribute__")))(l:PySem.W.findIn K (.ref C) "__getattr__"=some none)(n:PySem.W.findIn K (.ref C) "__class__"=some (some (.builtin "object.__class__")))(j:PySem.W.specialIn K (.builtin "object.__class__") "__get__"=some (some (.builtin "getset_descriptor.__get__")))(k:PySem.W.takesIn K (.builtin "object.__class__")=some true)(i:PySem.W.hasDictIn K C=true)(h:K.lookup C=some ⟨f,g,.cls d,e⟩)(m:d.mro=.ref C::.ref T::Z9):aT K T C:=by
 have a:(Value.ref T::Z9).contains (.type "object")=true:=by rw[eK];simp[Z9]
 have b:(Value.ref T::Z9).contains (.type "BaseException")=true:=by rw[eK];simp[Z9]
 have c:(Value.ref T::Z9).contains (.type "ValueError")=true:=by rw[eK];simp[Z9]
 exact⟨Jn p o l n j k i h m a b,RX h m,Cu h m (by rw[eK,c,lH])⟩
end
section
variable{P:Program}{w:World}{K:gh}{b:hH}{a:Heap}
theorem Y2.XU{x d:Str}{st:Stmt}{f:Addr}{m:FuncData}{N i:hL}{k:Nat}{h:Sp}(F:Y2 K x d st f m)(S:ζ N i (aG st))(l:∀e H Q E,h e H Q E->e.length=i.length)(n:∀(g:Value) (A:Around) (c:List Env) (s:Shared) (H:Hp) (e:List V) (Q:VK) (E:XK),Ν k (A.deeper (envOfC d (aG st) s.heap.objs.size f g))->h e H Q E->∃t,YS (sA (Β P w) P w K b a N d (aG st) f g A c s H E) (hJ st) t/\t { nx:=λ_ u=>Q .π u,rt:=Q } (start N e) H):Ψ P w K b a (Β P w) (k+1) f m i h:=by
 obtain⟨B,C,kV,r,D,z,g,y,v,rfl,q,p⟩:=F.ex;exact Rz q p S l λA c s H e Q E o j=>n g A c s H e Q E o j
end
theorem D5{C:Addr}{E:XK}{t:TA}{D:Ends}{a:St}{H:Hp}:MX C E t D a H=t a H λb c=>b.length<=sizeLine/\E (.ref C) none c:=rfl
theorem JA{e:(St->XK)->TS}{c:TH}{D:Ends}{d:St}{H:Hp}:OE e c D d H=e (λa b g f=>c D a b g f) D d H:=rfl
theorem WG{H:Hp}{l b:Addr}{c a:List V}{Q:VK}(f:H l=some (.lst c))(e:H b=some (.lst a))(d:c.length+a.length<=sizeLine)(q:∀p,H p=none->Q (.ref p) (upd H p (.lst (c++a)))):aer (.ref l) (.ref b) H Q:=⟨l,b,c,a,rfl,rfl,f,e,d,q⟩
theorem δ.put{H a:Hp}{l:Addr}(e:δ H a)(n:H l=none)(o:HO):δ H (upd a l o):=λb u h=>by rw[aP (b9 h n)];exact e b u h
theorem Az(i:Int):∀a:List Int,inV (.int i) (a.map V.int)=decide (i∈a)
 | []=>by simp[inV]
 | n::a=>by
   have b:=Az i a;unfold inV at b ⊢;rw[az,g9,b];have e:eqV (.int n) (.int i)=decide (n=i):=by first|rfl|simp[eqV]
   rw[e];by_cases h:i=n
   .subst h;simp
   .simp[h,Ne.symm h]
theorem DY:∀a:List Int,(a.map V.int).all sR=true
 | []=>rfl
 | n::a=>by rw[az,nJ,DY a];rfl
theorem Oq{M:Model}{A:Around}{E:f5}{s:Shared}{a:Env}{x:Str}{b:Pos}{v:Value}{Q:Unit->Shared->Prop}(h:wpAny M A (storeName a x v) Q E s):wpAny M A (assign (.Name x b) a v) Q E s:=by
 show wpAny M A (do standAt b;bindName a x v) Q E s;exact ak (kj (wpAny_bindName h))
section
variable{X:Cx}{Nc:hL}{f:Nat}{j:List Nat}{scope:Scope}{a:List (Str×Addr)}
theorem wH{i:Nat}{x:Str}{px a2:Pos}{Q k E:Expr}{U:List Expr}{ϙ:Pos}{wi:TI}{g:TG}{tc:TT}{te:TE}(hN:X.N.Nodup)(bv:X.N[i]?=some x)(a3:X.env.scope.names.lookup x=some .local)(hc:X.calm=true)(T:ϟ X Nc f j scope a)(hi:PI X k E wi)(hg:∀C G F m,PG (X.comp Nc scope a C G F m) k g)(ht:∀C G F m,PTs (X.comp Nc scope a C G F m) U tc)(he:∀C G F m,PE (X.comp Nc scope a C G F m) Q te)(hs:∀x,foldedSetIterable E X.env x=pure x:=by intro _;rfl)(bt:swapsWith (.ListComp Q [⟨k,E,U,0⟩] scope ϙ) (some (.Name x px)) a2.line X.env=pure true:=by rfl):PS X (.Assign [.Name x px] (.ListComp Q [⟨k,E,U,0⟩] scope ϙ) a2) (CL (KB f j wi g tc te) (ww i)):=by
 intro M s σ H D I h;rw[exec_Assign_Name_used _ _ _ _ bt];refine ak (kj (ak ?_));rw[arm_evalThenUse_ListComp];refine ak ?_;refine wpAny_comprehension_free (use:=some (assign (.Name x px) X.env)) rfl hs T.acD T.kind T.names (ϋ (hi M s σ H _ I h) λv s1 h1=>ϋ h1 λeC l h2=>?_);obtain⟨it,m,tn,J,H1,rfl,I1,Tn,st,f1,R⟩:=h2;have Y:∀b∈m,b<l.heap.objs.size:=λb z=>let ⟨o,e,_⟩:=Tn.obj _ _ st b z;aI e;refine gO (wpAny_newFunctionEnv T.Y3 (by intro y hy;simp at hy) (λK ϻ Ϡ=>?_) T.kind);dsimp only at ϻ Ϡ ⊢;generalize au:l.heap.push { cls:=.type "list",dict:=none,data:=.seq ([]:hD).toArray }=B at ϻ Ϡ ⊢;have hC:B.objs.size=l.heap.objs.size+1:=by rw[<-au,dF]
 have aT:l.heap.objs.size≠B.objs.size:=by rw[hC];exact aX (fP _)
 have Xn:l.heap.objs.size<=B.objs.size:=by rw[hC];exact fK _
 have cY:∀b,b<l.heap.objs.size->b≠B.objs.size:=λb z=>by rw[hC];exact aX (gN z)
 have a4:∀b o,l.heap.get? b=some o->K.get? b=some o:=λb o e=>Ϡ.extBut b o (cY b (aI e)) (aA _ (au▸aA _ e));have As:∃n,K.get? l.heap.objs.size=some { cls:=.type "list",data:=.seq ([]:hD).toArray n }:=⟨_,Ϡ.extBut _ _ aT (aA _ (au▸bc _ rfl))⟩;have Yv:tn 0 K:=Tn.keep _ _ _ st λb _ o e=>a4 b o e;obtain⟨W,⟨m0,w0⟩,a5⟩:=R l.heap.objs.size I1.fresh;have Ic:=FD (t:=l.toks+([]:List (Str×Value)).length) T I1 Xn (ax _) aT f1 Y a4 ϻ As;generalize V:X.comp Nc scope a B.objs.size l H1 m=Xc at Ic;have P:∀{Z:Hp},(∀b∈m,Z b=none)->∀b∈m,pO Xc [] Z b:=λ{Z} hn b z=>by
  subst V;exact⟨hn b z,cY b (Y b z),(CO T I1 Xn f1 Y).X2 b z,.inl z,λx c e=>(f1 b z).2.2.2.2.1 x c (T.cells x c e),λp hp=>by cases hp⟩
 have cf:∀b∈m,upd H1 l.heap.objs.size (.lst []) b=none:=λb z=>by
  rw[aP (aX (Y b z))];exact(f1 b z).1
 have dr:Xc.calm=true:=by subst V;exact hc
 have ae:∀O:Shared,O={ l with heap:=K,toks:=l.toks+([]:List (Str×Value)).length }->codeAny (model X.prog X.w) X.A (.compLoop (.ListComp Q [⟨k,E,U,0⟩] scope ϙ) 0 (.ref it) (.ref l.heap.objs.size) (compEnvC scope a B.objs.size X.env))
  (compPost (model X.prog X.w) X.A X.xe (some (assign (.Name x px) X.env)) (λ_ s'=>wpAny (model X.prog X.w) X.A (pure ()) (λ_ cx=>wpAny (model X.prog X.w) X.A (pure Flow.next) (SP X M D) X.xe cx) X.xe s') (.ref l.heap.objs.size) B.objs.size) O:=by
  rintro O rfl;refine zq (λn s'=>∃i ys a8 Z,Inv Xc [] a8 Z s'/\tn i s'.heap/\(∀b∈m,Z b=none)/\W i n ys a8 Z) ?_ m0 ⟨0,[],_,_,Ic,Yv,cf,w0⟩;rintro n s3 ⟨i,ys,S,H3,I3,a6,a1,w3⟩;rcases a5 i n ys S H3 w3 with⟨stop,q⟩|⟨go,step⟩
  .subst V;refine ϋ (Tn.done (X.comp Nc scope a B.objs.size l H1 m) rfl rfl rfl hc i [] s3 S H3 _ I3 (P a1) a6 stop) λr s4 ⟨hr,I4⟩=>?_;subst hr;obtain⟨m4,b2,_⟩:=id I4.loc;have J:=Eb I1 Xn f1 I4 (h':=s4.heap) (Heap.SameBut.refl _ _);have a7:B.objs.size≠X.env.locals:=eO (aY I1.lt Xn);have cy:X.s₀.heap.objs.size<=B.objs.size:=aN I1.sz Xn;have cc:∀y c,X.env.cells.lookup y=some c->c≠B.objs.size:=λy c e=>by
    obtain⟨v',o',Yq,_⟩:=I1.cell y c e;exact aX (aY (aI Yq) Xn)
   have cp:∀p∈X.pn++M,p.1≠B.objs.size:=λp hp=>by
    obtain⟨Yq,_⟩:=I1.pin p hp;exact aX (aY (aI Yq) Xn)
   refine Oq (Ep (v:=.ref l.heap.objs.size) J hN bv (.inl a3) rfl (λs5 I5 ⟨ad,sb,had⟩=>?_) (.inr a3));have ci:B.objs.size≠ad:=by
    rcases had with rfl|had
    .exact a7
    .exact(cc _ _ had).symm
   obtain⟨oo,es,ep,e1,e2⟩:=b2;refine⟨m4,⟨oo,es,ep,(sb.2 _ ci).trans e1,e2⟩,λh' ca=>bh (bh ⟨_,H3,?_,q⟩)⟩;exact I5.turned (it:=B.objs.size) (t':=s5.toks) (λb o n e=>ca.extBut b o n e) I4.free a7 (.inr cy) cc cp
  .subst V;refine ϋ (Tn.item (X.comp Nc scope a B.objs.size l H1 m) rfl rfl rfl hc i [] s3 S H3 _ I3 (P a1) a6 go) λr s4 ⟨u,hr,h4⟩=>?_;subst hr;refine ϋ h4 λ_ s5 ⟨x,H5,I5,r5,y5,Z3,cu⟩=>?_;have cz:=I5.pinned (P cu) (Tn.obj _ _ Z3);have ac:∀{am:St}{H7:Hp}{s7:Shared},Inv (X.comp Nc scope a B.objs.size l H1 m) ([]++vO m s5.heap) am H7 s7->Inv (X.comp Nc scope a B.objs.size l H1 m) [] am H7 s7/\tn (i+1) s7.heap/\∀b∈m,H7 b=none:=λ{am H7 s7} I7=>by
    refine⟨I7.Ϩ,Tn.keep _ _ _ Z3 λb z o e=>(I7.pin (b,o) (aR _ (aR _ (oZ z e)))).1,λb z=>?_⟩;obtain⟨o,e,d⟩:=Tn.obj _ _ Z3 b z;exact(I7.pin (b,o) (aR _ (aR _ (oZ z e)))).2.1
   refine ϋ (hg _ _ _ _ _ s5 S H5 x u _ cz r5 (step x H5 y5)) λ_ s6 ⟨L,H6,I6,q6⟩=>?_;refine CV (ht _ _ _ _ _ s6 L H6 _ I6 q6) λok s7 H7 I7 q7=>?_;cases ok with
   | false=>
     rw[ah bj]at q7 ⊢;obtain⟨m',hm,w7⟩:=q7;obtain⟨J1,J2,J3⟩:=ac I7;exact⟨m',hm,i+1,ys,L,H7,J1,J2,J3,w7⟩
   | true=>
     rw[aj rfl]at q7 ⊢;refine dX (he _ _ _ _ _ s7 L H7 _ I7 q7) λy s8 yv H8 I8 r8 ⟨co,bV,m',hm,w8⟩=>?_;refine ϋ (f6 _ s8 L H8 (.ref l.heap.objs.size) [yv] _ [y] (λv' Z=>W (i+1) m' (ys++[yv]) L Z) I8 rfl (.cons r8 .nil) ⟨_,ys,yv,rfl,rfl,co,bV,w8⟩) λv9 s9 ⟨_,H9,I9,_,w9⟩=>?_;obtain⟨J1,J2,J3⟩:=ac I9;exact⟨m',hm,i+1,ys++[yv],L,H9,J1,J2,J3,w9⟩
 exact codeAny_compStart_list (ae _ rfl) (Tn.self _ 0 _ _ _ Yv (ae _ rfl))
end
theorem qK{K:gh}{H:Hp}:∀a:List Int,Ρ K H (a.map V.int) (a.map PyData.int)
 | []=>.nil
 | n::a=>.cons (.int n) (qK a)
theorem Eh{K:gh}{H:Hp}{l:Addr}{a:eu}(h:H l=some (.lst (a.map V.int))):ϱ K H (.ref l) (.list (a.map PyData.int)):=.lst (μ.of h) (qK a)
theorem pK:∀a:List Int,PyData.depthAll (a.map PyData.int)<=1
 | []=>by simp[PyData.depthAll]
 | n::a=>by
   simp only[az,PyData.depthAll];have:=pK a;have:(PyData.int n).depth<=1:=by simp[PyData.depth]
   lia
theorem KJ(a:eu):(PyData.list (a.map PyData.int)).depth<=40:=by
 simp only[PyData.depth];have:=pK a
 lia
end L2
namespace Pb
open L2 PySem
def front(r:Int)(a:fc)(p:Int):V:=if p=r then .π else .int (a p)
def bT(m:Int)(s:hT)(a:V)(p:Int):List Int:=(mG m s p).filter λv=>decide (V.int v≠a)
variable{m:Int}{s:hT}{r:Int}{par:fc}{d:fz}
theorem ε.ne(R:ε m s r par d){v:Int}(a:0<=v)(c:v<m)(b:v≠r):par v≠v:=λz=>by
 have:=(R.up v a c b).2.2;rw[z]at this
 lia
theorem bB(g:Good m s)(R:ε m s r par d){p v:Int}(t:0<=p)(n:p<m):v∈bT m s (front r par p) p↔(0<=v/\v<m)/\v≠r/\par v=p:=by
 unfold bT;rw[bG,Ft g,b4]
 constructor
 .rintro⟨ad,hf⟩;obtain⟨_,k,_⟩:=g.adj ad;refine⟨k,?_⟩;obtain⟨x,i,j⟩:=ad;have f:∀u w:Int,(u≠r/\par u=w)\/(w≠r/\par w=u)->u=p->w=v->v≠r/\par v=p:=λu w h l o=>by
   subst l o;rcases h with h|h
   .exfalso
    apply hf;unfold front;rw[ah h.1,h.2]
   .exact h
  rcases j with⟨a,b⟩|⟨a,b⟩
  .exact f x.a x.b (R.road x i) a b
  .exact f x.b x.a (R.road x i).symm a b
 .rintro⟨k,hr,hp⟩;have u:=R.up v k.1 k.2 hr;rw[hp]at u;refine⟨?_,λz=>?_⟩
  .obtain⟨x,i,j⟩:=u.2.1;exact⟨x,i,j.elim (λq=>.inr ⟨q.2,q.1⟩) (λq=>.inl ⟨q.2,q.1⟩)⟩
  .unfold front at z;by_cases c:p=r
   .rw[aj c]at z;cases z
   .rw[ah c]at z;have e:v=par p:=(by injection z);have w:=(R.up p t n c).2.2;have y:=u.2.2;rw[<-e]at w
    lia
theorem mW{a:V}{p:Int}:(bT m s a p).Nodup:=(AW m s p).filter _
def nl(m:Int)(par:fc)(a:eu):List V:=(cY m.toNat).map λv=>if v∈a then .int (par v)else .π
def qI(m r:Int)(par:fc):List V:=(cY m.toNat).map (front r par)
theorem uA{a:eu}:(nl m par a).length=m.toNat:=by unfold nl;rw[aa,cX]
theorem f9{n i:Nat}(h:i<n):(cY n)[i]?=some (i:Int):=by unfold cY;rw[aH,fT h];rfl
theorem MA{ks:eu}{v:Int}(a:0<=v)(b:v<m):(nl m par ks)[v.toNat]?=some (if v∈ks then .int (par v)else .π):=by
 unfold nl;rw[aH,f9 (by lia)];show some (if((v.toNat:Nat):Int)∈ks then V.int (par ((v.toNat:Nat):Int))else V.π)=_;rw[bn a]
theorem Ug{ks:eu}{v:Int}(b:0<=v)(f:v<m):(nl m par ks).set v.toNat (.int (par v))=nl m par (ks++[v]):=by
 refine eX λi=>?_;rw[List.getElem?_set];by_cases c:i<m.toNat
 .have e:∀l:List Int,(nl m par l)[i]?=some (if(i:Int)∈l then .int (par (i:Int))else .π):=λl=>by
   have:=MA (par:=par) (ks:=l) (v:=(i:Int)) (m:=m) (by lia) (by lia)
   rwa [bu]at this
  rw[e,uA];by_cases z:v.toNat=i
  .have a:v=(i:Int):=(by lia);rw[aj z,aj (by lia),e,aj (by rw[a];simp),<-a]
  .rw[ah z,e];have a:¬((i:Int)=v):=(by lia);simp[a]
 .have e:∀l:List Int,(nl m par l)[i]?=none:=λl=>bN (by rw[uA];lia);rw[e,e,uA];by_cases z:v.toNat=i
  .lia
  .rw[ah z]
structure Φ(m:Int)(s:hT)(r:Int)(par:fc)(ks ws:eu):Prop where
 nd:ks.Nodup
 Λ:∀k∈ks,0<=k/\k<m
 nr:r∉ks
 sub:∀w∈ws,w=r\/w∈ks
 wnd:ws.Nodup
 ok:∀v∈ks,par v∉ws/\(par v=r\/par v∈ks)
 dn:∀v,0<=v->v<m->v≠r->(par v=r\/par v∈ks)->par v∉ws->v∈ks
theorem Φ.start:Φ m s r par [] [r] where
 nd:=mm
 Λ:=λ_ h=>by cases h
 nr:=λh=>by cases h
 sub:=λw h=>.inl (aE.mp h)
 wnd:=by simp
 ok:=λ_ h=>by cases h
 dn:=λv _ _ _ h n=>by
  rcases h with h|h
  .exact absurd (by rw[h];simp) n
  .cases h
theorem Φ.at_(J:Φ m s r par ks ws)(b:0<=r)(a:r<m){p:Int}(c:p∈ws):0<=p/\p<m:=by
 rcases J.sub p c with h|h
 .rw[h];exact⟨b,a⟩
 .exact J.Λ p h
theorem Φ.front(J:Φ m s r par ks ws){p:Int}(a:p∈ws):(if p∈ks then V.int (par p)else V.π)=front r par p:=by
 unfold Pb.front;by_cases c:p=r
 .rw[aj c,ah (by rw[c];exact J.nr)]
 .rw[ah c,aj ((J.sub p a).resolve_left c)]
theorem Φ.step(g:Good m s)(R:ε m s r par d)(F:0<=r)(G:r<m){j q ws':eu}{p:Int}(J:Φ m s r par j q)(e:q.Perm (p::ws')):Φ m s r par (j++bT m s (Pb.front r par p) p) (ws'++bT m s (Pb.front r par p) p):=by
 have t:p∈q:=e.mem_iff.mpr aK;have E:=J.at_ F G t;have f:∀v,v∈bT m s (Pb.front r par p) p↔(0<=v/\v<m)/\v≠r/\par v=p:=λv=>bB g R E.1 E.2;have y:(bT m s (Pb.front r par p) p).Nodup:=mW;generalize bT m s (Pb.front r par p) p=D at f y ⊢;have i:∀v∈D,v∉j:=λv A z=>(J.ok v z).1 (by rw[((f v).mp A).2.2];exact t);obtain⟨K,I⟩:=bf.mp (e.nodup_iff.mp J.wnd);have C:∀w∈ws',w∈q:=λw x=>e.mem_iff.mpr (aF _ x);refine⟨?_,?_,?_,?_,?_,?_,?_⟩
 .rw[dC];exact⟨J.nd,y,λa B b l z=>i b l (z▸B)⟩
 .intro k hk;rcases aV.mp hk with h|h
  .exact J.Λ k h
  .exact((f k).mp h).1
 .intro z;rcases aV.mp z with h|h
  .exact J.nr h
  .exact((f r).mp h).2.1 rfl
 .intro w x;rcases aV.mp x with h|h
  .exact(J.sub w (C w h)).imp id (bq _)
  .exact .inr (aR _ h)
 .rw[dC];refine⟨I,y,λa B b l z=>?_⟩;subst z;rcases J.sub a (C a B)with h|h
  .exact((f a).mp l).2.1 h
  .exact i a l h
 .intro v A;rcases aV.mp A with h|h
  .obtain⟨o1,o2⟩:=J.ok v h;refine⟨λz=>?_,o2.imp id (bq _)⟩;rcases aV.mp z with z|z
   .exact o1 (C _ z)
   .rcases o2 with o|o
    .exact((f _).mp z).2.1 o
    .exact i _ z o
  .obtain⟨q1,q2,q3⟩:=(f v).mp h;rw[q3];refine⟨λz=>?_,(J.sub p t).imp id (bq _)⟩;rcases aV.mp z with z|z
   .exact K z
   .obtain⟨w1,w2,w3⟩:=(f p).mp z;exact R.ne w1.1 w1.2 w2 w3
 .intro v v0 v1 vr h n;have u:par v∉D:=λz=>n (aR _ z);have H:par v=r\/par v∈j:=h.imp id λz=>(aV.mp z).resolve_right u;by_cases c:par v=p
  .exact aR _ ((f v).mpr ⟨⟨v0,v1⟩,vr,c⟩)
  .refine bq _ (J.dn v v0 v1 vr H λz=>?_);rcases aq.mp (e.mem_iff.mp z)with z|z
   .exact c z
   .exact n (bq _ z)
theorem Φ.perm{ks b a:eu}(J:Φ m s r par ks b)(e:b.Perm a):Φ m s r par ks a where
 nd:=J.nd
 Λ:=J.Λ
 nr:=J.nr
 sub:=λw h=>J.sub w (e.mem_iff.mpr h)
 wnd:=e.nodup_iff.mp J.wnd
 ok:=λv h=>⟨λz=>(J.ok v h).1 (e.mem_iff.mpr z),(J.ok v h).2⟩
 dn:=λv f c hr h n=>J.dn v f c hr h λz=>n (e.mem_iff.mp z)
theorem Φ.all(R:ε m s r par d){h:eu}(J:Φ m s r par h []):∀v,0<=v->v<m->v≠r->v∈h:=by
 have g:∀n v,d v=n->0<=v->v<m->v≠r->v∈h:=by
  intro n
  induction n with
  | zero=>
    intro v e a f b;have:=(R.up v a f b).2.2
    lia
  | succ n ih=>
    intro v e a f b;have u:=R.up v a f b;refine J.dn v a f b ?_ (by simp);by_cases c:par v=r
    .exact .inl c
    .exact .inr (ih (par v) (by lia) u.1.1 u.1.2 c)
 exact λv=>g _ v rfl
theorem Φ.done(R:ε m s r par d){b:eu}(J:Φ m s r par b []):nl m par b=qI m r par:=by
 unfold nl qI;refine bX λv a=>?_;have e:0<=v/\v<m:=by
  unfold cY at a;obtain⟨k,f,rfl⟩:=bz.mp a;have:=cA.mp f
  lia
 unfold Pb.front;by_cases c:v=r
 .rw[aj c,ah (by rw[c];exact J.nr)]
 .rw[ah c,aj (J.all R v e.1 e.2 c)]
theorem Ha(n:Nat)(v:V):(List.replicate n [v]).flatten=List.replicate n v:=by
 induction n with
 | zero=>rfl
 | succ n ih=>rw[cD,eZ,ih,cD];rfl
theorem VI:nl m par []=List.replicate m.toNat V.π:=by
 unfold nl;refine eX λi=>?_;by_cases c:i<m.toNat
 .rw[aH,f9 c,d5,aj c];simp
 .rw[bN (by rw[aa,cX];lia),bN (by rw[bU];lia)]
def nG(par:fc):Nat->Int->List Int
 | 0,v=>[v]
 | n+1,v=>v::nG par n (par v)
theorem ε.pos(R:ε m s r par d){v:Int}(a:0<=v)(c:v<m)(b:v≠r):d v=d (par v)+1:=(R.up v a c b).2.2.symm
theorem Bz(R:ε m s r par d):∀(n:Nat)(v:Int),d v=n->0<=v->v<m->(nG par n v).Nodup/\(∀x∈nG par n v,(0<=x/\x<m)/\d x<=n)/\(nG par n v).length=n+1
 | 0,v,e,h0,h1=>⟨by unfold nG;simp,λx hx=>by
  unfold nG at hx;rw[aE.mp hx];exact⟨⟨h0,h1⟩,by lia⟩,rfl⟩
 | n+1,v,e,h0,h1=>by
   have f:v≠r:=λz=>by rw[z,R.root]at e;lia
   have u:=R.up v h0 h1 f;obtain⟨b,a,c⟩:=Bz R n (par v) (by lia) u.1.1 u.1.2;unfold nG;refine⟨bf.mpr ⟨λz=>?_,b⟩,λx hx=>?_,by rw[aD,c]⟩
   .have:=(a v z).2
    lia
   .rcases aq.mp hx with rfl|hx
    .exact⟨⟨h0,h1⟩,by lia⟩
    .exact⟨(a x hx).1,by have:=(a x hx).2;lia⟩
theorem lC(R:ε m s r par d){v:Int}(b:0<=v)(f:v<m):d v+1<=m.toNat:=by
 obtain⟨c,a,g⟩:=Bz R _ v rfl b f;have:=fj (m:=m) (by lia) c λx e=>(a x e).1
 lia
theorem z9{v:Int}(a:0<=v)(b:v<m):(qI m r par)[v.toNat]?=some (front r par v):=by
 unfold qI;rw[aH,f9 (by lia)];show some (front r par ((v.toNat:Nat):Int))=_;rw[bn a]
theorem lm(g:Good m s)(R:ε m s r par d){v:Int}(h:0<=v)(o:v<m)(n:v≠r):∃k,c9 s v (par v)=some k/\2<=k/\k<=1000000:=by
 obtain⟨x,e,j⟩:=(R.up v h o n).2.1;obtain⟨i,f⟩:=cR e;have ok:=g.ok x e;rw[xR g f j];unfold jE;by_cases c:x.a=v/\x.b=par v
 .rw[aj c];exact⟨_,rfl,ok.t0,ok.t1⟩
 .rw[ah c];have l:x.a=par v/\x.b=v:=by
   rcases j with j|j
   .exact absurd j c
   .exact⟨j.2,j.1⟩
  rw[aj l];exact⟨_,rfl,ok.u0,ok.u1⟩
def sy(m:Int)(s:hT)(r:Int)(par:fc):Nat->Int->List Int
 | 0,v=>[v]
 | n+1,v=>v::(bT m s (front r par v) v).flatMap (sy m s r par n)
def bO(m:Int)(s:hT)(r:Int)(par:fc)(d:fz)(v:Int):List Int:=sy m s r par (m.toNat-1-d v) v
theorem vc{f h:Int->List Int}:∀{l:eu},(∀x∈l,f x=h x)->l.flatMap f=l.flatMap h
 | [],_=>rfl
 | a::l,e=>by rw[bD,bD,e a aK,vc λx b=>e x (aF _ b)]
theorem fM(g:Good m s)(R:ε m s r par d){v:Int}(h:0<=v)(k:v<m):bO m s r par d v=v::(bT m s (front r par v) v).flatMap (bO m s r par d):=by
 have f:∀u,u∈bT m s (front r par v) v->(0<=u/\u<m)/\u≠r/\par u=v:=λu=>(bB g R h k).mp;have c:∀u∈bT m s (front r par v) v,d u=d v+1/\d u+1<=m.toNat:=λu a=>by
  obtain⟨b,i,j⟩:=f u a;have:=R.pos b.1 b.2 i;rw[j]at this;exact⟨this,lC R b.1 b.2⟩
 unfold bO;cases e:m.toNat-1-d v with
 | zero=>
   have:bT m s (front r par v) v=[]:=d4.mpr λu a=>by
    have:=c u a
    lia
   rw[this]
   rfl
 | succ n=>
   show v::(bT m s (front r par v) v).flatMap (sy m s r par n)=_;rw[vc λu a=>show sy m s r par n u=sy m s r par (m.toNat-1-d u) u by rw[show m.toNat-1-d u=n by have:=c u a;lia]]
def up(par:fc):Nat->Int->Int
 | 0,x=>x
 | k+1,x=>par (up par k x)
theorem BW{f:Int->List Int}:∀{l:eu},l.Nodup->(∀u∈l,(f u).Nodup)->(∀u∈l,∀w∈l,∀x,x∈f u->x∈f w->u=w)->(l.flatMap f).Nodup
 | [],_,_,_=>by simp
 | a::l,n,h1,h2=>by
   obtain⟨j,g⟩:=bf.mp n;rw[bD,dC];refine⟨h1 a aK,BW g (λu e=>h1 u (aF _ e)) (λu e w b=>h2 u (aF _ e) w (aF _ b)),λx h y i z=>?_⟩;subst z;obtain⟨w,b,c⟩:=eY.mp i;have:=h2 a aK w (aF _ b) x h c;exact j (this▸b)
theorem oX(g:Good m s)(R:ε m s r par d):∀(n:Nat)(v:Int),0<=v->v<m->(sy m s r par n v).Nodup/\∀x∈sy m s r par n v,(0<=x/\x<m)/\∃k,d x=d v+k/\up par k x=v
 | 0,v,h0,h1=>⟨by unfold sy;simp,λx hx=>by
  unfold sy at hx;rw[aE.mp hx];exact⟨⟨h0,h1⟩,0,rfl,rfl⟩⟩
 | n+1,v,h0,h1=>by
   have c:∀u,u∈bT m s (front r par v) v->(0<=u/\u<m)/\u≠r/\par u=v:=λu=>(bB g R h0 h1).mp;have q:(bT m s (front r par v) v).Nodup:=mW;have b:=λu a=>oX g R n u (c u a).1.1 (c u a).1.2;have h:∀u∈bT m s (front r par v) v,d u=d v+1:=λu a=>by
    obtain⟨i,y,A⟩:=c u a;have:=R.pos i.1 i.2 y;rw[A]at this;exact this
   unfold sy;refine⟨bf.mpr ⟨λz=>?_,BW q (λu a=>(b u a).1) λu a w j x hx p=>?_⟩,λx hx=>?_⟩
   .obtain⟨u,a,hv⟩:=eY.mp z;obtain⟨_,k,e,_⟩:=(b u a).2 v hv;have:=h u a
    lia
   .obtain⟨_,k1,e1,f1⟩:=(b u a).2 x hx;obtain⟨_,l,B,o⟩:=(b w j).2 x p;have D:=h u a;have C:=h w j;have:k1=l:=(by lia);rw[<-f1,<-o,this]
   .rcases aq.mp hx with rfl|hx
    .exact⟨⟨h0,h1⟩,0,rfl,rfl⟩
    .obtain⟨u,a,hv⟩:=eY.mp hx;obtain⟨t,k,e,f⟩:=(b u a).2 x hv;exact⟨t,k+1,by rw[e,h u a];lia,by show par (up par k x)=v;rw[f];exact(c u a).2.2⟩
theorem zJ(g:Good m s)(R:ε m s r par d){v:Int}(a:0<=v)(f:v<m):(bO m s r par d v).length<=24:=by
 obtain⟨e,b⟩:=oX g R (m.toNat-1-d v) v a f;have:=fj (m:=m) (by lia) e λx c=>(b x c).1;have:=g.Θ;unfold bO
 lia
end Pb
namespace L2
open PySem PySem.Spec PyProof.Rows
def Itv(K:gh)(a:Addr)(n:Nat):It:=⟨λi H=>i<n/\∃b x,μ K H a b/\b[n-1-i]?=some x,λi H x c=>c=H/\∀b,μ K H a b->b[n-1-i]?=some x,λi H=>n<=i⟩
theorem P9{P:Program}{w:World}{K:gh}{tg:Expr}(a g:Addr)(n:Nat):Turn P w K tg (Itv K a n) [g] g (λi h=>i<=n/\h.IsRevIter g a ((n:Int)-1-(i:Int))) where
 mem:=by simp
 obj:=λi h st b hb=>by
  have e:b=g:=by simpa using hb
  subst e;obtain⟨_,o,e,c,d⟩:=st;exact⟨o,e,λv z=>by rw[d]at z;cases z⟩
 keep:=λi h m st k=>⟨st.1,st.2.at λo e=>k g (by simp) o e⟩
 item:=by
  intro X C hw y L i f s J H E I l st D;subst C hw y;obtain⟨Y,xs,x,G,M⟩:=D;obtain⟨V,rv,p,hz⟩:=I.list G;obtain⟨u,Z,ru⟩:=rv.get M;obtain⟨B,t,Q,r,A,q⟩:=l g (by simp);have e0:(n:Int)-1-(i:Int)=((n-1-i:Nat):Int):=by lia
  have j:=st.2;rw[e0]at j;refine wpAny_pyNext_rev_item j p.isList (x:=u) (by simpa using Z) λm F T=>?_;have U:Inv X f J H { s with heap:=m }:=I.turned (t':=s.toks) (λb o hb e=>(T.2 b hb).trans e) B t r A q;obtain⟨o,e,c,d⟩:=id F;have N:((n-1-i:Nat):Int)-1=(n:Int)-1-((i+1:Nat):Int):=by lia
  rw[N]at F;exact⟨u,rfl,Fk (s:={ s with heap:=m }) e c d (by decide) ⟨x,H,U,ru,⟨rfl,λys R=>by rw[I.iO R G];exact M⟩,⟨Y,F⟩,λb hb=>(l b hb).1⟩⟩
 done:=by
  intro X C hw y L i f s J H E I l st D;subst C hw y;have S:n<=i:=D;obtain⟨B,t,Q,r,A,q⟩:=l g (by simp);have j:=st.2;have O:=st.1;rw[show(n:Int)-1-(i:Int)=-1 by lia]at j;exact wpAny_pyNext_rev_end (I.ok.hd L) j λm eb=>⟨rfl,I.turned (t':=s.toks) (λb o hb e=>eb b o hb e) B t r A q⟩
 self:=λ_ _ _ _ _ st h=>jL st.2 h
def PB(K:gh)(e:TE):TI:=λd H R=>e d H λx b=>∃a c,x=.ref a/\μ K b a c/\R (Itv K a c.length) b
section
variable{X:Cx}{f e:Expr}{d:TE}{g c:Pos}
theorem rN(C:Gl X "reversed")(D:X.mg "reversed"=none)(t:PE X e d)(r:starEach [e] X.env=[(false,eval e X.env)]:=by rfl):PI X f (.Call (.Name "reversed" g) [e] [] c) (PB X.K d):=by
 intro j s y H R I h;refine Call_ (pG I C D boot_reversed (cL ?_ r rfl));rw[r];show wpAny _ _ (spliced ((false,eval e X.env)::backTo c [])) _ _ s;refine gL (dX (t j s y H _ I h) λu k x v m w F=>gW ?_);obtain⟨a,n,J,z,q⟩:=F;subst J;cases w;obtain⟨p,G,B,L⟩:=m.list z;refine call_reversed_list B.isList ?_;have A:p.toArray.size=n.length:=by rw[aQ,G.length]
 rw[A];refine jL (i:=(n.length:Int)-1) (l:=a) ⟨_,bc _ rfl,rfl,rfl⟩ ?_;refine⟨k.heap.objs.size,[k.heap.objs.size],_,_,v,rfl,m.kept (t':=k.toks) λb o e=>aA _ e,P9 a _ n.length,⟨bx _,?_⟩,λb E=>?_,q⟩
 .exact⟨_,bc _ rfl,rfl,by simp[revObj]⟩
 .have e:b=k.heap.objs.size:=by simpa using E
  subst e;exact m.Zz (ax _) (m.χ.fresh (ax _))
end
theorem pN{K:gh}{a:Addr}{xs:List V}{g:TG}{k:TS}{D:Ends}{b:St}{H:Hp}(d:Nat->St->Hp->Prop)(v:d 0 b H)(o:∀i b H,i<=xs.length->d i b H->μ K H a xs)(s:∀(i:Nat) (x:V) (b:St) (H:Hp) (N:St->Hp->Prop),(∀c f,d (i+1) c f->N c f)->xs.reverse[i]?=some x->d i b H->g x b H λh t=>k { D with nx:=N,ct:=N,bk:=D.nx } h t)(r:∀b H,d xs.length b H->D.nx b H):sO (Itv K a xs.length) D g k b H:=by
 refine⟨λi m b H=>m=xs.length-i/\i<=xs.length/\d i b H,⟨xs.length,by simp,bx _,v⟩,?_⟩;rintro i m b H ⟨rfl,u,p⟩;have q:=o i b H u p;by_cases j:i<xs.length
 .have hx:xs[xs.length-1-i]?=some xs[xs.length-1-i]:=ao (by lia);refine .inr ⟨⟨j,xs,_,q,hx⟩,λc f=>∃l,l<xs.length-i/\(l=xs.length-(i+1)/\i+1<=xs.length/\d (i+1) c f),λc f z=>z,λx f y=>?_⟩;obtain⟨e,y⟩:=y;subst e;exact s i x b _ _ (λc f n=>⟨xs.length-(i+1),by lia,rfl,j,n⟩) (by rw[b7 j];exact y xs q) p
 .have e:i=xs.length:=by lia
  subst e;exact .inl ⟨ax _,r b H p⟩
theorem zz(a:eu):∀n,n<=a.length->preSum (λi=>a.getD i 0) n=(a.take n).sum
 | 0,_=>by simp[preSum]
 | n+1,h=>by
   have c:=zz a n (by lia);have b:n<a.length:=by lia
   rw[bQ,ao b,eE,<-c];simp[preSum,List.getD,b]
section
variable{X:Cx}
theorem Av(P:X.calm=true):mZ X (.builtin "sum") (λJ H Q=>∃(p:Addr)(d:eu),J=[.ref p]/\(μ X.K H p (d.map V.int)\/Ι X.K H p (d.map V.int))/\Q (.int d.sum) H):=by
 intro L s R H J S Q I r h;obtain⟨p,d,rfl,hp,q⟩:=h;obtain⟨u,rfl,E⟩:=wx r;cases E;have M:X.A.in1.handled=none:=I.ok.hd P;have f:∀{a:hD},Vals (d.map V.int) a->a.length=d.length/\∀(i:Nat)(v:Value),a.toArray[i]?=some v->∃t,v=Value.int (d.getD i 0) t:=by
  intro a k;have c:a.length=d.length:=by rw[<-k.length,aa]
  refine⟨c,λi v y=>?_⟩;have O:a[i]?=some v:=by simpa using y
  have w:i<d.length:=by rw[<-c];exact(ar.mp O).1
  obtain⟨u,N,E⟩:=k.get (i:=i) (x:=V.int d[i]) (by rw[aH,ao w];rfl);rw[O]at N;cases N;obtain⟨t,e⟩:=(show ∃t,v=Value.int d[i] t from E);exact⟨t,by rw[e];simp[List.getD,w]⟩
 have l:∀{n:Nat},n=d.length->preSum (λi=>d.getD i 0) n=d.sum:=λ{n} e=>by rw[zz d n (by lia),df (by lia)]
 rcases hp with hp|hp
 .obtain⟨a,k,pl,hz⟩:=I.list hp;obtain⟨c,B⟩:=f k;have j:=pl.isList;have m:=pl.lt;refine call_sum_walkG (iP j ?_);refine⟨s.heap.objs.size,[s.heap.objs.size,p],[s.heap.objs.size],a.toArray.size,_,_,λi=>d.getD i 0,rfl,Walks.list (A:=X.A.in1) M _ p (aX m) a.toArray,⟨⟨_,bc _ rfl,rfl,rfl⟩,j.push _⟩,λb F=>?_,λi v y=>B i v y,λC G t' z=>?_⟩
  .simp only[Heap.push,Array.size_push];rcases aq.mp F with e|e
   .rw[e];exact fP _
   .rw[aE.mp e];exact gN m
  .have kk:∀b o,s.heap.get? b=some o->C.get? b=some o:=λb o g=>z b o (λD=>by rw[aE.mp D]at g;exact c7 _ (aI g)) (aA _ g);rw[l (by rw[aQ,c])];exact⟨.int _,H,I.kept (t':=G) kk,⟨t',rfl⟩,q⟩
 .obtain⟨a,k,pl,hz⟩:=I.tuple hp;obtain⟨c,B⟩:=f k;have j:s.heap.IsTuple p a.toArray:=pl;have m:p<s.heap.objs.size:=by
   obtain⟨o,e,_⟩:=id j;exact aI e
  refine call_sum_walkG (j3 j ?_);refine⟨s.heap.objs.size,[s.heap.objs.size,p],[s.heap.objs.size],a.toArray.size,_,_,λi=>d.getD i 0,rfl,Walks.tuple (A:=X.A.in1) M _ p (aX m) a.toArray,⟨⟨_,bc _ rfl,rfl,rfl⟩,j.push _⟩,λb F=>?_,λi v y=>B i v y,λC G t' z=>?_⟩
  .simp only[Heap.push,Array.size_push];rcases aq.mp F with e|e
   .rw[e];exact fP _
   .rw[aE.mp e];exact gN m
  .have kk:∀b o,s.heap.get? b=some o->C.get? b=some o:=λb o g=>z b o (λD=>by rw[aE.mp D]at g;exact c7 _ (aI g)) (aA _ g);rw[l (by rw[aQ,c])];exact⟨.int _,H,I.kept (t':=G) kk,⟨t',rfl⟩,q⟩
end
theorem Js{X:Cx}(K:gh)(f:X.K=K){a:List Expr}{k:Nat}{b:Pos}{t:TGs}{n:Nat}(d:X.calm=true)(h:PGs X a t)(e:(assignEach a X.env).length=n:=by rfl)(c:(assignEach a X.env).findIdx? (·.1)=none:=by rfl):PG X (.Tuple a k b) (Kq K n t):=by
 subst f;exact j0 d h e c
theorem NK{K:gh}{c d:Bool}{a b p:Addr}{xs zs:List V}{Q:VK}{g:TG}{D:TT}{v:TE}{o:St}{w:Hp}(l:Nat->List V->St->Hp->Prop)(T:l 0 [] o w)(O:∀i f h H,l i f h H->ϣ K c H a xs/\ϣ K d H b zs)(R:∀(i:Nat) (x z:V) (f:List V) (h:St) (H:Hp) (q:Addr) (N:List V->St->Hp->Prop),(∀r j n,l (i+1) r j n->N r j n)->xs[i]?=some x->zs[i]?=some z->l i f h H->H q=none->g (.ref q) h (upd H q (.tup [x,z])) λk S=>D k S λb C=>
 if b=true then v k C λy B=>B p=some (.lst f)/\f.length<sizeLine/\N (f++[y]) k (upd B p (.lst (f++[y])))else N f k C)(P:∀f h H,l (min xs.length zs.length) f h H->Q (.ref p) H):u9 (Itz K c d a b) p Q g D v o w:=by
 refine⟨λi m f h H=>m=min xs.length zs.length-i/\i<=min xs.length zs.length/\l i f h H,⟨_,rfl,bx _,T⟩,?_⟩;rintro i m f h H ⟨rfl,U,pv⟩;obtain⟨u,t⟩:=O i f h H pv;by_cases G:i<min xs.length zs.length
 .refine .inr ⟨⟨xs,zs,xs[i]'(by lia),zs[i]'(by lia),u,t,ao (by lia),ao (by lia)⟩,λx n y=>?_⟩;obtain⟨M,I,J,F,rfl,rfl,E,L⟩:=y;exact R i I J f h H M (λr j n=>∃A,A<min xs.length zs.length-i/\(A=min xs.length zs.length-(i+1)/\i+1<=min xs.length zs.length/\l (i+1) r j n)) (λr j n s=>⟨min xs.length zs.length-(i+1),by lia,rfl,G,s⟩) (E xs u) (L zs t) pv F
 .have e:i=min xs.length zs.length:=by lia
  subst e;exact .inl ⟨⟨xs,zs,u,t,by lia⟩,P f h H pv⟩
theorem tY{H:Hp}{l:Addr}{a:List V}{i:Int}{v:V}{Q:Hp->Prop}(h:H l=some (.lst a))(b:0<=i)(c:i<a.length)(q:Q (upd H l (.lst (a.set i.toNat v)))):abW (.ref l) (.int i) v H Q:=⟨l,a,i,i.toNat,rfl,rfl,h,by unfold ZC;rw[aj b,aj (by lia)],q⟩
theorem eQ{xs:eu}{i:Int}(a:0<=i)(b:i<xs.length):ϥ (xs.map V.int) i=some (.int (xs.getD i.toNat 0)):=cB a (by
 have h:i.toNat<xs.length:=by lia
 rw[aH,ao h];simp[List.getD,h])
theorem BL(n:Nat)(v:V):(List.replicate n [v]).flatten=List.replicate n v:=by
 induction n with
 | zero=>rfl
 | succ n ih=>rw[cD,eZ,ih,cD];rfl
theorem Qw{X:Cx}:Uk X (GZ X.K):=by
 intro b s A H x y v u Q I l B h;obtain⟨p,G,i,z,rfl,rfl,o,m,q⟩:=h;cases l;obtain⟨t,rfl⟩:=B;obtain⟨d,r,f,J⟩:=I.list o;obtain⟨j,c,E,F,n,k⟩:=CU m;obtain⟨w,e,D⟩:=r.get E;have C:=r.length;have L:=tR;have a:EP X b A Q w s:=⟨z,H,I,D,q⟩;by_cases g:0<=i
 .have hj:i.toNat=j:=by
   rw[seqIndex_of g k]at c;exact br c
  exact wpAny_getItem_list f.isList g (by lia) (by rw[hj];simpa using e) a
 .have hj:(i+(d.toArray.size:Int)).toNat=j:=by
   rw[seqIndex_neg (by lia) n]at c;rw[aQ,<-C];exact br c
  exact wpAny_getItem_list_neg f.isList (by lia) (by rw[aQ]<;>lia) (by lia) (by rw[hj];simpa using e) a
theorem Rb{K:gh}{a p:Addr}{xs:List V}{Q:VK}{g:TG}{z:TT}{s:TE}{l:St}{t:Hp}(j:Nat->List V->St->Hp->Prop)(F:j 0 [] l t)(A:∀i c d H,i<=xs.length->j i c d H->μ K H a xs)(C:∀(i:Nat) (x:V) (c:List V) (d:St) (H:Hp) (N:List V->St->Hp->Prop),(∀n f k,j (i+1) n f k->N n f k)->xs.reverse[i]?=some x->j i c d H->g x d H λh D=>z h D λb w=>
 if b=true then s h w λy v=>v p=some (.lst c)/\c.length<sizeLine/\N (c++[y]) h (upd v p (.lst (c++[y])))else N c h w)(B:∀c d H,j xs.length c d H->Q (.ref p) H):u9 (Itv K a xs.length) p Q g z s l t:=by
 refine⟨λi m c d H=>m=xs.length-i/\i<=xs.length/\j i c d H,⟨xs.length,by simp,bx _,F⟩,?_⟩;rintro i m c d H ⟨rfl,E,pv⟩;have q:=A i c d H E pv;by_cases o:i<xs.length
 .have hx:xs[xs.length-1-i]?=some xs[xs.length-1-i]:=ao (by lia);refine .inr ⟨⟨o,xs,_,q,hx⟩,λx k y=>?_⟩;obtain⟨e,y⟩:=y;subst e;exact C i x c d _ (λn f k=>∃u,u<xs.length-i/\(u=xs.length-(i+1)/\i+1<=xs.length/\j (i+1) n f k)) (λn f k r=>⟨xs.length-(i+1),by lia,rfl,o,r⟩) (by rw[b7 o];exact y xs q) pv
 .have e:i=xs.length:=by lia
  subst e;exact .inl ⟨ax _,B c d H pv⟩
end L2
namespace Pb
open L2
def After(a:fc):List Int->List Int->Prop
 | _,[]=>True
 | S,c::t=>a c∈S/\After a (c::S) t
section
variable{m:Int}{C:hT}{r:Int}{f:fc}{p:fz}
theorem After.mono:∀{l S b:eu},(∀x∈S,x∈b)->After f S l->After f b l
 | [],_,_,_,_=>trivial
 | c::t,S,b,h,a=>⟨h _ a.1,After.mono (λx d=>by
  rcases aq.mp d with e|e
  .exact aq.mpr (.inl e)
  .exact aF _ (h x e)) a.2⟩
theorem After.append:∀{e d S:eu},After f S e->After f S d->After f S (e++d)
 | [],_,_,_,b=>b
 | c::t,d,S,a,b=>⟨a.1,After.append a.2 (b.mono λx g=>aF _ g)⟩
theorem After.snoc{c:Int}:∀{l S:eu},After f S l->(f c∈S\/f c∈l)->After f S (l++[c])
 | [],S,_,h=>⟨h.resolve_right (by simp),trivial⟩
 | d::t,S,a,h=>⟨a.1,After.snoc a.2 (by
  rcases h with h|h
  .exact .inl (aF _ h)
  .rcases aq.mp h with e|e
   .exact .inl (aq.mpr (.inl e))
   .exact .inr e)⟩
theorem After.up:∀{A B S:eu},After f S (A++B)->∀k∈A,f k∈S\/f k∈A
 | [],_,_,_,k,hk=>by cases hk
 | c::t,B,S,a,k,hk=>by
   rcases aq.mp hk with e|e
   .rw[e];exact .inl a.1
   .rcases After.up (A:=t) (B:=B) a.2 k e with h|h
    .rcases aq.mp h with h|h
     .exact .inr (by rw[h];exact aK)
     .exact .inl h
    .exact .inr (aF _ h)
structure Order(m r:Int)(f:fc)(t:eu):Prop where
 nd:(r::t).Nodup
 Λ:∀v∈t,0<=v/\v<m
 all:∀v,0<=v->v<m->v=r\/v∈t
 af:After f [r] t
theorem Order.ne{t:eu}(O:Order m r f t){v:Int}(h:v∈t):v≠r:=λz=>(bf.mp O.nd).1 (z▸h)
theorem Bc(g:Good m C)(R:ε m C r f p):∀(n:Nat)(v:Int)(S:eu),0<=v->v<m->f v∈S->After f S (sy m C r f n v)
 | 0,v,S,_,_,h=>⟨h,trivial⟩
 | n+1,v,S,h0,h1,h=>by
   refine⟨h,?_⟩;have:∀(a:eu)(S:eu),v∈S->(∀u∈a,u∈bT m C (front r f v) v)->After f S (a.flatMap (sy m C r f n)):=by
    intro a
    induction a with
    | nil=>intro S _ _;exact trivial
    | cons u a ih=>
      intro S c d;rw[bD];obtain⟨b,k,j⟩:=(bB g R h0 h1).mp (d u aK);exact(Bc g R n u S b.1 b.2 (by rw[j];exact c)).append (ih S c λx i=>d x (aF _ i))
   exact this _ _ aK λu e=>e
theorem AQ(g:Good m C)(R:ε m C r f p)(c:0<=r)(h:r<m)(d:(bO m C r f p r).Nodup)(b:∀v,v∈bO m C r f p r↔0<=v/\v<m):∃t,bO m C r f p r=r::t/\Order m r f t:=by
 have e:=fM g R c h;refine⟨_,e,?_⟩;rw[e]at d b;refine⟨d,λv n=>(b v).mp (aF _ n),λv q l=>aq.mp ((b v).mpr ⟨q,l⟩),?_⟩;have:∀a:List Int,(∀u∈a,u∈bT m C (front r f r) r)->After f [r] (a.flatMap (bO m C r f p)):=by
  intro a
  induction a with
  | nil=>intro _;exact trivial
  | cons u a ih=>
    intro j;rw[bD];obtain⟨i,w,s⟩:=(bB g R c h).mp (j u aK);exact(Bc g R _ u [r] i.1 i.2 (by rw[s];exact aK)).append (ih λx k=>j x (aF _ k))
 exact this _ λu o=>o
def Aj(m:Int)(C:hT)(r:Int)(f:fc)(o:fc)(q:hR):Nat->Int->Int
 | 0,v=>o v
 | n+1,v=>o v+((bT m C (front r f v) v).map λc=>q c (Aj m C r f o q n c)).sum
def Ϗ(m:Int)(C:hT)(r:Int)(f:fc)(p:fz)(o:fc)(q:hR)(v:Int):Int:=Aj m C r f o q (m.toNat-1-p v) v
variable{o:fc}{q:hR}
theorem rf(g:Good m C)(R:ε m C r f p){v:Int}(i:0<=v)(l:v<m):Ϗ m C r f p o q v=o v+((bT m C (front r f v) v).map λc=>q c (Ϗ m C r f p o q c)).sum:=by
 have h:∀u,u∈bT m C (front r f v) v->(0<=u/\u<m)/\u≠r/\f u=v:=λu=>(bB g R i l).mp;have d:∀u∈bT m C (front r f v) v,p u=p v+1/\p u+1<=m.toNat:=λu a=>by
  obtain⟨b,j,k⟩:=h u a;have:=R.pos b.1 b.2 j;rw[k]at this;exact⟨this,lC R b.1 b.2⟩
 unfold Ϗ;cases e:m.toNat-1-p v with
 | zero=>
   have:bT m C (front r f v) v=[]:=d4.mpr λu a=>by
    have:=d u a
    lia
   rw[this];simp[Aj]
 | succ n=>
   show o v+_=_;rw[bX λu a=>show q u (Aj m C r f o q n u)=q u (Aj m C r f o q (m.toNat-1-p u) u) by rw[show m.toNat-1-p u=n by have:=d u a;lia]]
theorem tZ{l a:eu}(h:l.Perm a):l.sum=a.sum:=by
 induction h with
 | nil=>rfl
 | cons x _ ih=>rw[aW,aW,ih]
 | swap x y l=>simp only[aW];lia
 | trans _ _ h1 h2=>exact h1.trans h2
def ut(f:fc)(q:hR)(a:eu)(v:Int):List Int:=a.set (f v).toNat (a.getD (f v).toNat 0+q v (a.getD v.toNat 0))
structure ϕ(m:Int)(C:hT)(r:Int)(f:fc)(p:fz)(o:fc)(q:hR)(t cs:eu):Prop where
 len:(cs.length:Int)=m
 val:∀v,0<=v->v<m->cs.getD v.toNat 0=o v+((t.filter λc=>decide (f c=v)).map λc=>q c (Ϗ m C r f p o q c)).sum
theorem ϕ.nil{a:eu}(h:(a.length:Int)=m):ϕ m C r f p (λv=>a.getD v.toNat 0) q [] a:=⟨h,λv _ _=>by simp⟩
theorem zw(g:Good m C)(R:ε m C r f p){t:eu}(e:t.Nodup)(a:∀x∈t,(0<=x/\x<m)/\x≠r){v:Int}(b:0<=v)(i:v<m)(d:∀k,0<=k->k<m->k≠r->f k=v->k∈t):(t.filter λc=>decide (f c=v)).Perm (bT m C (front r f v) v):=by
 refine ik (e.filter _) mW λx=>?_;rw[bG,bB g R b i,b4];exact⟨λh=>⟨(a x h.1).1,(a x h.1).2,h.2⟩,λh=>⟨d x h.1.1 h.1.2 h.2.1 h.2.2,h.2.2⟩⟩
theorem ϕ.full(g:Good m C)(R:ε m C r f p){t c:eu}(s:ϕ m C r f p o q t c)(e:t.Nodup)(h:∀x∈t,(0<=x/\x<m)/\x≠r){v:Int}(a:0<=v)(b:v<m)(d:∀k,0<=k->k<m->k≠r->f k=v->k∈t):c.getD v.toNat 0=Ϗ m C r f p o q v:=by
 rw[s.val v a b,rf g R a b,tZ ((zw g R e h a b d).map _)]
theorem ϕ.step(g:Good m C)(R:ε m C r f p){t a:eu}(s:ϕ m C r f p o q t a){v:Int}(d:0<=v)(h:v<m)(hr:v≠r)(e:a.getD v.toNat 0=Ϗ m C r f p o q v):ϕ m C r f p o q (v::t) (ut f q a v) where
 len:=by unfold ut;rw[dB];exact s.len
 val:=λu u0 u1=>by
  have j:=(R.up v d h hr).1;have i:=s.len;have b:=s.val u u0 u1;unfold ut;rw[e];by_cases c:f v=u
  .have hl:u.toNat<a.length:=(by lia);rw[gH (by simpa using c),az,aW,c];rw[show(a.set u.toNat (a.getD u.toNat 0+q v (Ϗ m C r f p o q v))).getD u.toNat 0=a.getD u.toNat 0+q v (Ϗ m C r f p o q v) by simp[List.getD,hl],b]
   lia
  .rw[fF (by simpa using c),<-b];have:(f v).toNat≠u.toNat:=(by lia);simp[List.getD,dZ this]
theorem Order.places{t:eu}(O:Order m r f t):∀x∈t,(0<=x/\x<m)/\x≠r:=λx a=>⟨O.Λ x a,O.ne a⟩
theorem Order.turn(g:Good m C)(R:ε m C r f p){t l:eu}(O:Order m r f t){i:Nat}{v:Int}(s:ϕ m C r f p o q (t.drop (t.length-i)) l)(b:t.reverse[i]?=some v):((0<=v/\v<m)/\v≠r)/\l.getD v.toNat 0=Ϗ m C r f p o q v/\ϕ m C r f p o q (t.drop (t.length-(i+1))) (ut f q l v):=by
 have J:i<t.length:=by
  have:=(ar.mp b).1
  rwa [aU]at this
 rw[b7 J]at b;generalize K:t.length-1-i=j at b;have I:t.length-i=j+1:=by lia
 have u:t.length-(i+1)=j:=by lia
 rw[I]at s;rw[u];have c:j<t.length:=by lia
 have F:v∈t:=aJ b;have a:=O.places v F;have E:t.drop j=v::t.drop (j+1):=by
  rw[cq c];rw[ao c]at b;cases b
  rfl
 have y:t=t.take j++v::t.drop (j+1):=by rw[<-E,cw]
 have h:=(bf.mp O.nd).2;have d:=h;rw[y]at d;have H:v∉t.take j:=λz=>(dC.mp d).2.2 v z v aK rfl;have e:=s.full g R (h.sublist (List.drop_sublist _ _)) (λx G=>O.places x (cj G)) a.1.1 a.1.2 λk D A B n=>by
  rcases O.all k D A with z|z
  .exact absurd z B
  .rw[y]at z;rcases aV.mp z with z|z
   .have af:=O.af;rw[y]at af;rcases af.up k z with w|w
    .rw[n]at w;exact absurd (aE.mp w) a.2
    .rw[n]at w;exact absurd w H
   .rcases aq.mp z with z|z
    .subst z;exact absurd n (R.ne D A B)
    .exact z
 exact⟨a,e,by rw[E];exact s.step g R a.1.1 a.1.2 a.2 e⟩
def rh(m:Int)(C:hT)(r:Int)(f:fc)(p:fz)(o:fc)(q:hR):List Int:=(cY m.toNat).map (Ϗ m C r f p o q)
theorem qP{v:Int}(a:0<=v)(b:v<m):(rh m C r f p o q).getD v.toNat 0=Ϗ m C r f p o q v:=by
 unfold rh;rw[List.getD,aH,f9 (by lia),bn a]
 rfl
theorem Order.done(g:Good m C)(R:ε m C r f p){t a:eu}(O:Order m r f t)(s:ϕ m C r f p o q t a):a=rh m C r f p o q:=by
 have l:=s.len;refine eX λi=>?_;by_cases h:i<m.toNat
 .have hc:i<a.length:=by lia
  have e:=s.full g R (bf.mp O.nd).2 O.places (v:=(i:Int)) (by lia) (by lia) λk c d b j=>(O.all k c d).resolve_left b;unfold rh;rw[aH,f9 h];rw[bu,List.getD,ao hc]at e;rw[ao hc];exact congrArg some e
 .unfold rh;rw[bN (by lia),bN (by rw[aa,cX];lia)]
def Υ(C:hT)(f:fc)(v x:Int):Int:=x/(c9 C v (f v)).getD 1
theorem NM(v:Int):Υ C f v 0=0:=by unfold Υ;exact Int.zero_ediv _
end
section
variable{m:Int}{f:hT}{r:Int}{par:fc}{dep:fz}{d:fc}
theorem JL(a:∀v,0<=d v)(b:∀v x,0<=x->0<=Υ f par v x):∀(n:Nat)(v:Int),0<=Aj m f r par d (Υ f par) n v
 | 0,v=>a v
 | n+1,v=>by
   show 0<=d v+_;have:∀l:List Int,0<=(l.map λc=>Υ f par c (Aj m f r par d (Υ f par) n c)).sum:=by
    intro l
    induction l with
    | nil=>exact bC _
    | cons c l ih=>
      rw[az,aW];have:=b c _ (JL a b n c)
      lia
   have g:=this (bT m f (front r par v) v);have e:=a v
   lia
theorem SI(g:Good m f)(v x:Int)(h:0<=x):0<=Υ f par v x:=by
 unfold Υ;refine jR h ?_;cases e:c9 f v (par v)with
 | none=>decide
 | some k=>
   have n:=zX.mp (show(c9 f v (par v)).isSome=true by rw[e];rfl);obtain⟨x,c,j⟩:=n;obtain⟨i,l⟩:=cR c;have ok:=g.ok x c;rw[xR g l (by rcases j with⟨a,b⟩|⟨a,b⟩;exact .inl ⟨a,b⟩;exact .inr ⟨a,b⟩)]at e;unfold jE at e;have t0:=ok.t0;have u0:=ok.u0;show 0<=k;split at e
   .cases e;lia
   .split at e
    .cases e;lia
    .cases e
theorem Bl(g:Good m f)(a:∀v,0<=d v)(v:Int):0<=Ϗ m f r par dep d (Υ f par) v:=JL a (SI g) _ _
theorem oB(l:eu)(i j:Nat)(x:Int)(h:i<l.length):(l.set i x).getD j 0=if i=j then x else l.getD j 0:=by
 by_cases c:i=j
 .subst c;rw[aj rfl];simp[List.getD,h]
 .rw[ah c];simp[List.getD,dZ c]
end
end Pb
namespace L2
open PySem PySem.Spec PyProof.Rows
def nU(a:eu)(lo b:Option Int):List Int:=(a.drop (HT.XQ a.length 0 lo)).take (HT.XQ a.length a.length b-HT.XQ a.length 0 lo)
theorem Ak(a:eu)(lo b:Option Int):xJ (a.map V.int) lo b=(nU a lo b).map V.int:=by
 unfold xJ nU;rw[aa,mX,j8]
theorem QR(a:eu)(lo b:Option Int):(nU a lo b).length<=a.length:=by
 unfold nU;rw[bg,ee]
 lia
theorem slI{K:gh}{H:Hp}{a:Addr}{b:eu}{lo c:Option Int}{Q:VK}(h:μ K H a (b.map V.int))(q:∀p,H p=none->Q (.ref p) (upd H p (.lst ((nU b lo c).map V.int)))):Ux K (.ref a) lo c H Q:=⟨a,_,rfl,h,λp d=>by rw[Ak];exact q p d⟩
theorem zV:∀b a:List Int,PyData.eqvAll (b.map PyData.int) (a.map PyData.int)=decide (b=a)
 | [],[]=>by simp[PyData.eqvAll]
 | [],y::a=>by simp[PyData.eqvAll]
 | x::b,[]=>by simp[PyData.eqvAll]
 | x::b,y::a=>by
   rw[az,az];simp only[PyData.eqvAll];rw[zV b a];simp[PyData.eqv];by_cases d:x=y<;>by_cases c:b=a<;>simp[d,c]
theorem Sb(b a:eu):PyData.eqv (.list (b.map PyData.int)) (.list (a.map PyData.int))=decide (b=a):=by
 simp only[PyData.eqv];exact zV b a
def Tq(K:gh)(c:Bool):R2:=λx y H Q=>∃p a i v,x=.ref p/\y=.int i/\ϣ K c H p a/\ϥ a i=some v/\Q v H
theorem Hj{X:Cx}(c:Bool):IxR X (Tq X.K c):=by
 cases c
 .exact ia
 .exact bF
theorem ixX{K:gh}{c:Bool}{H:Hp}{p:Addr}{a:List V}{i:Int}{v:V}{Q:VK}(h:ϣ K c H p a)(e:ϥ a i=some v)(q:Q v H):Tq K c (.ref p) (.int i) H Q:=⟨p,a,i,v,rfl,rfl,h,e,q⟩
theorem RN{c:Prop}[Decidable c]{A B:Prop}{P:Int->Prop}(m1 m2:Int)(hB:P m2->B)(hA:P m1->A)(h:∀m,(m=m1\/m=m2)->P m):if c then A else B:=by
 by_cases z:c
 .rw[aj z];exact hA (h _ (.inl rfl))
 .rw[ah z];exact hB (h _ (.inr rfl))
end L2
namespace Pb
open L2 PySem
theorem JF{d c:Type}{R:d->c->Prop}:∀(n:Nat){b:List d}{a:List c},Paired R b a->Paired R (b.take n) (a.take n)
 | 0,_,_,_=>by rw[d7,d7];exact .nil
 | _+1,_,_,.nil=>.nil
 | n+1,_,_,.cons x xs=>.cons x (JF n xs)
theorem JP{d c:Type}{R:d->c->Prop}:∀(n:Nat){b:List d}{a:List c},Paired R b a->Paired R (b.drop n) (a.drop n)
 | 0,_,_,h=>h
 | _+1,_,_,.nil=>.nil
 | n+1,_,_,.cons x xs=>JP n xs
theorem MD{f e:Type}{R:f->e->Prop}{b:List f}{d:List e}(h:Paired R b d):∀{c:List f}{a:List e},Paired R c a->Paired R (c++b) (a++d)
 | _,_,.nil=>h
 | _,_,.cons x xs=>.cons x (MD h xs)
theorem VO{d c:Type}{R:d->c->Prop}{a:List d}{b:List c}{q:d}{r:c}(n:Nat)(h:Paired R a b)(e:R q r):Paired R (a.take n++q::a.drop n) (b.take n++r::b.drop n):=MD (.cons e (JP n h)) (JF n h)
theorem Nf{n:Nat}{a:List Row}{b:Row}(R:Rows n a)(k:b.k=(n:Int)+1)(ok:Ze b):Rows (n+1) (a++[b]):=by
 have e:=R.len;refine⟨by rw[aO,e];rfl,λj r c=>?_⟩;by_cases d:j<a.length
 .rw[c8 d]at c;exact R.ok j r c
 .have hj2:j=a.length:=by
   have:=(ar.mp c).1;rw[aO]at this;simp at this
   lia
  rw[hj2,cT (ax _),dP]at c;cases c;exact⟨by rw[hj2,e];exact k,ok⟩
section
variable{m:Int}{d:hT}{r:Int}{a:fc}{f:fz}
def lK(d:hT)(b:V)(p:Int)(i:Nat):List Int:=((cY i).filter λq=>(c9 d p q).isSome).filter λv=>decide (V.int v≠b)
theorem B0(i:Nat):cY (i+1)=cY i++[(i:Int)]:=by
 unfold cY;rw[da,aB]
 rfl
theorem BG(p:Int)(b:V):lK d b p m.toNat=bT m d b p:=by
 unfold lK bT;rw[Nw]
theorem Lh{b:V}{p:Int}{i:Nat}(e:(c9 d p (i:Int)).isSome=true)(c:V.int (i:Int)≠b):lK d b p (i+1)=lK d b p i++[(i:Int)]:=by
 unfold lK;rw[B0,cH,cH]
 congr 1
 simp[e,c]
theorem AR{b:V}{p:Int}{i:Nat}(h:(c9 d p (i:Int)).isSome=true->¬V.int (i:Int)≠b):lK d b p (i+1)=lK d b p i:=by
 unfold lK;rw[B0,cH,cH];have:([(i:Int)].filter λq=>(c9 d p q).isSome).filter (λv=>decide (V.int v≠b))=[]:=by
  by_cases c:(c9 d p (i:Int)).isSome=true
  .have:=h c;simp[c]
   simpa using this
  .simp[c]
 rw[this,bJ]
structure Bfs(m:Int)(d:hT)(r:Int)(a:fc)(t:eu)(k:Nat):Prop where
 J:Φ m d r a t ((r::t).drop k)
 af:After a [r] t
theorem Bfs.start:Bfs m d r a [] 0:=⟨Φ.start,trivial⟩
theorem Bfs.step(g:Good m d)(R:ε m d r a f)(n:0<=r)(o:r<m){t:eu}{k:Nat}(b:Bfs m d r a t k){p:Int}(i:(r::t)[k]?=some p):Bfs m d r a (t++bT m d (front r a p) p) (k+1):=by
 have q:=(ar.mp i).1;have w:(r::t).drop k=p::(r::t).drop (k+1):=by
  rw[cq q];rw[ao q]at i;cases i
  rfl
 have J:=b.J.step g R n o (p:=p) (ws':=(r::t).drop (k+1)) (by rw[w]);have s:=b.J.at_ n o (p:=p) (by rw[w];exact aK);have z:p∈r::t:=aJ i;refine⟨?_,?_⟩
 .rw[<-ft,jQ (by lia)];exact J
 .have:∀(c l:eu),(∀u∈c,u∈bT m d (front r a p) p)->After a [r] l->p∈r::l->After a [r] (l++c):=by
   intro c
   induction c with
   | nil=>intro l _ h _;rw[bJ];exact h
   | cons u c ih=>
     intro l j h v;obtain⟨C,D,B⟩:=(bB g R s.1 s.2).mp (j u aK);have A:After a [r] (l++[u]):=h.snoc (by
      rw[B];rcases aq.mp v with e|e
      .exact .inl (by rw[e];exact aK)
      .exact .inr e)
     have:=ih (l++[u]) (λx y=>j x (aF _ y)) A (by
      rcases aq.mp v with e|e
      .rw[e];exact aK
      .exact aF _ (bq _ e))
     rwa [bW]at this
  exact this _ t (λu j=>j) b.af z
theorem Bfs.done(R:ε m d r a f){t:eu}{k:Nat}(g:(r::t).length<=k)(b:Bfs m d r a t k):Order m r a t:=by
 have J:=b.J;rw[mJ g]at J;refine⟨bf.mpr ⟨J.nr,J.nd⟩,J.Λ,λv c e=>?_,b.af⟩;by_cases z:v=r
 .exact .inl z
 .exact .inr (J.all R v c e z)
end
end Pb
namespace L2
open PySem PySem.Spec PyProof.Rows
theorem Gf{P:Program}{w:World}{A:Around}{l:Addr}(c:Bool){it:Addr}(n:A.handled=none)(ne:l≠it)(a:Array Value):Draws P w A it [it,l] a.size (λi v=>a[i]?=some v) (λi h=>zAt l c it i h/\Lv l c h a) where
 live:=λi h st=>let ⟨o,e,_⟩:=(j6 l c P w).obj _ _ _ st.1;⟨o,e⟩
 frame:=λi h b st k=>⟨(j6 l c P w).atK _ _ _ _ st.1 λo e=>k it (by simp) o e,(j6 l c P w).X6 _ _ _ st.2 λo e=>k l (by simp) o e⟩
 item:=λi s Q E j st f=>(j6 l c P w).item A s it i a a[i] Q E st.1 st.2 (by simp[j]) λb d g=>f a[i] b s.toks (by simp[j]) ⟨d,(j6 l c P w).X6 _ _ _ st.2 λo e=>g.extBut _ _ ne e⟩ g
 done:=λs Q E st f=>(j6 l c P w).fin A s it a.size a Q E n st.1 st.2 (by simp) λb e p m=>f b e p m
section
variable{P:Program}{w:World}{A:Around}{E:f5}{s:Shared}{l:Addr}{f:Obj}{a:Heap->Array Value->Prop}{i:Addr->Nat->Heap->Prop}
abbrev Fn(n:Nat):Obj:={ cls:=.type "enumerate",data:=.fields #[.none,.bool false,.ref n,rawInt 0,.none,.none] }
theorem DE(S:∀P w,Bv P w l f a i)(k:Array Value):Meets (Builtin.«enumerate.__new__» ⟨[.type "enumerate",.ref l],[]⟩) (λ_ R s=>a s.heap k/\R (.ok (.ret (.ref (s.heap.push f).objs.size))) { s with heap:=(s.heap.push f).push (Fn s.heap.objs.size) }):=.of_wp λe w A R s j=>by
 obtain⟨m,g,d,p,os⟩:=s;obtain⟨q,r⟩:=j;have o:=sub_enumerate;have h:a (Shared.heap ⟨m,g,d,p,os⟩) k:=q
 wp_walk using ((S e w).start _ _ _ _ _ h)
 refine wpAny_stack_any λst=>?_;dsimp only;refine bh ?_;have n:∀b:Bool,b=true\/b=false:=λb=>by cases b<;>simp
 split
 .rename_i c _ _ _ _ _
  rcases n (c==Value.type "enumerate")with z|z
  .rw[z]
   wp_walk using ((S e w).start _ _ _ _ _ h)
   exact⟨_,rfl,r⟩
  .rw[z]
   wp_walk using ((S e w).start _ _ _ _ _ h)
   exact⟨_,rfl,r⟩
 .wp_walk using ((S e w).start _ _ _ _ _ h)
  exact⟨_,rfl,r⟩
theorem MS(S:∀P w,Bv P w l f a i){k:Array Value}{Q:f5}(n:a s.heap k)(m:f.isFreed=false)(h:∀b,IsEnum b (s.heap.objs.size+1) s.heap.objs.size 0 .none->i s.heap.objs.size 0 b->(∀c o,s.heap.get? c=some o->b.get? c=some o)->Q (.ref (s.heap.objs.size+1)) { s with heap:=b }):wpAny (model P w) A (call (.type "enumerate") [.ref l]) Q E s:=by
 refine callType_new F.called_enumerate (by decide) (F.typeCall_enumerate_1 _) (F.newCall_enumerate_1 _) (λg=>F.args_object_init_2 g _) F.entry_enumerate_new (DE S k) ⟨n,?_⟩;have j:(s.heap.push f).objs.size=s.heap.objs.size+1:=dF ..;have d:((s.heap.push f).push (Fn s.heap.objs.size)).get? (s.heap.push f).objs.size=some (Fn s.heap.objs.size):=bc _ rfl;have p:((s.heap.push f).push (Fn s.heap.objs.size)).get? s.heap.objs.size=some f:=aA _ (bc _ m);show _/\_;rw[j]at d;rw[j];exact⟨⟨_,d,rfl⟩,h _ d ((S P w).first _ _ p) λc o e=>aA _ (aA _ e)⟩
end
def Ite(K:gh)(c:Bool)(a:Addr):It:=⟨λi H=>∃b x,ϣ K c H a b/\b[i]?=some x,λi H v d=>∃p x,H p=none/\v=.ref p/\d=upd H p (.tup [.int i,x])/\∀b,ϣ K c H a b->b[i]?=some x,λi H=>∃b,ϣ K c H a b/\b.length=i⟩
theorem MG{P:Program}{w:World}{K:gh}{G:List Expr}{x1}{W6:Pos}(c:Bool)(a e it:Addr)(ne:e≠it)(ae:a≠e)(ai:a≠it):Turn P w K (.Tuple G x1 W6) (Ite K c a) [e,it] e (λi h=>(∃y,IsEnum h e it (i:Nat) y)/\zAt a c it i h) where
 mem:=by simp
 obj:=λi h t b hb=>by
  obtain⟨⟨y,t1⟩,F⟩:=t;simp only[aq,dN,or_false]at hb;rcases hb with rfl|rfl
  .exact⟨_,t1,λv z=>by cases z⟩
  .exact(j6 a c P w).obj _ _ _ F
 keep:=λi h M t k=>by
  obtain⟨⟨y,t1⟩,F⟩:=t;exact⟨⟨y,k e (by simp) _ t1⟩,(j6 a c P w).atK _ _ _ _ F λo e=>k it (by simp) o e⟩
 item:=λX e1 e2 e3 hc i B s σ H E I f t g=>by
  subst e1 e2 e3;obtain⟨⟨y,t1⟩,F⟩:=t;obtain⟨V,x,s1,Y⟩:=g;obtain⟨J,r1,q1⟩:=I.XR s1;obtain⟨xu,N,rx⟩:=r1.get Y;have hh:X.A.in1.handled=none:=I.ok.hd hc;have D:∀q∈[e,it],pO X B H q:=f;have W:=WalksT.enumerateD (A:=X.A) (Gf (P:=X.prog) (w:=X.w) (A:=X.A.in1) (l:=a) c (it:=it) hh ai J.toArray) e ne (by simp;exact⟨ne,ae.symm⟩) (by simp);have Zf:i<J.toArray.size:=by
   have:=(ar.mp N).1
   simpa using this
  refine W.item i s _ _ Zf ⟨⟨y,t1⟩,F,q1⟩ λT a6 M tk pt le tup O keep=>?_;refine⟨_,rfl,W.go G x1 W6 i T { s with heap:=M,toks:=tk } _ _ O λh2 Zw U=>?_⟩;obtain⟨tt,xv,px,ev⟩:=pt;have a2:xv=xu:=by
   have h1:J[i]?=some xv:=(by simpa using px);rw[N]at h1;cases h1
   rfl
  subst a2;have Tw:T∉[e,it]:=W.apart i T M O;have kp:∀q o,q∉[e,it]->s.heap.get? q=some o->h2.get? q=some o:=λq o d eo=>U q o d (keep q o d eo);obtain⟨ot,ht,ad,nt,am⟩:=tup;have new:h2.get? T=some ot:=U T ot Tw ht;have R:∀q u,H q=some u->q∉[e,it]:=λq u e d=>by rw[(D q d).1]at e;cases e
  have L:H T=none:=I.χ.fresh le;have Z:∀q o,s.heap.get? q=some o->q≠T:=λq o eo=>aX (aY (aI eo) le);have C:Inv X B σ H { s with heap:=h2,toks:=tk }:=by
   refine I.step (g':=s.gens) (d':=s.drawn) (t':=tk) (ch:=[e,it]) (λq d=>⟨(D q d).2.2.2.1,(D q d).2.1,(D q d).2.2.2.2.1,(D q d).2.2.2.2.2⟩) (λq o _ _ d e _=>kp q o d e) (λq o _ _ d e _=>⟨o.slots,kp q o d e⟩) (λ_ _ _ _ n=>n)
    (λq o d e=>⟨o,kp q o d e⟩) (λ_ _ e=>e) (λ_ _ _ e=>e) (λq ps e=>⟨#[],by rw[e];simp⟩) (λm hm=>?_) (λq u e=>?_) I.bare
   .obtain⟨o,es,ep,ho,r⟩:=hm;exact⟨o,es,ep,kp _ o (λd=>(D _ d).2.1 rfl) ho,r⟩
   .refine(I.χ q u e).gT (λS v W8 j=>kp S v ?_ j) (λ_ j=>j) λ_ _ j=>j;rcases W8 with rfl|W8
    .exact R _ u e
    .exact R _ _ W8
  have I3:Inv X B σ (upd H T (.tup [.int i,x])) { s with heap:=h2,toks:=tk }:=by
   refine⟨C.ok,C.os,C.bare,?_,C.loc,C.cell,?_,λn c e=>?_,λp hp=>?_,λq u e=>?_,C.len⟩
   .refine⟨C.base.keep,C.base.slot,λq o e n Y=>?_,C.base.there,λq V e=>?_,λq o u e=>?_,λq ps e=>?_⟩
    .have lt:q<X.s₀.heap.objs.size:=aI e;rw[aP (aX (aY lt (aN I.sz le)))];exact C.base.free q o e n Y
    .have j:=C.base.iD q V e;rw[aP (λz=>by rw[z,L]at j;cases j)];exact j
    .have j:=C.base.ϸ q o u e;rw[aP (λz=>by rw[z,L]at j;cases j)];exact j
    .obtain⟨more,j⟩:=C.base.iF q ps e;exact⟨more,by rw[aP (λz=>by rw[z,L]at j;cases j)];exact j⟩
   .rw[aP (aX (aY I.lt le))];exact C.free
   .obtain⟨vv,o,ho,_⟩:=I.cell n c e;rw[aP (Z _ _ ho)];exact C.ϊ n c e
   .obtain⟨k1,k2,k3⟩:=I.pin p hp;rw[aP (Z _ _ k1)];exact C.pin p hp
   .by_cases d:q=T
    .subst d;rw[aw]at e;cases e;refine⟨by show 2<=sizeLine;decide,[.int (i:Nat) tt,xv],.cons ⟨tt,rfl⟩ (.cons rx .nil),ot,new,ad,nt,?_⟩;rw[am,ev]
    .rw[aP d]at e;refine(C.χ q u e).gT (λ_ _ _ j=>j) (λS j=>?_) λS V j=>?_
     .rw[aP (λz=>by rw[z,L]at j;cases j)];exact j
     .rw[aP (λz=>by rw[z,L]at j;cases j)];exact j
  refine⟨.ref T,_,I3,rfl,⟨T,x,L,rfl,rfl,λbS q=>?_⟩,⟨Zw.1,Zw.2.1⟩,λq d=>?_⟩
  .rw[<-I.X7 s1 q];exact Y
  .have Χ:q≠T:=by
    simp only[aq,dN,or_false]at d;rcases d with rfl|rfl
    .exact Z _ _ t1
    .exact let ⟨o,e,_⟩:=(j6 a c X.prog X.w).obj _ _ _ F;Z _ _ e
   rw[aP Χ];exact(D q d).1
 done:=λX e1 e2 e3 hc i B s σ H E I f t g=>by
  subst e1 e2 e3;obtain⟨⟨y,t1⟩,F⟩:=t;obtain⟨V,s1,bi⟩:=g;obtain⟨J,r1,q1⟩:=I.XR s1;have hh:X.A.in1.handled=none:=I.ok.hd hc;have D:∀q∈[e,it],pO X B H q:=f;have W:=WalksT.enumerateD (A:=X.A) (Gf (P:=X.prog) (w:=X.w) (A:=X.A.in1) (l:=a) c (it:=it) hh ai J.toArray) e ne (by simp;exact⟨ne,ae.symm⟩) (by simp);have ei:i=J.toArray.size:=by
   have:=r1.length;simp
   lia
  subst ei;refine W.done s _ _ ⟨⟨y,t1⟩,F,q1⟩ λM tk keep=>⟨rfl,?_⟩;have kp:∀q o,q∉[e,it]->s.heap.get? q=some o->M.get? q=some o:=λq o d e=>keep q o d e;have R:∀q u,H q=some u->q∉[e,it]:=λq u e d=>by rw[(D q d).1]at e;cases e
  refine I.step (g':=s.gens) (d':=s.drawn) (t':=tk) (ch:=[e,it]) (λq d=>⟨(D q d).2.2.2.1,(D q d).2.1,(D q d).2.2.2.2.1,(D q d).2.2.2.2.2⟩) (λq o _ _ d e _=>kp q o d e) (λq o _ _ d e _=>⟨o.slots,kp q o d e⟩) (λ_ _ _ _ n=>n)
   (λq o d e=>⟨o,kp q o d e⟩) (λ_ _ e=>e) (λ_ _ _ e=>e) (λq ps e=>⟨#[],by rw[e];simp⟩) (λm hm=>?_) (λq u e=>?_) I.bare
  .obtain⟨o,es,ep,ho,r⟩:=hm;exact⟨o,es,ep,kp _ o (λd=>(D _ d).2.1 rfl) ho,r⟩
  .refine(I.χ q u e).gT (λS v W8 j=>kp S v ?_ j) (λ_ j=>j) λ_ _ j=>j;rcases W8 with rfl|W8
   .exact R _ u e
   .exact R _ _ W8
 self:=λA i s Q E t q=>by
  obtain⟨⟨y,t1⟩,F⟩:=t;exact wpAny_pyIter_enum t1 q
def Kx(K:gh)(c:Bool)(e:TE):TI:=λd H R=>e d H λx b=>∃a,x=.ref a/\(∃f,ϣ K c b a f)/\R (Ite K c a) b
section
variable{X:Cx}{e:Expr}{f:TE}{g d:Pos}
theorem yq{k:List Expr}{x1}{W6:Pos}(c:Bool)(hg:Gl X "enumerate")(hm:X.mg "enumerate"=none)(he:PE X e f)(h2:starEach [e] X.env=[(false,eval e X.env)]:=by rfl):PI X (.Tuple k x1 W6) (.Call (.Name "enumerate" g) [e] [] d) (Kx X.K c f):=by
 intro i s y H R I h;refine Call_ (pG I hg hm boot_enumerate (cL ?_ h2 rfl));rw[h2];show wpAny _ _ (spliced ((false,eval e X.env)::backTo d [])) _ _ s;refine gL (dX (he i s y H _ I h) λu l x w m r n=>gW ?_);obtain⟨a,C,⟨E,z⟩,q⟩:=n;subst C;cases r;obtain⟨F,r,n⟩:=m.XR z;obtain⟨D,o⟩:=sU a c _ _ n;have p:=aI o;refine MS (j6 a c) n (xx a c) λG t A B=>?_;refine wpAny_pyIter_enum t ?_;refine⟨_,[l.heap.objs.size+1,l.heap.objs.size],_,_,w,rfl,m.kept (t':=l.toks) B,MG c a _ _ (Nat.succ_ne_self _) (aX (gN p)) (aX p),⟨⟨_,t⟩,A⟩,λb v=>?_,q⟩;have j:l.heap.objs.size<=b:=by
  simp only[aq,dN,or_false]at v;rcases v with rfl|rfl
  .exact fK _
  .exact ax _
 exact m.Zz j (m.χ.fresh j)
end
theorem Ax{K:gh}{c:Bool}{a:Addr}{xs:List V}{g:TG}{n:TS}{D:Ends}{b:St}{H:Hp}(f:Nat->St->Hp->Prop)(B:f 0 b H)(u:∀i b H,f i b H->ϣ K c H a xs)(w:∀(i:Nat) (x:V) (b:St) (H:Hp) (p:Addr) (N:St->Hp->Prop),(∀d h,f (i+1) d h->N d h)->xs[i]?=some x->f i b H->H p=none->g (.ref p) b (upd H p (.tup [.int i,x])) λj A=>n { D with nx:=N,ct:=N,bk:=D.nx } j A)(v:∀b H,f xs.length b H->D.nx b H):sO (Ite K c a) D g n b H:=by
 refine⟨λi m b H=>m=xs.length-i/\i<=xs.length/\f i b H,⟨_,rfl,bx _,B⟩,?_⟩;rintro i m b H ⟨rfl,C,p⟩;have l:=u i b H p;by_cases q:i<xs.length
 .refine .inr ⟨⟨xs,xs[i],l,ao q⟩,λd h=>∃o,o<xs.length-i/\(o=xs.length-(i+1)/\i+1<=xs.length/\f (i+1) d h),λd h z=>z,λx h y=>?_⟩;obtain⟨k,t,s,rfl,rfl,r⟩:=y;exact w i t b H k _ (λd h k=>⟨xs.length-(i+1),by lia,rfl,q,k⟩) (r xs l) p s
 .have e:i=xs.length:=by lia
  subst e;exact .inl ⟨⟨xs,l,rfl⟩,v b H p⟩
end L2
namespace Pb
open L2 PySem
theorem JI{f e:Type}{R:f->e->Prop}{a:f}{b:e}(h:R a b):∀{d:List f}{c:List e},Paired R d c->Paired R (d++[a]) (c++[b])
 | _,_,.nil=>.cons h .nil
 | _,_,.cons x xs=>.cons x (JI h xs)
def DI(a:eu):PyData:=.tuple (a.map PyData.int)
theorem iS{K:gh}{H:Hp}{q:Addr}{a:eu}(h:H q=some (.tup (a.map V.int))):ϱ K H (.ref q) (DI a):=.tup (Ι.of h) (qK a)
theorem XW(a:eu):(DI a).depth<=2:=by
 unfold DI;have:=pK a;simp only[PyData.depth]
 lia
end Pb
namespace Pb
open L2
section
variable{m:Int}{i:hT}{r:Int}{g:fc}{b:fz}{a d:fc}{e:hR}
theorem oQ{f h:fc}{l:eu}(j:∀c∈l,f c=h c):(l.map f).sum=(l.map h).sum:=by rw[bX j]
end
end Pb
namespace L2
open PySem PySem.Spec PyProof.Rows
theorem GD(a:List V){k:Int}(e:0<=k):xJ a (some k) none=a.drop k.toNat:=by
 unfold xJ;have b:HT.XQ a.length a.length none=a.length:=rfl;have d:HT.XQ a.length 0 (some k)=min k.toNat a.length:=by
  show(if k<0 then(k+(a.length:Int)).toNat else min k.toNat a.length)=_;rw[ah (by lia)]
 rw[b,d,df (by rw[ee];lia)];by_cases c:k.toNat<=a.length
 .rw[Nat.min_eq_left c]
 .rw[Nat.min_eq_right (by lia),mz (ax _),mz (by lia)]
end L2
namespace Pb
open L2 PySem
section
variable{m:Int}{d:hT}{r b:Int}{a:fc}{c:fz}
def Dl(a:fc)(b:Int):Nat->Int->Bool
 | 0,v=>decide (v=b)
 | n+1,v=>decide (v=b)||Dl a b n (a v)
def ben(a:fc)(c:fz)(b v:Int):Bool:=Dl a b (c v) v
theorem NR(R:ε m d r a c){v:Int}(e:0<=v)(f:v<m)(g:v≠r):ben a c b v=(decide (v=b)||ben a c b (a v)):=by
 unfold ben;rw[R.pos e f g]
 rfl
end
end Pb
namespace L2
theorem cU{A B:TS}{D:Ends}{b:St}{H:Hp}(h:∀N:St->Hp->Prop,(∀a c,B D a c->N a c)->A { D with nx:=N } b H):KC A B D b H:=h (B D) λ_ _ z=>z
end L2
namespace L2
open PySem
theorem mL{K:gh}{a:Addr}{xs:List V}{g:TG}{f:TS}{D:Ends}{b:St}{H:Hp}(d:Nat->St->Hp->Prop)(o:d 0 b H)(l:∀i b H,i<=xs.length->d i b H->μ K H a xs)(n:∀(i:Nat) (x:V) (b:St) (H:Hp) (N B:St->Hp->Prop),(∀b H,(g x b H λc h=>f { D with nx:=N,ct:=N,bk:=D.nx } c h)->B b H)->(∀e j,d (i+1) e j->N e j)->xs[i]?=some x->d i b H->B b H)(m:∀(B:St->Hp->Prop) b H,(∀b H,D.nx b H->B b H)->d xs.length b H->B b H):sO (Itl K a) D g f b H:=uy d o l (λi x b H N q k p=>n i x b H N (λb H=>g x b H λc h=>f { D with nx:=N,ct:=N,bk:=D.nx } c h) (λ_ _ z=>z) q k p) λb H p=>m (λb H=>D.nx b H) b H (λ_ _ z=>z) p
theorem J7{lo:Int}{n:Nat}{g:TG}{e:TS}{D:Ends}{a:St}{H:Hp}(c:Nat->St->Hp->Prop)(m:c 0 a H)(k:∀(i:Nat) (a:St) (H:Hp) (N B:St->Hp->Prop),(∀a H,(g (.int (lo+i)) a H λb f=>e { D with nx:=N,ct:=N,bk:=D.nx } b f)->B a H)->(∀d h,c (i+1) d h->N d h)->i<n->c i a H->B a H)(j:∀(B:St->Hp->Prop) a H,(∀a H,D.nx a H->B a H)->c n a H->B a H):sO (Itr lo n) D g e a H:=sF c m (λi a H N o l p=>k i a H N (λa H=>g (.int (lo+i)) a H λb f=>e { D with nx:=N,ct:=N,bk:=D.nx } b f) (λ_ _ z=>z) o l p) λa H p=>j (λa H=>D.nx a H) a H (λ_ _ z=>z) p
theorem C9{c:TT}{h:TS}{D:Ends}{d:St}{H:Hp}(W:Nat->St->Hp->Prop)(j:Nat)(m:W j d H)(l:∀(n:Nat) (d:St) (H:Hp) (N:St->Hp->Prop) (B:Nat->St->Hp->Prop),(∀n d H,(c d H λb g=>if b=true then ∃N:St->Hp->Prop,(∀a e,N a e->∃f,f<n/\W f a e)/\h { D with nx:=N,ct:=N,bk:=D.nx } d g else D.nx d g)->B n d H)->(∀i a e,i<n->W i a e->N a e)->(∀a e,N a e->∃f,f<n/\W f a e)->W n d H->B n d H):FJ c h D d H:=vy W j m λn d H N o k w=>l n d H N (λn d H=>c d H λb g=>if b=true then ∃N:St->Hp->Prop,(∀a e,N a e->∃f,f<n/\W f a e)/\h { D with nx:=N,ct:=N,bk:=D.nx } d g else D.nx d g) (λ_ _ _ z=>z) o k w
theorem an4{d b c a:Prop}(e:d)(h:b)(g:c)(f:a):d/\b/\c/\a:=⟨e,h,g,f⟩
theorem an6{f c d a e b:Prop}(g:f)(l:c)(k:d)(i:a)(j:e)(h:b):f/\c/\d/\a/\e/\b:=⟨g,l,k,i,j,h⟩
theorem an7{g c e a f b d:Prop}(h:g)(n:c)(m:e)(k:a)(l:f)(i:b)(j:d):g/\c/\e/\a/\f/\b/\d:=⟨h,n,m,k,l,i,j⟩
end L2
namespace Pb
open L2 PySem
section
variable{m:Int}{e:hT}{r b:Int}{a:fc}{d:fz}
theorem JD:∀(n:Nat)(v:Int),Dl a b n v=decide (b∈nG a n v)
 | 0,v=>by
   show decide (v=b)=decide (b∈[v]);exact iX.mpr ⟨λz=>by rw[z];exact aK,λz=>(aE.mp z).symm⟩
 | n+1,v=>by
   show(decide (v=b)||Dl a b n (a v))=decide (b∈v::nG a n (a v));rw[JD n (a v)];by_cases c:v=b
   .rw[ba c,Bool.true_or,ba (by rw[c];exact aK)]
   .rw[bw c,nQ];exact iX.mpr ⟨λz=>aF _ z,λz=>by
     rcases aq.mp z with z|z
     .exact absurd z.symm c
     .exact z⟩
end
section
variable{m:Int}{j:hT}{r b:Int}{a:fc}{d:fz}
theorem Rr:∀(k:Nat)(x:Int),up a (k+1) x=up a k (a x)
 | 0,_=>rfl
 | k+1,x=>by show a (up a (k+1) x)=a (up a k (a x));rw[Rr k x]
theorem zm:∀(n k:Nat)(x:Int),k<=n->up a k x∈nG a n x
 | 0,0,x,_=>aK
 | n+1,0,x,_=>aK
 | n+1,k+1,x,h=>by
   rw[Rr];exact aF _ (zm n k (a x) (by lia))
theorem Jr{f:Int->List Int}:∀{l:eu}{k:Nat}{p:Int},(l.flatMap f)[k]?=some p->∃u∈l,∃e rest,(f u)[e]?=some p/\(l.flatMap f).drop k=(f u).drop e++rest
 | [],k,p,h=>by simp at h
 | u::l,k,p,h=>by
   rw[bD]at h ⊢;by_cases c:k<(f u).length
   .rw[c8 c]at h;exact⟨u,aK,k,l.flatMap f,h,jQ (je c)⟩
   .rw[cT (by lia)]at h;obtain⟨w,g,e,rest,n,i⟩:=Jr h;refine⟨w,aF _ g,e,rest,n,?_⟩;rw[<-i,List.drop_append,mJ (by lia),fW]
theorem Nx(g:Good m j)(R:ε m j r a d):∀(n:Nat)(v:Int),m.toNat-1-d v=n->0<=v->v<m->∀(k:Nat)(p:Int),(bO m j r a d v)[k]?=some p->∃rest,(bO m j r a d v).drop k=bO m j r a d p++rest:=by
 intro n
 induction n with
 | zero=>
   intro v l i f k p h;have e:bO m j r a d v=[v]:=by unfold bO;rw[l];rfl
   cases k with
   | zero=>
     have:p=v:=(by rw[e]at h;exact(br h).symm);rw[this];exact⟨[],by rw[bJ];rfl⟩
   | succ k=>rw[e]at h;simp at h
 | succ n ih=>
   intro v l i f k p h;have e:=fM g R i f;cases k with
   | zero=>
     have:p=v:=(by rw[e]at h;exact(br h).symm);rw[this];exact⟨[],by rw[bJ];rfl⟩
   | succ k=>
     rw[e,iQ]at h;obtain⟨u,x,y,rest,t,z⟩:=Jr h;obtain⟨c,s,up⟩:=(bB g R i f).mp x;have w:=R.pos c.1 c.2 s;rw[up]at w;have dl:=lC R c.1 c.2;obtain⟨o,q⟩:=ih u (by lia) c.1 c.2 y p t;exact⟨o++rest,by rw[e,j5,z,q,bW]⟩
theorem Aa(g:Good m j)(R:ε m j r a d){v:Int}(c:0<=v)(e:v<m):v∈bO m j r a d v:=by
 rw[fM g R c e];exact aK
theorem SD(g:Good m j)(R:ε m j r a d){p:Int}(l:0<=p)(f:p<m)(x:Int):x∈bO m j r a d p↔(0<=x/\x<m)/\ben a d p x=true:=by
 constructor
 .intro h;obtain⟨c,k,v,q⟩:=(oX g R _ p l f).2 x h;refine⟨c,?_⟩;unfold ben;rw[JD];refine ba ?_;rw[<-q];exact zm _ _ _ (by lia)
 .rintro⟨c,h⟩;generalize t:d x=n
  induction n generalizing x with
  | zero=>
    by_cases z:x=r
    .subst z;have:p=x:=by
      unfold ben at h;rw[R.root]at h;exact(bZ h).symm
     rw[this];exact Aa g R c.1 c.2
    .have:=R.pos c.1 c.2 z
     lia
  | succ n ih=>
    have z:x≠r:=λz=>by rw[z,R.root]at t;lia
    have u:=R.up x c.1 c.2 z;rw[NR R c.1 c.2 z]at h;by_cases y:x=p
    .rw[y];exact Aa g R l f
    .rw[bw y,nQ]at h;have o:=ih (a x) u.1 h (by lia);obtain⟨k,s⟩:=cR o;obtain⟨rest,e⟩:=Nx g R _ p rfl l f k _ s;refine cj (i:=k) ?_;rw[e,fM g R u.1.1 u.1.2];refine bq _ (aF _ (eY.mpr ⟨x,(bB g R u.1.1 u.1.2).mpr ⟨c,z,rfl⟩,Aa g R c.1 c.2⟩))
end
end Pb
namespace L2
open PySem
def Wf(_ j:Int):Prop:=0<j/\j.natAbs.log2<9000
theorem wq{X:Cx}:Ϻ X (binaryOp .FloorDiv) (rI Wf λi j=>.int (i/j)):=opI λi j _ _ _ _ _ a q=>by
 have b:(0:Int)<j:=a.1;exact PyProof.Rows.floordiv_int (by lia) (by rw[kL i (by lia)];exact q) (.inl (PyProof.noPylong_of_log2 a.2))
end L2
namespace Pb
open PySem L2
def vPr(r:Int)(a:fc)(v:Int):List V:=[.int v,front r a v]
abbrev Α(H:Hp)(r:Int)(a:fc):List Addr->List Int->Prop:=Paired λq v=>H q=some (.tup (vPr r a v))
theorem Α.same{H c:Hp}{r:Int}{a:fc}{d:g8}{b:eu}(e:δ H c)(h:Α H r a d b):Α c r a d b:=Paired.imp' (λq v x=>e q _ x) h
theorem Α.get{H:Hp}{r:Int}{c:fc}:∀{d:g8}{f:eu}{i:Nat}{x:V},Α H r c d f->(d.map V.ref)[i]?=some x->∃p v,x=.ref p/\d[i]?=some p/\f[i]?=some v/\H p=some (.tup (vPr r c v))
 | _,_,i,x,.nil,e=>by simp at e
 | _,_,0,x,.cons (a:=p) (b:=r) h hs,e=>⟨p,r,by simpa using e.symm,by simp,by simp,h⟩
 | a::l1,_,i+1,x,.cons h hs,e=>by
   have j:(List.map V.ref l1)[i]?=some x:=by simpa using e
   obtain⟨p,r,m,g,k,l⟩:=Α.get hs j;exact⟨p,r,m,by simpa using g,by simpa using k,l⟩
theorem Α.snoc{H:Hp}{r:Int}{a:fc}{q:Addr}{v:Int}(e:H q=some (.tup (vPr r a v))):∀{c:g8}{b:eu},Α H r a c b->Α H r a (c++[q]) (b++[v])
 | _,_,.nil=>.cons e .nil
 | _,_,.cons x xs=>.cons x (Α.snoc e xs)
theorem JW{f e:Type}{R:f->e->Prop}{b:List f}{d:List e}(h:Paired R b d):∀{c:List f}{a:List e},Paired R c a->Paired R (c++b) (a++d)
 | _,_,.nil=>h
 | _,_,.cons x xs=>.cons x (JW h xs)
end Pb
set_option exponentiation.threshold 5000
namespace Pb
open L2 PySem
section
variable{m:Int}{q:hT}{r:Int}{d:fc}{o:fz}
def foU(C:hR)(m:Int)(q:hT)(r:Int)(d:fc)(p:fc)(A:hR):Nat->Int->Int
 | 0,v=>p v
 | n+1,v=>((bT m q (front r d v) v).map λc=>A c (foU C m q r d p A n c)).foldl C (p v)
def fo(C:hR)(m:Int)(q:hT)(r:Int)(d:fc)(o:fz)(p:fc)(A:hR)(v:Int):Int:=foU C m q r d p A (m.toNat-1-o v) v
variable{C:hR}{p:fc}{A:hR}
theorem vP(g:Good m q)(R:ε m q r d o){v:Int}(h:0<=v)(k:v<m):fo C m q r d o p A v=((bT m q (front r d v) v).map λc=>A c (fo C m q r d o p A c)).foldl C (p v):=by
 have f:∀u∈bT m q (front r d v) v,o u=o v+1/\o u+1<=m.toNat:=λu a=>by
  obtain⟨b,i,j⟩:=(bB g R h k).mp a;have:=R.pos b.1 b.2 i;rw[j]at this;exact⟨this,lC R b.1 b.2⟩
 unfold fo;cases e:m.toNat-1-o v with
 | zero=>
   have:bT m q (front r d v) v=[]:=d4.mpr λu a=>by
    have:=f u a
    lia
   rw[this]
   rfl
 | succ n=>
   show List.foldl C (p v) _=_;rw[bX λu a=>show A u (foU C m q r d p A n u)=A u (foU C m q r d p A (m.toNat-1-o u) u) by rw[show m.toNat-1-o u=n by have:=f u a;lia]]
def zR(C:hR):Prop:=∀a b c,C (C a b) c=C (C a c) b
theorem Nj(c:zR C){l b:eu}(h:l.Perm b):∀a,l.foldl C a=b.foldl C a:=by
 induction h with
 | nil=>exact λ_=>rfl
 | cons x _ ih=>exact λa=>ih _
 | swap x y l=>intro a;show List.foldl C (C (C a y) x) l=List.foldl C (C (C a x) y) l;rw[c]
 | trans _ _ h1 h2=>exact λa=>(h1 a).trans (h2 a)
theorem Ji(b:zR C):∀(l:eu)(a x:Int),l.foldl C (C a x)=C (l.foldl C a) x
 | [],a,x=>rfl
 | y::l,a,x=>by show l.foldl C (C (C a x) y)=C (l.foldl C (C a y)) x;rw[b,Ji b l]
def uo(C:hR)(d:fc)(A:hR)(a:eu)(v:Int):List Int:=a.set (d v).toNat (C (a.getD (d v).toNat 0) (A v (a.getD v.toNat 0)))
structure ϳ(C:hR)(m:Int)(q:hT)(r:Int)(d:fc)(o:fz)(p:fc)(A:hR)(t cs:eu):Prop where
 len:(cs.length:Int)=m
 val:∀v,0<=v->v<m->cs.getD v.toNat 0=((t.filter λc=>decide (d c=v)).map λc=>A c (fo C m q r d o p A c)).foldl C (p v)
theorem ϳ.nil{a:eu}(h:(a.length:Int)=m)(e:∀v,0<=v->v<m->a.getD v.toNat 0=p v):ϳ C m q r d o p A [] a:=⟨h,λv b c=>e v b c⟩
theorem ϳ.full(e:zR C)(g:Good m q)(R:ε m q r d o){t c:eu}(s:ϳ C m q r d o p A t c)(h:t.Nodup)(i:∀x∈t,(0<=x/\x<m)/\x≠r){v:Int}(a:0<=v)(b:v<m)(f:∀k,0<=k->k<m->k≠r->d k=v->k∈t):c.getD v.toNat 0=fo C m q r d o p A v:=by
 rw[s.val v a b,vP g R a b,Nj e ((zw g R h i a b f).map _)]
theorem ϳ.step(h:zR C)(g:Good m q)(R:ε m q r d o){t a:eu}(s:ϳ C m q r d o p A t a){v:Int}(f:0<=v)(i:v<m)(hr:v≠r)(e:a.getD v.toNat 0=fo C m q r d o p A v):ϳ C m q r d o p A (v::t) (uo C d A a v) where
 len:=by unfold uo;rw[dB];exact s.len
 val:=λu u0 u1=>by
  have k:=(R.up v f i hr).1;have j:=s.len;have b:=s.val u u0 u1;unfold uo;rw[e];by_cases c:d v=u
  .have hl:u.toNat<a.length:=(by lia);rw[gH (by simpa using c),az,List.foldl_cons,Ji h,<-b,c];simp[List.getD,hl]
  .rw[fF (by simpa using c),<-b];have:(d v).toNat≠u.toNat:=(by lia);simp[List.getD,dZ this]
theorem Order.cut(R:ε m q r d o){t:eu}(O:Order m r d t){i:Nat}{v:Int}(a:t.reverse[i]?=some v):((0<=v/\v<m)/\v≠r)/\t.drop (t.length-(i+1))=v::t.drop (t.length-i)/\(t.drop (t.length-i)).Nodup/\(∀x∈t.drop (t.length-i),(0<=x/\x<m)/\x≠r)/\∀k,0<=k->k<m->k≠r->d k=v->k∈t.drop (t.length-i):=by
 have G:i<t.length:=by
  have:=(ar.mp a).1
  rwa [aU]at this
 rw[b7 G]at a;generalize H:t.length-1-i=j at a;have F:t.length-i=j+1:=by lia
 have g:t.length-(i+1)=j:=by lia
 rw[F,g];have b:j<t.length:=by lia
 have B:v∈t:=aJ a;have l:=O.places v B;have y:t.drop j=v::t.drop (j+1):=by
  rw[cq b];rw[ao b]at a;cases a
  rfl
 have h:t=t.take j++v::t.drop (j+1):=by rw[<-y,cw]
 have e:=(bf.mp O.nd).2;have c:=e;rw[h]at c;have E:v∉t.take j:=λz=>(dC.mp c).2.2 v z v aK rfl;refine⟨l,y,e.sublist (List.drop_sublist _ _),λx D=>O.places x (cj D),λk u n s f=>?_⟩;rcases O.all k u n with z|z
 .exact absurd z s
 .rw[h]at z;rcases aV.mp z with z|z
  .have af:=O.af;rw[h]at af;rcases af.up k z with w|w
   .rw[f]at w;exact absurd (aE.mp w) l.2
   .rw[f]at w;exact absurd w E
  .rcases aq.mp z with z|z
   .subst z;exact absurd f (R.ne u n s)
   .exact z
theorem Order.acb(c:zR C)(g:Good m q)(R:ε m q r d o){t b:eu}(O:Order m r d t){i:Nat}{v:Int}(s:ϳ C m q r d o p A (t.drop (t.length-i)) b)(f:t.reverse[i]?=some v):((0<=v/\v<m)/\v≠r)/\b.getD v.toNat 0=fo C m q r d o p A v/\ϳ C m q r d o p A (t.drop (t.length-(i+1))) (uo C d A b v):=by
 obtain⟨a,j,k,h,l⟩:=O.cut R f;have e:=s.full c g R k h a.1.1 a.1.2 l;exact⟨a,e,by rw[j];exact s.step c g R a.1.1 a.1.2 a.2 e⟩
def foL(C:hR)(m:Int)(q:hT)(r:Int)(d:fc)(o:fz)(p:fc)(A:hR):List Int:=(cY m.toNat).map (fo C m q r d o p A)
theorem fD{v:Int}(a:0<=v)(b:v<m):(foL C m q r d o p A).getD v.toNat 0=fo C m q r d o p A v:=by
 unfold foL;rw[List.getD,aH,f9 (by lia),bn a]
 rfl
theorem mC:(foL C m q r d o p A).length=m.toNat:=by unfold foL;rw[aa,cX]
theorem Order.doneF(c:zR C)(g:Good m q)(R:ε m q r d o){t a:eu}(O:Order m r d t)(s:ϳ C m q r d o p A t a):a=foL C m q r d o p A:=by
 have n:=s.len;refine eX λi=>?_;by_cases h:i<m.toNat
 .have hc:i<a.length:=by lia
  have e:=s.full c g R (bf.mp O.nd).2 O.places (v:=(i:Int)) (by lia) (by lia) λk f j b l=>(O.all k f j).resolve_left b;unfold foL;rw[aH,f9 h];rw[bu,List.getD,ao hc]at e;rw[ao hc];exact congrArg some e
 .rw[bN (by lia),bN (by rw[mC];lia)]
def mx(i j:Int):Int:=if j>i then j else i
theorem yt:zR mx:=λa b c=>by
 have h:∀x y,mx x y=max x y:=λx y=>by unfold mx;lia
 rw[h,h,h,h]
 lia
def bor(q:hT)(d:fc)(v x:Int):Int:=x*(c9 q v (d v)).getD 1
abbrev ν(m:Int)(q:hT)(r:Int)(d:fc)(o:fz):Int->Int:=fo mx m q r d o (λ_=>1) (bor q d)
abbrev cJ(m:Int)(q:hT)(r:Int)(d:fc)(o:fz):List Int:=foL mx m q r d o (λ_=>1) (bor q d)
theorem yA{B:Int}:∀(l:eu)(a:Int),a<=B->(∀x∈l,x<=B)->a<=l.foldl mx a/\l.foldl mx a<=B/\∀x∈l,x<=l.foldl mx a
 | [],a,h,_=>⟨bC _,h,λx b=>by cases b⟩
 | y::l,a,h,hl=>by
   have j:=hl y aK;have c:a<=mx a y/\y<=mx a y/\mx a y<=B:=by unfold mx;split<;>lia
   obtain⟨f,g,i⟩:=yA l (mx a y) c.2.2 λx b=>hl x (aF _ b);refine⟨bE c.1 f,g,λx b=>?_⟩;rcases aq.mp b with e|e
   .rw[e];exact bE c.2.1 f
   .exact i x e
theorem BN(g:Good m q)(R:ε m q r d o):∀(n:Nat)(v:Int),0<=v->v<m->1<=foU mx m q r d (λ_=>1) (bor q d) n v/\foU mx m q r d (λ_=>1) (bor q d) n v<=1000000^n
 | 0,v,_,_=>⟨bC _,bC _⟩
 | n+1,v,h0,h1=>by
   have u:(1:Int)<=1000000^n:=Int.pow_pos (by decide);have e:(1000000:Int)^(n+1)=1000000^n*1000000:=Int.pow_succ ..;show 1<=List.foldl mx 1 _/\List.foldl mx 1 _<=_;obtain⟨l,s,_⟩:=yA (B:=1000000^(n+1)) ((bT m q (front r d v) v).map λc=>bor q d c (foU mx m q r d (λ_=>1) (bor q d) n c)) 1 (by lia) λx h=>by
    obtain⟨c,f,rfl⟩:=bz.mp h;obtain⟨a,t,z⟩:=(bB g R h0 h1).mp f;obtain⟨k,j,y,i⟩:=lm g R a.1 a.2 t;obtain⟨w,b⟩:=BN g R n c a.1 a.2;unfold bor;rw[j,e];show _*k<=_;exact dE b i (by lia) (by lia)
   exact⟨l,s⟩
theorem f7(g:Good m q)(R:ε m q r d o){v:Int}(c:0<=v)(f:v<m):1<=ν m q r d o v/\ν m q r d o v<=2^480:=by
 obtain⟨a,b⟩:=BN g R (m.toNat-1-o v) v c f;refine⟨a,bE b ?_⟩;have Θ:=g.Θ;have:(1000000:Int)^(m.toNat-1-o v)<=1000000^24:=by
  have e:m.toNat-1-o v<=24:=by lia
  have h:=Int.ofNat_le.mpr (bP (show 0<1000000 by decide) e);rw[my,my]at h;exact h
 exact bE this (by decide +kernel)
theorem uJ(g:Good m q)(R:ε m q r d o):∀x∈cJ m q r d o,x.natAbs<2^4000:=λx e=>by
 obtain⟨v,c,rfl⟩:=bz.mp e;obtain⟨a,j⟩:=gM.mp c;obtain⟨i,b⟩:=f7 g R a (show v<m by lia);have f:((fo mx m q r d o (λ_=>1) (bor q d) v).natAbs:Int)<=2^480:=by rw[Int.natAbs_of_nonneg (bE (by decide) i)];exact b
 have h:(fo mx m q r d o (λ_=>1) (bor q d) v).natAbs<=2^480:=by exact_mod_cast f
 exact fE h (mK (by decide) (by decide))
theorem B3{w:Int}(c:-(10^60)<=w)(b:w<=10^60):(w-1).natAbs<2^4000:=by
 have a:(w-1).natAbs<=10^60+1:=by lia
 exact fE a (aY (show 10^60+1<2^200 by decide +kernel) (bP (by decide) (by decide)))
def Y5(q:hT)(d:fc)(a:eu)(v:Int):Int:=a.getD v.toNat 0*((c9 q v (d v)).getD 1-1)
def ϡ(m:Int)(q:hT)(r:Int)(d:fc)(a:eu)(w:Int):Int:=a.getD r.toNat 0*(w-1)+(((cY m.toNat).filter λv=>decide (v≠r)).map (Y5 q d a)).sum
theorem Order.sums{t:eu}(O:Order m r d t)(f:fc):(t.map f).sum=(((cY m.toNat).filter λv=>decide (v≠r)).map f).sum:=by
 refine tZ ((ik (bf.mp O.nd).2 ((kC _).filter _) λx=>?_).map f);rw[bG,gM,b4];refine⟨λh=>⟨⟨(O.Λ x h).1,?_⟩,O.ne h⟩,λh=>(O.all x h.1.1 ?_).resolve_left h.2⟩
 .have:=(O.Λ x h).2
  lia
 .have:=h.1.2
  lia
theorem Order.Yz{t:eu}(O:Order m r d t)(a:0<=r)(b:r<m):t.length+1=m.toNat:=by
 have h:=(ik O.nd (kC m.toNat) λx=>by
  rw[aq,gM];refine⟨λh=>?_,λh=>O.all x h.1 (by have:=h.2;lia)⟩;rcases h with h|h
  .rw[h];exact⟨a,by lia⟩
  .have:=O.Λ x h;exact⟨this.1,by lia⟩).length_eq
 rw[cX,aD]at h;exact h
theorem AB{f:fc}{l:eu}{i:Nat}{v:Int}(h:l[i]?=some v):((l.take (i+1)).map f).sum=((l.take i).map f).sum+f v:=by
 rw[bQ,h,Option.toList_some,aB,eE];simp
structure Slk(m:Int)(q:hT)(d:fc)(t cs:eu):Prop where
 len:(cs.length:Int)=m
 pos:∀v,0<=v->v<m->1<=cs.getD v.toNat 0
 std:∀c∈t,cs.getD c.toNat 0*(c9 q c (d c)).getD 1<=cs.getD (d c).toNat 0
theorem J4{cs:eu}{i:Nat}(h:i<cs.length):cs.getD i 0∈cs:=by
 rw[List.getD,ao h];exact eW h
end
section
variable{m:Int}{n:hT}{r:Int}{j:fc}{p:fz}
def tup(n:hT)(j:fc)(v:Int):Int:=(c9 n v (j v)).getD 1
structure Bea(m:Int)(n:hT)(r:Int)(j:fc)(p:fz)(q:Int->Option Int):Prop where
 no:∀v,0<=v->v<m->q v=none->bT m n (front r j v) v=[]
 hv:∀v b,0<=v->v<m->q v=some b->b∈bT m n (front r j v) v/\ν m n r j p b*tup n j b=ν m n r j p v
theorem gP(g:Good m n)(R:ε m n r j p){v:Int}(a:0<=v)(f:v<m)(e:v≠r):2<=tup n j v/\tup n j v<=1000000:=by
 obtain⟨k,c,b,d⟩:=lm g R a f e;unfold tup;rw[c];exact⟨b,d⟩
theorem El:∀(l:eu)(a:Int),l.foldl mx a=a\/l.foldl mx a∈l
 | [],a=>.inl rfl
 | y::l,a=>by
   show l.foldl mx (mx a y)=a\/l.foldl mx (mx a y)∈y::l;rcases El l (mx a y)with h|h
   .rw[h];unfold mx;by_cases c:y>a
    .rw[aj c];exact .inr aK
    .rw[ah c];exact .inl rfl
   .exact .inr (aF _ h)
theorem xO(g:Good m n)(R:ε m n r j p){v:Int}(q:0<=v)(k:v<m)(z:bT m n (front r j v) v≠[]):∃c∈bT m n (front r j v) v,ν m n r j p c*tup n j c=ν m n r j p v:=by
 have e:ν m n r j p v=((bT m n (front r j v) v).map λc=>bor n j c (ν m n r j p c)).foldl mx 1:=vP g R q k;have a:=El ((bT m n (front r j v) v).map λc=>bor n j c (ν m n r j p c)) 1;rw[<-e]at a;rcases a with h|h
 .exfalso
  obtain⟨c,l,y⟩:=List.exists_cons_of_ne_nil z;have b:c∈bT m n (front r j v) v:=by rw[y];exact aK
  obtain⟨f,u,F⟩:=(bB g R q k).mp b;have s:=gP g R f.1 f.2 u;have o:=f7 g R f.1 f.2;have t:∀x∈(bT m n (front r j v) v).map λc=>bor n j c (ν m n r j p c),x<=2^480*1000000:=λx w=>by
   obtain⟨d,A,rfl⟩:=bz.mp w;obtain⟨i,C,E⟩:=(bB g R q k).mp A;have s:=gP g R i.1 i.2 C;have o:=f7 g R i.1 i.2;show _*tup n j d<=_;exact dE o.2 s.2 (by lia) (by decide +kernel)
  obtain⟨_,_,D⟩:=yA (B:=2^480*1000000) ((bT m n (front r j v) v).map λc=>bor n j c (ν m n r j p c)) 1 (by decide +kernel) t;have:ν m n r j p c*tup n j c<=_:=D _ (bz.mpr ⟨c,b,rfl⟩);rw[<-e,h]at this;have G:(1:Int)*2<=ν m n r j p c*tup n j c:=dE o.1 s.1 (by decide) (by lia)
  lia
 .obtain⟨c,b,ec⟩:=bz.mp h;exact⟨c,b,ec⟩
def ZH(o:Option Int):V:=match o with|none=>.π|some b=>.int b
def ZR(m:Int)(q:Int->Option Int):List V:=(cY m.toNat).map λv=>ZH (q v)
theorem Jx{q:Int->Option Int}{v:Int}(a:0<=v)(b:v<m):ϥ (ZR m q) v=some (ZH (q v)):=by
 refine cB a ?_;unfold ZR;rw[aH,f9 (by lia),bn a]
 rfl
theorem RP{q:Int->Option Int}{v b:Int}(a:0<=v)(d:v<m):(ZR m q).set v.toNat (.int b)=ZR m λx=>if x=v then some b else q x:=by
 refine eX λi=>?_;unfold ZR;by_cases c:i<m.toNat
 .rw[aH,f9 c];by_cases z:v.toNat=i
  .rw[<-z,gG (by rw[aa,cX];lia)];show _=some (ZH (if((v.toNat:Nat):Int)=v then some b else _));rw[aj (by lia)]
   rfl
  .rw[dZ z,aH,f9 c];show some (ZH (q _))=some (ZH (if((i:Nat):Int)=v then some b else _));rw[ah (by lia)]
 .rw[bN (by rw[dB,aa,cX];lia),bN (by rw[aa,cX];lia)]
def oK(m:Int)(n:hT)(r:Int)(j:fc)(p:fz)(t:eu)(v:Int):Option Int:=(t.filter λb=>decide (j b=v/\ν m n r j p b*tup n j b=ν m n r j p v)).getLast?
theorem Mz{t:eu}{v:Int}(h:ν m n r j p v*tup n j v=ν m n r j p (j v)):oK m n r j p (t++[v])=λx=>if x=j v then some v else oK m n r j p t x:=by
 funext x
 unfold oK;rw[cH];by_cases c:x=j v
 .subst c;rw[aj rfl,gH (by simpa using h),mB,jJ]
  rfl
 .rw[ah c,fF (by simp;intro z;exact absurd z.symm c),mB,bJ]
theorem MO{t:eu}{v:Int}(h:¬ν m n r j p v*tup n j v=ν m n r j p (j v)):oK m n r j p (t++[v])=oK m n r j p t:=by
 funext x
 unfold oK;rw[cH,fF (by simp;intro z;rw[<-z];exact h),mB,bJ]
theorem VY(g:Good m n)(R:ε m n r j p){t:eu}(O:Order m r j t):Bea m n r j p (oK m n r j p t) where
 no:=λv f a e=>by
  apply Classical.byContradiction;intro z;obtain⟨c,o,s⟩:=xO g R f a z;obtain⟨c1,c2,q⟩:=(bB g R f a).mp o;have d:c∈t.filter λb=>decide (j b=v/\ν m n r j p b*tup n j b=ν m n r j p v):=bG.mpr ⟨(O.all c c1.1 c1.2).resolve_left c2,ba ⟨q,s⟩⟩;unfold oK at e;rw[iu]at e;rw[e]at d;cases d
 hv:=λv b f a e=>by
  have d:=fL e;obtain⟨h,k⟩:=bG.mp d;obtain⟨l,i⟩:=bZ k;exact⟨(bB g R f a).mpr ⟨O.Λ b h,O.ne h,l⟩,i⟩
variable{q:Int->Option Int}{w:Int}{s:fc}
theorem JZ{x k:Int}(a:2<=k):((x+1)*k-1)/k=x:=by
 rw[show(x+1)*k-1=(k-1)+x*k by rw[eR];lia,jt _ _ (by lia),ji (by lia) (by lia),cW]
theorem AL(f:fc)(h:Int->List Int):∀l:List Int,((l.flatMap h).map f).sum=(l.map λc=>((h c).map f).sum).sum
 | []=>rfl
 | a::l=>by rw[bD,aB,eE,AL f h l,az,aW]
theorem zG(f h:fc):∀l:List Int,(l.map λc=>f c-h c).sum=(l.map f).sum-(l.map h).sum
 | []=>rfl
 | a::l=>by rw[az,az,az,aW,aW,aW,zG f h l];lia
theorem Je(g:Good m n)(R:ε m n r j p){t:eu}(O:Order m r j t):Slk m n j t (cJ m n r j p) where
 len:=by
  have:=g.m1;rw[mC]
  lia
 pos:=λv v0 v1=>by rw[fD v0 v1];exact(f7 g R v0 v1).1
 std:=λc f=>by
  have a:=O.Λ c f;have s:=O.ne f;have u:=R.up c a.1 a.2 s;rw[fD a.1 a.2,fD u.1.1 u.1.2];have hk:c∈bT m n (front r j (j c)) (j c):=(bB g R u.1.1 u.1.2).mpr ⟨a,s,rfl⟩;have e:ν m n r j p (j c)=((bT m n (front r j (j c)) (j c)).map λc=>bor n j c (ν m n r j p c)).foldl mx 1:=vP g R u.1.1 u.1.2;have h:∀x∈(bT m n (front r j (j c)) (j c)).map λc=>bor n j c (ν m n r j p c),x<=2^480*1000000:=λx i=>by
   obtain⟨d,hd,rfl⟩:=bz.mp i;obtain⟨b,k,y⟩:=(bB g R u.1.1 u.1.2).mp hd;have tk:=gP g R b.1 b.2 k;have l:=f7 g R b.1 b.2;show _*tup n j d<=_;exact dE l.2 tk.2 (by lia) (by decide +kernel)
  obtain⟨_,_,o⟩:=yA (B:=2^480*1000000) ((bT m n (front r j (j c)) (j c)).map λc=>bor n j c (ν m n r j p c)) 1 (by decide +kernel) h;have:=o _ (bz.mpr ⟨c,hk,rfl⟩);rw[<-e]at this;exact this
end
end Pb
namespace L2
open PySem PySem.Spec PyProof.Rows PySem.W
section
variable{n:Nat}
variable(a:0<n)
include a
end
end L2
namespace L2
theorem GA{a:Type}[DecidableEq a]{η:List (a×V)}{k:a}{v:V}{p:a×V}(h:p∈iK η k v):p.1=k\/∃q∈η,p.1=q.1:=by
 unfold iK at h;split at h
 .obtain⟨q,hq,e⟩:=bz.mp h;refine .inr ⟨q,hq,?_⟩;rw[<-e];split<;>rfl
 .rcases aV.mp h with h|h
  .exact .inr ⟨p,h,rfl⟩
  .rw[aE.mp h];exact .inl rfl
end L2
namespace Pb
open L2 PySem
theorem F6:∀{z:eu},(∀x∈z,0<=x)->0<=z.sum
 | [],_=>bC 0
 | x::z,h=>by
   have c:=h x (.head _);have b:=F6 λy a=>h y (.tail _ a);rw[aW]
   lia
end Pb
namespace L2
open PySem PySem.Spec PyProof.Rows
theorem Go{j:Int}{n:Nat}(b:j≠0)(h:j.natAbs<2^n)(a:n<=9000):j.natAbs.log2<9000:=aY ((oE (by lia)).mpr h) a
end L2
namespace Pb
open L2 PySem PySem.W NumText
theorem _root_.List.θ{b a:Type}{f:b->a}{l:List b}{i:Nat}{y:a}(h:(l.map f)[i]?=some y):∃x,l[i]?=some x/\y=f x:=by
 rw[aH]at h;cases e:l[i]? with
 | none=>rw[e]at h;cases h
 | some x=>rw[e]at h;exact⟨x,rfl,(br h).symm⟩
end Pb
namespace Pb
open L2 PySem
section
variable{m:Int}{j:hT}{r:Int}{b:fc}{d:fz}{held:fc}
theorem Rs{f h:fc}:∀{l:eu},(∀c∈l,f c<=h c)->(l.map f).sum<=(l.map h).sum
 | [],_=>bC _
 | a::l,hl=>by
   rw[az,az,aW,aW];have i:=hl a (.head _);have g:=Rs (l:=l) λc e=>hl c (.tail _ e)
   lia
theorem Hi(k:Int)(f:fc):∀l:List Int,(l.map λc=>k*f c).sum=k*(l.map f).sum
 | []=>(iE k).symm
 | a::l=>by rw[az,az,aW,aW,Hi k f l,dh]
theorem wle(g:Good m j)(R:ε m j r b d){ws:fc}(pos:∀v,0<=v->v<m->0<=ws v)(f:∀c,0<=c->c<m->c≠r->ws c*tup j b c<=ws (b c))(o:∀v,0<=held v):∀(n:Nat)(v:Int),m.toNat-d v=n->0<=v->v<m->((bO m j r b d v).map λu=>ws u*held u-ws u*(tup j b u-1)).sum<=ws v*Ϗ m j r b d held (Υ j b) v-ws v*(tup j b v-1)
 | 0,v,e,h0,h1=>by
   have:=lC R h0 h1
   lia
 | n+1,v,e,h0,h1=>by
   rw[fM g R h0 h1,az,aW,AL,rf g R h0 h1];have w:∀u∈bT m j (front r b v) v,((bO m j r b d u).map λu=>ws u*held u-ws u*(tup j b u-1)).sum<=ws v*Υ j b u (Ϗ m j r b d held (Υ j b) u):=λu A=>by
    obtain⟨a,h,q⟩:=(bB g R h0 h1).mp A;have x:=R.pos a.1 a.2 h;rw[q]at x;refine bE (wle g R pos f o n u (by lia) a.1 a.2) ?_;obtain⟨y,t⟩:=gP g R a.1 a.2 h;have st:=f u a.1 a.2 h;rw[q]at st;have p:=Bl (m:=m) (r:=r) (par:=b) (dep:=d) g o u;have l:=pos u a.1 a.2;show _<=ws v*(Ϗ m j r b d held (Υ j b) u/tup j b u);generalize Ϗ m j r b d held (Υ j b) u=G at p ⊢;generalize tup j b u=k at y t st ⊢;generalize ws u=W at l st ⊢;generalize ws v=V at st ⊢;have z:0<=G/k:=jR p (by lia);have i:=Int.emod_add_mul_ediv G k;have C:=cC G (show 0<k by lia);have B:W*G-W*(k-1)<=W*k*(G/k):=by
     have:W*G=W*(G%k)+W*k*(G/k):=(by rw[<-i,dh,<-hG,i]);rw[this];have:W*(G%k)<=W*(k-1):=cm (by lia) l
     lia
    exact bE B (ce st z)
   have s:=Rs w;rw[Hi (ws v) (λu=>Υ j b u (Ϗ m j r b d held (Υ j b) u))]at s;rw[dh]
   lia
theorem RB(g:Good m j)(R:ε m j r b d)(e:0<=r)(i:r<m){ws:eu}{a:eu}(l:bO m j r b d r=r::a)(O:Order m r b a)(S:Slk m j b a ws)(s:∀v,0<=held v){w:Int}(z:Ϗ m j r b d held (Υ j b) r<w):((cY m.toNat).map λv=>ws.getD v.toNat 0*held v).sum<=ϡ m j r b ws w:=by
 have pos:∀v,0<=v->v<m->0<=ws.getD v.toNat 0:=λv y q=>by have:=S.pos v y q;lia
 have h:=wle (held:=held) g R (ws:=λv=>ws.getD v.toNat 0) pos (λc p n t=>S.std c ((O.all c p n).resolve_left t)) s _ r rfl e i;rw[l,zG]at h;have o:((r::a).map λv=>ws.getD v.toNat 0*held v).sum=((cY m.toNat).map λv=>ws.getD v.toNat 0*held v).sum:=by
  refine tZ ((ik O.nd (kC _) λx=>?_).map _);rw[aq,gM];refine⟨λh=>?_,λh=>O.all x h.1 (by have:=h.2;lia)⟩;rcases h with h|h
  .rw[h];exact⟨e,by lia⟩
  .have:=O.Λ x h;exact⟨this.1,by lia⟩
 rw[<-o];unfold ϡ;rw[<-O.sums];have k:(a.map (Y5 j b ws)).sum=(a.map λu=>ws.getD u.toNat 0*(tup j b u-1)).sum:=rfl;rw[k];rw[az (f:=λu=>ws.getD u.toNat 0*(tup j b u-1)),aW]at h;have:ws.getD r.toNat 0*Ϗ m j r b d held (Υ j b) r<=ws.getD r.toNat 0*(w-1):=cm (by lia) (pos r e i)
 lia
theorem Ku:∀(a:eu),(List.range a.length).map (λi=>a.getD i 0)=a:=λa=>by
 refine eX λi=>?_;rw[aH];by_cases h:i<a.length
 .rw[fT h,ao h];show some (a.getD i 0)=_;rw[List.getD,ao h]
  rfl
 .rw[bN (by rw[bI];lia),bN (by lia)]
  rfl
theorem DQ{a:eu}{n:Nat}(h:a.length=n):((cY n).map λv=>a.getD v.toNat 0).sum=a.sum:=by
 unfold cY;rw[kT,<-h];exact congrArg List.sum (Ku a)
theorem RF{a:eu}(h:∀x∈a,0<=x)(i:Nat):0<=a.getD i 0:=by
 rw[List.getD];cases e:a[i]? with
 | none=>exact bC _
 | some y=>exact h y (aJ e)
theorem xD:∀l:List Int,(l.map λ_=>(0:Int)).sum=0
 | []=>rfl
 | a::l=>by rw[az,aW,xD l];rfl
theorem Pc(g:Good m j)(R:ε m j r b d){v:Int}(a:0<=v)(c:v<m):Ϗ m j r b d (λ_=>0) (Υ j b) v=0:=by
 have:∀(n:Nat)(v:Int),m.toNat-d v=n->0<=v->v<m->Ϗ m j r b d (λ_=>0) (Υ j b) v=0:=by
  intro n
  induction n with
  | zero=>
    intro v e a c;have:=lC R a c
    lia
  | succ n ih=>
    intro v e a c;rw[rf g R a c,cW];rw[oQ (h:=λ_=>0) λu i=>?_]
    .exact xD _
    .obtain⟨u1,u2,u3⟩:=(bB g R a c).mp i;have f:=R.pos u1.1 u1.2 u2;rw[u3]at f;rw[ih u (by lia) u1.1 u1.2,NM]
 exact this _ v rfl a c
theorem JM(R:ε m j r b d):∀(n:Nat)(v:Int),d v=n->0<=v->v<m->Dl b r n v=true
 | 0,v,e,h0,h1=>by
   refine ba (Classical.byContradiction λh=>?_);have:=R.pos h0 h1 h
   lia
 | n+1,v,e,h0,h1=>by
   show(decide (v=r)||Dl b r n (b v))=true;by_cases h:v=r
   .rw[ba h];rfl
   .have u:=R.up v h0 h1 h;rw[JM R n (b v) (by lia) u.1.1 u.1.2,lH]
theorem LS(g:Good m j)(R:ε m j r b d)(c:0<=r)(a:r<m):∃t,bO m j r b d r=r::t/\Order m r b t:=AQ g R c a (oX g R _ r c a).1 λv=>by
 rw[SD g R c a];exact⟨λh=>h.1,λh=>⟨h,JM R _ v rfl h.1 h.2⟩⟩
theorem Jf{f:fc}{C:Int}:∀{l:eu},(∀c∈l,f c<=C)->(l.map f).sum<=C*l.length
 | [],_=>by simp
 | a::l,h=>by
   have i:=h a (.head _);have g:=Jf (l:=l) λc e=>h c (.tail _ e);rw[az,aW,aD,dJ,dh];show f a+(l.map f).sum<=C*l.length+C*1
   lia
theorem RY(g:Good m j)(R:ε m j r b d)(a:0<=r)(e:r<m){w:Int}(u:1<=w)(C:w<=10^60):0<=ϡ m j r b (cJ m j r b d) w/\ϡ m j r b (cJ m j r b d) w+1<2^720:=by
 have Θ:=g.Θ;obtain⟨i,o,O⟩:=LS g R a e;have z:=O.Yz a e
 constructor
 .have l:=RB (held:=λ_=>0) g R a e o O (Je g R O) (λ_=>bC _) (w:=w) (Int.lt_of_le_of_lt (bC _) (by rw[Pc g R a e];lia));refine bE (Int.le_of_eq ?_) l;rw[show(λv:Int=>(cJ m j r b d).getD v.toNat 0*(0:Int))=λ_=>0 from funext λv=>iE _];exact(xD _).symm
 .unfold ϡ;rw[<-O.sums,show(cJ m j r b d).getD r.toNat 0=ν m j r b d r from fD a e];obtain⟨A,p⟩:=f7 g R a e;have l:ν m j r b d r*(w-1)<=2^480*10^60:=dE p (by lia) (by lia) (by decide +kernel);have B:(i.map (Y5 j b (cJ m j r b d))).sum<=2^480*1000000*i.length:=Jf λc k=>by
   obtain⟨h,f⟩:=O.Λ c k;obtain⟨y,t⟩:=gP g R h f (O.ne k);obtain⟨x,n⟩:=f7 g R h f;unfold Y5;rw[show(cJ m j r b d).getD c.toNat 0=ν m j r b d c from fD h f];exact dE n (show tup j b c-1<=1000000 by lia) (show 0<=tup j b c-1 by lia) (by decide +kernel)
  have q:(2:Int)^480*1000000*i.length<=2^480*1000000*24:=cm (by lia) (by decide +kernel);have s:(2:Int)^480*10^60+2^480*1000000*24+1<2^720:=by decide +kernel
  lia
end
end Pb
namespace L2
open PySem
def GY(K:gh)(f:Addr)(d:TS)(g:TH):TH:=λD c a e H=>∃C b,a=.ref C/\PySem.W.mroIn K C (.ref f)=some b/\if b=true then d D c H else g D c a e H
section
variable{X:Cx}{x:Str}{n d:Pos}{g:Addr}{i:Stmt}{c:List Stmt}{a:List ExceptHandler}{j:TS}{l:TH}
theorem Wn(P:aac X.K g)(R:Gl X x)(S:X.mg x=some (.ref g))(A:∀e,YS (X.held e).nox (i::c) j)(L:PHs X a l)(hdb:(x==("__debug__":Str))=false:=by decide):PHs X (.ExceptHandler (some (.Name x n)) none (i::c) d::a) (GY X.K g j l):=by
 intro o s B H D w T U Q I y le lt h;obtain⟨C,b,rfl,m,q⟩:=h;refine wpAny_handleBy_cons (codeAny_handlers_test (sY (X:=X.held (.ref w)) (I.held _) R S ?_ hdb)) (by intro z;cases z);obtain⟨G,vs,M,V,h3,h4,Z,h6⟩:=id y.e;refine HU I.Rw ⟨G,M,V⟩ P m ?_;cases b with
 | false=>exact L o s B H D w T _ Q I y le lt (by simpa using q)
 | true=>
   rw[aj rfl]at q;refine codeAny_handlers_suite (yp (fs:=ϝ X.stack) y λO Y k=>?_);have F:Inv X o B H { s with heap:=O }:=I.moved (tk:=s.toks) k λb A=>by rw[aE.mp A];exact lt.all
   have N:=F.held (.ref w);refine cV (A (.ref w) o _ _ _ _ (N.RW _) q) (λf E z=>?_) λ_ _ z=>False.elim z;have p:∀{r:St}{t:Hp},Inv (X.held (.ref w)).nox o r t E->Inv X o r t E:=λJ=>J.ύ.Y4 I.ok.hd;dsimp only;cases f with
   | next=>
     obtain⟨r,t,J,z⟩:=z;exact⟨_,t,p J,z⟩
   | brk=>
     obtain⟨r,t,J,z⟩:=z;exact⟨_,t,p J,z⟩
   | cont=>
     obtain⟨r,t,J,z⟩:=z;exact⟨_,t,p J,z⟩
   | ret u=>
     obtain⟨v,r,t,J,W,z⟩:=z;exact⟨v,_,t,p J,W,z⟩
end
end L2
namespace Pb
open L2 PySem
theorem CD:∀{l:eu}{x:Int},(∀y∈l,0<=y)->x∈l->x<=l.sum
 | y::l,x,h,hx=>by
   have c:=F6 λz a=>h z (aF y a);have b:=h y aK;rw[aW];rcases aq.mp hx with e|e
   .lia
   .have:=CD (λz a=>h z (aF y a)) e
    lia
end Pb
namespace L2
open PySem
theorem Mf{K:gh}{c:Bool}{a p:Addr}{xs:List V}{Q:VK}{g:TG}{B:TT}{t:TE}{n:St}{v:Hp}(k:Nat->List V->St->Hp->Prop)(M:k 0 [] n v)(G:∀i d f H,k i d f H->ϣ K c H a xs)(J:∀(i:Nat) (x:V) (d:List V) (f:St) (H:Hp) (q:Addr) (N:List V->St->Hp->Prop),(∀o h l,k (i+1) o h l->N o h l)->xs[i]?=some x->k i d f H->H q=none->g (.ref q) f (upd H q (.tup [.int i,x])) λj L=>B j L λb A=>
 if b=true then t j A λy z=>z p=some (.lst d)/\d.length<sizeLine/\N (d++[y]) j (upd z p (.lst (d++[y])))else N d j A)(I:∀d f H,k xs.length d f H->Q (.ref p) H):u9 (Ite K c a) p Q g B t n v:=by
 refine⟨λi m d f H=>m=xs.length-i/\i<=xs.length/\k i d f H,⟨_,rfl,bx _,M⟩,?_⟩;rintro i m d f H ⟨rfl,O,pv⟩;have s:=G i d f H pv;by_cases u:i<xs.length
 .refine .inr ⟨⟨xs,xs[i],s,ao u⟩,λx l y=>?_⟩;obtain⟨F,E,D,rfl,rfl,C⟩:=y;exact J i E d f H F (λo h l=>∃w,w<xs.length-i/\(w=xs.length-(i+1)/\i+1<=xs.length/\k (i+1) o h l)) (λo h l r=>⟨xs.length-(i+1),by lia,rfl,u,r⟩) (C xs s) pv D
 .have e:i=xs.length:=by lia
  subst e;exact .inl ⟨⟨xs,s,rfl⟩,I d f H pv⟩
def ZS(o:Addr)(H a:Hp):Prop:=∀b x,H b=some x->b≠o->a b=some x
theorem ZS.refl{o:Addr}{H:Hp}:ZS o H H:=λ_ _ h _=>h
theorem ZS.then{o:Addr}{H e d:Hp}(a:ZS o H e)(b:δ e d):ZS o H d:=λc x h n=>b c x (a c x h n)
theorem ZS.put{o:Addr}{H b:Hp}(a:ZS o H b)(x:HO):ZS o H (upd b o x):=λc y h n=>by rw[aP n];exact a c y h n
end L2
namespace Pb
open PySem L2
def upT(b:hT)(a:fc)(v:Int):Int:=(c9 b v (a v)).getD 1
abbrev kd(m:Int)(b:hT)(r:Int)(a:fc)(v:Int):List Int:=bT m b (front r a v) v
theorem Nu:∀{l:eu},(∀x∈l,0<=x)->0<=l.sum
 | [],_=>by decide
 | a::l,h=>by
   have d:=h a aK;have c:=Nu λx b=>h x (aF _ b);rw[aW]
   lia
theorem uf{f c:Type}{R:f->c->Prop}:∀{l:List f}{d:List c},Paired R l d->∀{i:Nat}{b:c},d[i]?=some b->∃a,l[i]?=some a/\R a b
 | _,_,.nil,i,b,e=>by simp at e
 | _,_,.cons (a:=a) (b:=b') h _,0,b,e=>by
   rw[List.getElem?_cons_zero]at e;cases e;exact⟨a,rfl,h⟩
 | _,_,.cons h hs,i+1,b,e=>by
   rw[iQ]at e;obtain⟨a,j,g⟩:=uf hs e;exact⟨a,by rw[iQ];exact j,g⟩
theorem DC{e d:Type}{R S:e->d->Prop}:∀{l:List e}{c:List d},(∀a b,a∈l->R a b->S a b)->Paired R l c->Paired S l c
 | _,_,_,.nil=>.nil
 | _,_,f,.cons h hs=>.cons (f _ _ aK h) (DC (λa b g=>f a b (aF _ g)) hs)
theorem JO{c d:Type}{R:c->d->Prop}:∀{l:List c}{e:List d},Paired R l e->∀{a:c},a∈l->∃b,R a b
 | _,_,.nil,a,h=>by cases h
 | _,_,.cons (b:=b) h hs,a,ha=>by
   rcases aq.mp ha with rfl|ha
   .exact⟨b,h⟩
   .exact JO hs ha
theorem wG{d c:Type}{R:d->c->Prop}{a:d}{b:c}(e:R a b):∀{l:List d}{f:List c},Paired R l f->Paired R (l++[a]) (f++[b])
 | _,_,.nil=>.cons e .nil
 | _,_,.cons x xs=>.cons x (wG e xs)
theorem M6{b:Type}{a:List b}{i:Int}(h:0<=i):ϥ a i=a[i.toNat]?:=by
 cases e:a[i.toNat]? with
 | some v=>exact cB h e
 | none=>
   have:=List.getElem?_eq_none_iff.mp e;unfold ϥ ZC;rw[aj h,ah (by lia)]
   rfl
section
variable{m:Int}{c:hT}{r:Int}{b:fc}{a:fz}{e:fc}
theorem uc(g:Good m c)(R:ε m c r b a){v:Int}(f:0<=v)(i:v<m){k:Int}(h:k∈kd m c r b v):((0<=k/\k<m)/\k≠r/\b k=v)/\m.toNat-a v=m.toNat-a k+1/\1<=m.toNat-a k:=by
 have w:=(bB g R f i).mp h;have:=R.pos w.1.1 w.1.2 w.2.1;have d:=lC R w.1.1 w.1.2;rw[w.2.2]at this;exact⟨w,by lia,by lia⟩
end
theorem I0{f:fc}{l:eu}(h:∀c∈l,0<=f c):0<=(l.map f).sum:=Nu λx b=>by
 obtain⟨c,a,rfl⟩:=bz.mp b;exact h c a
section
variable{m:Int}{c:hT}{r:Int}{a:fc}{b:fz}{f:fc}
variable{w:fc}
variable{x e d:fc}
def hol(m:Int)(c:hT)(r:Int)(a:fc)(b:fz)(v:Int):Int:=ν m c r a b v*(upT c a v-1)
end
end Pb
namespace L2
open PySem Pb
theorem Rx(b a:eu):PyData.eqv (DI b) (DI a)=decide (b=a):=by
 unfold DI;simp only[PyData.eqv];exact zV b a
theorem Re{K:gh}{H:Hp}{a b:Addr}{c d:eu}{Q:VK}(f:H a=some (.tup (c.map V.int)))(e:H b=some (.tup (d.map V.int)))(q:Q (.bl (decide (c=d))) H):S7 K (.ref a) (.ref b) H Q:=⟨_,_,iS f,iS e,by have:=XW c;lia,by rw[Rx];exact q⟩
end L2
namespace Pb
open PySem L2
section
variable{m:Int}{b:hT}{r:Int}{a:fc}{c:fz}{d w:fc}
theorem AH(g:Good m b){v:Int}:(kd m b r a v).length<=24:=by
 have f:=b8 (λu=>decide (V.int u≠front r a v)) (mG m b v);have e:=b8 (λq=>decide (q∈gi b v)) (cY m.toNat);rw[cX]at e;have:=g.Θ;show((mG m b v).filter λu=>decide (V.int u≠front r a v)).length<=24;unfold mG at f ⊢
 lia
end
theorem Cs{g f:Type}{R:g->f->Prop}:∀{l:List g}{e:List f}{b:f},Paired R l (e++[b])->∃d a,l=d++[a]/\Paired R d e/\R a b
 | _,[],b,.cons (a:=a) h .nil=>⟨[],a,rfl,.nil,h⟩
 | _,c::e,b,.cons (a:=a) h hs=>by
   obtain⟨d,x,rfl,j,i⟩:=Cs hs;exact⟨a::d,x,rfl,.cons h j,i⟩
theorem Jq{a:Type}(l:List a)(x:a):ϥ (l++[x]) (-1)=some x:=by
 unfold ϥ ZC;rw[ah (by decide),aO,aD,dY,aj (by lia)];show(l++[x])[(-1+((l.length+(0+1):Nat):Int)).toNat]?=some x;rw[show(-1+((l.length+(0+1):Nat):Int)).toNat=l.length by lia,cT (ax _),dP]
 rfl
end Pb
namespace L2
open PySem PySem.Spec PyProof.Rows
def Us(K:gh)(f e:TE):TE:=λc H Q=>f c H λx g=>e c g λy b=>y=.int (-1)/\∃a d,x=.ref a/\μ K b a d/\∀p,b p=none->Q (.ref p) (upd b p (.lst d.reverse))
theorem L6{X:Cx}{e st:Expr}{j k:TE}{i z:Pos}(p:PE X e j)(M:PE X st k):PE X (.Subscript e (.Slice none none (some st) z) i) (Us X.K j k):=by
 intro c s f H Q I h;refine Subscript_ (dX (p c s f H _ I h) λv n x w D B P=>?_);refine wpAny_Slice ?_;rw[evalPart_none,evalPart_some];refine bh (bh (dX (M c n f w _ D P) λu d y N G C F=>?_));obtain⟨rfl,a,A,rfl,E,q⟩:=F;obtain⟨t,rfl⟩:=C;cases B;have g:Inv X c f N { d with heap:=d.heap.push { cls:=.type "slice",data:=.fields #[.none,.none,.int (-1) t] } }:=G.kept (t':=d.toks) λb O q=>aA _ q;obtain⟨L,r,l,J⟩:=g.list E;have m:=r.length;refine tail_any (ops:=[.ref a,.ref d.heap.objs.size]) l.isList.typeIs slot_list_getitem.lookup (wpAny_getItem_list_slice l.isList (Heap.IsSliceOf.new ..) .none .none (.int (-1) t) (by decide) ?_ (by rw[aQ]<;>lia)) (by with_unfolding_all rfl);rw[PySem.W.krv_pick];refine⟨.ref _,_,g.laid (t':=d.toks) (o:=.lst A.reverse) (λb O q=>aA _ q) (ax _) ?_,rfl,q _ (g.χ.fresh (ax _))⟩;exact⟨by rw[aU];exact J,_,0,r.reverse,bc _ rfl⟩
end L2
namespace Pb
open L2 PySem PySem.W NumText
def ch:Nat->Nat->Nat
 | _,0=>1
 | 0,_+1=>0
 | n+1,k+1=>ch n k+ch n (k+1)
theorem pV(n:Nat):ch n 0=1:=by cases n<;>rfl
theorem Gg:∀{n k:Nat},n<k->ch n k=0
 | _,0,h=>absurd h (jD _)
 | 0,_+1,_=>rfl
 | n+1,k+1,h=>by
   show ch n k+ch n (k+1)=0;rw[Gg (by lia),Gg (by lia)]
theorem vT:∀n k:Nat,(ch n (k+1):Int)*((k:Int)+1)=(ch n k:Int)*((n:Int)-(k:Int))
 | 0,0=>by simp[ch]
 | 0,k+1=>by simp[ch]
 | n+1,0=>by
   have h:=vT n 0;rw[pV]at h ⊢;show((ch n 0+ch n 1:Nat):Int)*_=_;rw[pV];have h:((ch n 1:Nat):Int)*(((0:Nat):Int)+1)=((1:Nat):Int)*((n:Int)-((0:Nat):Int)):=h;simp only[dJ,Int.natCast_one]at h ⊢
   lia
 | n+1,k+1=>by
   have e:=vT n k;have d:=vT n (k+1);show((ch n (k+1)+ch n (k+1+1):Nat):Int)*_=((ch n k+ch n (k+1):Nat):Int)*_;generalize ch n (k+1+1)=c at e d;generalize ch n (k+1)=b at e d;generalize ch n k=a at e d;simp only[dJ,Int.natCast_one]at e d ⊢;have f:((b:Int)+(c:Int))*((k:Int)+1+1)=(c:Int)*((k:Int)+1+1)+(b:Int)*((k:Int)+1)+(b:Int):=by
    rw[eR,dh (b:Int) ((k:Int)+1) 1]
    lia
   have g:((a:Int)+(b:Int))*((n:Int)+1-((k:Int)+1))=(a:Int)*((n:Int)-(k:Int))+(b:Int)*((n:Int)-((k:Int)+1))+(b:Int):=by
    rw[show(n:Int)+1-((k:Int)+1)=(n:Int)-(k:Int) by lia,eR,show(n:Int)-(k:Int)=((n:Int)-((k:Int)+1))+1 by lia,dh (b:Int) _ 1]
    lia
   rw[f,g,e,d]
   lia
def Ξ:List Int->Nat->Nat->Int
 | [],_,_=>0
 | d::r,n,k=>d*(ch n k:Int)+Ξ r n (k+1)
theorem zU:∀(r:eu)(k:Nat),Ξ r 0 (k+1)=0
 | [],_=>rfl
 | d::r,k=>by
   show d*((ch 0 (k+1):Nat):Int)+Ξ r 0 (k+1+1)=0;rw[zU r (k+1)];show d*((0:Nat):Int)+0=0;simp
theorem Fz:∀(r:eu)(n k:Nat),Ξ r (n+1) (k+1)=Ξ r n (k+1)+Ξ r n k
 | [],_,_=>rfl
 | d::r,n,k=>by
   show d*((ch n k+ch n (k+1):Nat):Int)+Ξ r (n+1) (k+1+1)=(d*(ch n (k+1):Int)+Ξ r n (k+1+1))+(d*(ch n k:Int)+Ξ r n (k+1));rw[Fz r n (k+1),dJ,dh]
   lia
def dl(f:Nat->Int):Nat->Int:=λn=>f (n+1)-f n
def Pd:Nat->(Nat->Int)->Prop
 | 0,f=>∀n,f n=f 0
 | d+1,f=>Pd d (dl f)
def Yb:Nat->(Nat->Int)->List Int
 | 0,_=>[]
 | N+1,f=>f 0::Yb N (dl f)
theorem CN:∀(N:Nat)(f:Nat->Int),(Yb N f).length=N
 | 0,_=>rfl
 | N+1,f=>by
   show(Yb N (dl f)).length+1=_;rw[CN N]
theorem Pd.zero{f:Nat->Int}(h:∀n,f n=0):∀d,Pd d f
 | 0=>λn=>by rw[h n,h 0]
 | d+1=>Pd.zero (f:=dl f) (λn=>by show f (n+1)-f n=0;rw[h,h];rfl) d
theorem Pd.up:∀{d:Nat}{f:Nat->Int},Pd d f->Pd (d+1) f
 | 0,f,h=>λn=>by
   show f (n+1)-f n=f (0+1)-f 0;rw[h (n+1),h n,h (0+1)]
 | d+1,f,h=>Pd.up (d:=d) (f:=dl f) h
theorem Pd.le{d e:Nat}{f:Nat->Int}(h:Pd d f)(l:d<=e):Pd e f:=by
 induction l with
 | refl=>exact h
 | step _ ih=>exact ih.up
theorem Pd.add:∀{d:Nat}{f g:Nat->Int},Pd d f->Pd d g->Pd d (λn=>f n+g n)
 | 0,f,g,h,k=>λn=>by
   show f n+g n=f 0+g 0;rw[h n,k n]
 | d+1,f,g,h,k=>by
   have:=Pd.add (d:=d) (f:=dl f) (g:=dl g) h k;have e:dl (λn=>f n+g n)=λn=>dl f n+dl g n:=by
    funext n
    show f (n+1)+g (n+1)-(f n+g n)=(f (n+1)-f n)+(g (n+1)-g n)
    lia
   show Pd d (dl (λn=>f n+g n));rw[e];exact this
theorem Pd.smul(c:Int):∀{d:Nat}{f:Nat->Int},Pd d f->Pd d (λn=>c*f n)
 | 0,f,h=>λn=>by
   show c*f n=c*f 0;rw[h n]
 | d+1,f,h=>by
   have:=Pd.smul c (d:=d) (f:=dl f) h;have e:dl (λn=>c*f n)=λn=>c*dl f n:=by
    funext n
    show c*f (n+1)-c*f n=c*(f (n+1)-f n);rw[gX]
   show Pd d (dl (λn=>c*f n));rw[e];exact this
theorem Pd.shift(b:Nat):∀{d:Nat}{f:Nat->Int},Pd d f->Pd d (λn=>f (n+b))
 | 0,f,h=>λn=>by
   show f (n+b)=f (0+b);rw[h (n+b),h (0+b)]
 | d+1,f,h=>by
   have:=Pd.shift b (d:=d) (f:=dl f) h;have e:dl (λn=>f (n+b))=λn=>dl f (n+b):=by
    funext n
    show f (n+1+b)-f (n+b)=f (n+b+1)-f (n+b);rw[show n+1+b=n+b+1 by lia]
   show Pd d (dl (λn=>f (n+b)));rw[e];exact this
def Κ:Nat->(Nat->Int)->Int
 | 0,_=>0
 | k+1,f=>Κ k f+f k
theorem Pd.sum{d:Nat}{f:Nat->Nat->Int}(h:∀i,Pd d (f i)):∀k,Pd d (λn=>Κ k λi=>f i n)
 | 0=>Pd.zero (λ_=>rfl) d
 | k+1=>(Pd.sum h k).add (h k)
theorem JX(f:Nat->Int)(b:Nat):∀a:Nat,f (b+a)-f b=Κ a λi=>dl f (b+i)
 | 0=>by
   show f b-f b=0
   lia
 | a+1=>by
   have:=JX f b a;show f (b+(a+1))-f b=(Κ a λi=>dl f (b+i))+dl f (b+a);rw[<-this];show f (b+(a+1))-f b=f (b+a)-f b+(f (b+a+1)-f (b+a));rw[show b+(a+1)=b+a+1 by lia]
   lia
theorem Pd.lin(a:Nat):∀{d:Nat}{f:Nat->Int},Pd d f->∀b,Pd d (λn=>f (a*n+b))
 | 0,f,h,b=>λn=>by
   show f (a*n+b)=f (a*0+b);rw[h (a*n+b),h (a*0+b)]
 | d+1,f,h,b=>by
   have e:dl (λn=>f (a*n+b))=λn=>Κ a λi=>(λi n=>dl f (a*n+(b+i))) i n:=by
    funext n
    show f (a*(n+1)+b)-f (a*n+b)=_;rw[show a*(n+1)+b=(a*n+b)+a by rw[oh];lia,JX f (a*n+b) a]
    congr 1
    funext i
    show dl f (a*n+b+i)=dl f (a*n+(b+i));rw[Nat.add_assoc]
   show Pd d (dl (λn=>f (a*n+b)));rw[e];exact Pd.sum (λi=>Pd.lin a (d:=d) (f:=dl f) h (b+i)) a
def XX(f g:Nat->Int)(n:Nat):Int:=Κ (n+1) λk=>f k*g (n-k)
theorem rO{f g:Nat->Int}:∀{k:Nat},(∀i,i<k->f i=g i)->Κ k f=Κ k g
 | 0,_=>rfl
 | k+1,h=>by
   show Κ k f+f k=Κ k g+g k;rw[rO λi a=>h i (by lia),h k (by lia)]
theorem JV(f g:Nat->Int):∀k,Κ k (λi=>f i-g i)=Κ k f-Κ k g
 | 0=>rfl
 | k+1=>by
   show Κ k (λi=>f i-g i)+(f k-g k)=Κ k f+f k-(Κ k g+g k);rw[JV f g k]
   lia
theorem L7(f g:Nat->Int):dl (XX f g)=λn=>f (n+1)*g 0+XX f (dl g) n:=by
 funext n
 show(Κ (n+1) λk=>f k*g (n+1-k))+f (n+1)*g (n+1-(n+1))-Κ (n+1) (λk=>f k*g (n-k))=f (n+1)*g 0+Κ (n+1) λk=>f k*dl g (n-k);have e:(Κ (n+1) λk=>f k*dl g (n-k))=Κ (n+1) λk=>f k*g (n+1-k)-f k*g (n-k):=rO λi a=>by
  show f i*(g (n-i+1)-g (n-i))=_;rw[gX,show n-i+1=n+1-i by lia]
 rw[e,JV,dP]
 lia
theorem Pd.XX{f:Nat->Int}{d:Nat}(a:Pd d f):∀{e:Nat}{g:Nat->Int},Pd e g->Pd (d+e+1) (XX f g)
 | 0,g,hg=>by
   show Pd d (dl (Pb.XX f g));rw[L7];refine Pd.add ?_ (Pd.zero (λn=>?_) d)
   .have:=(a.shift 1).smul (g 0);have e:(λn=>g 0*f (n+1))=λn=>f (n+1)*g 0:=by
     funext n
     exact fh ..
    rw[e]at this;exact this
   .have z:∀m,dl g m=0:=λm=>by
     show g (m+1)-g m=0;rw[hg (m+1),hg m]
     lia
    have:=rO (k:=n+1) (f:=λk=>f k*dl g (n-k)) (g:=λ_=>0) λi _=>by rw[z];simp
    show Κ (n+1) (λk=>f k*dl g (n-k))=0;rw[this];clear this
    induction n+1 with
    | zero=>rfl
    | succ k ih=>show Κ k (λ_=>0)+0=0;rw[ih];rfl
 | e+1,g,hg=>by
   show Pd (d+e+1) (dl (Pb.XX f g));rw[L7];refine Pd.add ?_ (Pd.XX a (e:=e) (g:=dl g) hg);have:=((a.shift 1).smul (g 0)).le (show d<=d+e+1 by lia);have e:(λn=>g 0*f (n+1))=λn=>f (n+1)*g 0:=by
    funext n
    exact fh ..
   rw[e]at this;exact this
theorem Bh:∀(N:Nat){d:Nat}{f:Nat->Int},Pd d f->d<N->∀n,Ξ (Yb N f) n 0=f n
 | 0,_,_,_,h,_=>absurd h (jD _)
 | N+1,d,f,hf,_,n=>by
   have a:∀n,Ξ (Yb N (dl f)) n 0=dl f n:=by
    intro n;cases d with
    | zero=>
      have z:∀m,dl f m=0:=λm=>by
       show f (m+1)-f m=0;rw[hf (m+1),hf m]
       lia
      cases N with
      | zero=>rw[z];rfl
      | succ N=>exact Bh (N+1) (Pd.zero z 0) (by lia) n
    | succ d=>exact Bh N (d:=d) (f:=dl f) hf (by lia) n
   show f 0*(ch n 0:Int)+Ξ (Yb N (dl f)) n (0+1)=f n;rw[pV]
   induction n with
   | zero=>
     rw[zU];simp
   | succ n ihn=>
     rw[Fz,a n];show f 0*((1:Nat):Int)+(Ξ (Yb N (dl f)) n (0+1)+(f (n+1)-f n))=f (n+1)
     lia
theorem uD:∀{N:Nat}{f g:Nat->Int},(∀i,i<N->f i=g i)->Yb N f=Yb N g
 | 0,_,_,_=>rfl
 | N+1,f,g,h=>by
   show f 0::Yb N (dl f)=g 0::Yb N (dl g);rw[h 0 (by lia),uD (N:=N) (f:=dl f) (g:=dl g) λi a=>by
    show f (i+1)-f i=g (i+1)-g i;rw[h i (by lia),h (i+1) (by lia)]]
def Ϣ(a:eu):List Int:=Yb a.length λi=>a.getD i 0
def nxr(a:eu):List Int:=(a.zip (a.drop 1)).map λp=>p.2-p.1
theorem yw(a:eu):(nxr a).length=a.length-1:=by
 unfold nxr;rw[aa,lP,ee]
 lia
theorem VF{xs:eu}{i:Nat}(h:i+1<xs.length):(nxr xs).getD i 0=xs.getD (i+1) 0-xs.getD i 0:=by
 unfold nxr;rw[bH,aH,ao (by rw[lP,ee];lia)];simp[bH,h,show i<xs.length by lia,Nat.add_comm]
theorem Gj(x:Int)(r:eu):Ϣ (x::r)=x::Ϣ (nxr (x::r)):=by
 unfold Ϣ;rw[yw];show x::Yb r.length _=x::Yb (r.length+1-1) _;rw[Nat.add_sub_cancel]
 congr 1
 exact uD λi a=>(VF (xs:=x::r) (by simpa using a)).symm
theorem Kr:∀n k:Nat,ch n k<=2^n
 | 0,0=>ax _
 | 0,_+1=>bx _
 | n+1,0=>by rw[pV];exact Nat.one_le_two_pow
 | n+1,k+1=>by
   have b:=Kr n k;have a:=Kr n (k+1);show ch n k+ch n (k+1)<=2^(n+1);rw[gc]
   lia
theorem JG(f:Nat->Int):∀k,((List.range k).map f).sum=Κ k f
 | 0=>rfl
 | k+1=>by
   rw[da,aB,eE,JG f k];show Κ k f+(f k+0)=Κ k f+f k
   lia
def Ϧ:Nat:=2^200000
theorem hZ{n k:Nat}(h:n<=2^k)(a:k<200000):n<Ϧ:=by
 unfold Ϧ;exact fE h (mK (by decide) a)
theorem qR{a b:Int}(d:a.natAbs<Ϧ)(c:b.natAbs<Ϧ):IntMulOk a b:=by
 unfold Ϧ at d c;exact IntMulOk.of_bits (aN (yi d) (by decide)) (aN (yi c) (by decide))
theorem Tk{n k:Nat}(h:n<=100000):ch n k<Ϧ:=hZ (Kr n k) (by lia)
theorem xV:∀n k:Nat,ch n k<=(n+1)^k
 | n,0=>by rw[pV];exact ax _
 | 0,k+1=>bx _
 | n+1,k+1=>by
   have d:=xV n k;have b:=xV n (k+1);have a:(n+1)^k<=(n+1+1)^k:=im (by lia) k;show ch n k+ch n (k+1)<=(n+1+1)^(k+1);rw[gc]at b;rw[gc,Nat.mul_succ];have c:(n+1)^k*(n+1)<=(n+1+1)^k*(n+1):=dA _ a
   lia
theorem CQ{n x k:Nat}(h:n+1<=2^x)(a:x*k<200000):ch n k<Ϧ:=hZ (k:=x*k) (aN (xV n k) (by rw[og];exact im h k)) a
def ξ(c b:Int->Bool)(a:Int->Nat->Int):List Int->Nat->Int
 | [],_=>1
 | k::ks,n=>if c k=true then XX (a k) (ξ c b a ks) n else if b k=true then a k n*ξ c b a ks 0 else a k 0*ξ c b a ks n
variable{fr be:Int->Bool}{ws:Int->Nat->Int}
theorem tQ{k:Int}{a:eu}(h:fr k=true):ξ fr be ws (k::a)=XX (ws k) (ξ fr be ws a):=by
 funext n
 show(if fr k=true then _ else _)=_;rw[aj h]
theorem t9{k:Int}{a:eu}(h:¬fr k=true)(b:be k=true):ξ fr be ws (k::a)=λn=>ws k n*ξ fr be ws a 0:=by
 funext n
 show(if fr k=true then _ else _)=_;rw[ah h,aj b]
theorem ua{k:Int}{a:eu}(h:¬fr k=true)(b:¬be k=true):ξ fr be ws (k::a)=λn=>ws k 0*ξ fr be ws a n:=by
 funext n
 show(if fr k=true then _ else _)=_;rw[ah h,ah b]
theorem Mw{d:fz}:∀{ks:eu},(∀k∈ks,Pd (d k) (ws k))->Pd ((ks.map λk=>d k+1).sum) (ξ fr be ws ks)
 | [],_=>λ_=>rfl
 | k::ks,h=>by
   have c:=h k (.head _);have a:=Mw (ks:=ks) λx g=>h x (.tail _ g);rw[az,aW];by_cases f:fr k=true
   .rw[tQ f];exact(Pd.XX c a).le (by lia)
   .by_cases b:be k=true
    .rw[t9 f b];have:=(c.smul (ξ fr be ws ks 0)).le (show d k<=d k+1+(ks.map λk=>d k+1).sum by lia);have e:(λn=>ξ fr be ws ks 0*ws k n)=λn=>ws k n*ξ fr be ws ks 0:=by
      funext n
      exact fh ..
     rw[e]at this;exact this
    .rw[ua f b];exact(a.smul (ws k 0)).le (by lia)
theorem Jt{f:Nat->Int}{B:Int}:∀{k:Nat},(∀i,i<k->0<=f i/\f i<=B)->0<=Κ k f/\Κ k f<=k*B
 | 0,_=>⟨bC _,by show(0:Int)<=((0:Nat):Int)*B;simp⟩
 | k+1,h=>by
   obtain⟨e,a⟩:=Jt (k:=k) λi d=>h i (by lia);obtain⟨c,b⟩:=h k (by lia);show 0<=Κ k f+f k/\Κ k f+f k<=((k+1:Nat):Int)*B;rw[Int.natCast_succ,eR,f8]
   lia
theorem yj{a b A B:Int}(c:0<=a/\a<=A)(d:0<=b/\b<=B):0<=a*b/\a*b<=A*B:=⟨dU c.1 d.1,dE c.2 d.2 d.1 (bE c.1 c.2)⟩
theorem Sc{f g:Nat->Int}{A B:Int}{n:Nat}(b:∀i,i<=n->0<=f i/\f i<=A)(a:∀i,i<=n->0<=g i/\g i<=B):0<=XX f g n/\XX f g n<=((n+1:Nat):Int)*(A*B):=Jt λi c=>yj (b i (by lia)) (a (n-i) (by lia))
theorem lQ(n:Nat):(0:Int)<2^n:=Int.pow_pos (by decide)
theorem vY{X x:Nat}(d:((X+1:Nat):Int)<=2^x){a:fz}:∀{ks:eu},(∀k∈ks,∀i,i<=X->0<=ws k i/\ws k i<=2^a k)->∀n,n<=X->0<=ξ fr be ws ks n/\ξ fr be ws ks n<=2^(ks.map λk=>x+a k).sum
 | [],_,n,_=>⟨by show(0:Int)<=1;decide,by show(1:Int)<=2^0;decide⟩
 | k::ks,h,n,hn=>by
   have e:=h k (.head _);have c:=vY d (ks:=ks) λx d=>h x (.tail _ d);rw[az,aW,md,md];have m:=lQ x;have up:∀{u:Int},0<=u/\u<=2^a k*2^(ks.map λk=>x+a k).sum->0<=u/\u<=2^x*2^a k*2^(ks.map λk=>x+a k).sum:=λ{u} hu=>by
    refine⟨hu.1,?_⟩;rw[hG];have:=(yj (a:=1) (A:=2^x) (b:=u) ⟨by decide,by lia⟩ hu).2;rw[f8]at this;exact this
   by_cases f:fr k=true
   .rw[tQ f];obtain⟨j,g⟩:=Sc (n:=n) (λi l=>e i (by lia)) (λi l=>c i (by lia));refine⟨j,bE g ?_⟩;rw[hG];refine ce (by lia) (dU (lD (lQ _)) (lD (lQ _)))
   .by_cases b:be k=true
    .rw[t9 f b];exact up (yj (e n hn) (c 0 (by lia)))
    .rw[ua f b];exact up (yj (e 0 (by lia)) (c n hn))
theorem Gz:∀{N:Nat}{f:Nat->Int}{b:Nat},(∀i,i<N->(f i).natAbs<=2^b)->∀c∈Yb N f,c.natAbs<=2^(b+N)
 | 0,_,_,_,c,hc=>by cases hc
 | N+1,f,b,h,c,hc=>by
   rcases aq.mp (show c∈f 0::Yb N (dl f)from hc)with rfl|hc
   .exact aN (h 0 (by lia)) (bP (by decide) (by lia))
   .have:=Gz (N:=N) (f:=dl f) (b:=b+1) (λi e=>by
     have d:=h i (by lia);have a:=h (i+1) (by lia);show(f (i+1)-f i).natAbs<=2^(b+1);rw[gc,Nat.mul_two];exact aN (Int.natAbs_sub_le _ _) (gD a d)) c hc
    rw[show b+1+N=b+(N+1) by lia]at this;exact this
def uR(d:Nat)(W:Nat->Int):Prop:=Pd d W/\∀x n,((n+1:Nat):Int)<=2^x->0<=W n/\W n<=2^(d*(x+20*d))
def υ(c:Nat)(g:Nat):Nat:=(g+1)*c-1
theorem IZ{c g:Nat}(h:1<=c):υ c g=c*g+(c-1):=by
 unfold υ;rw[fm,jf]
 lia
theorem z3{a b:Nat}(h:a<=b):(2:Int)^a<=2^b:=by
 obtain⟨k,rfl⟩:∃k,b=a+k:=⟨b-a,by lia⟩;rw[md];have:=cm (show(1:Int)<=2^k from lQ k) (lD (lQ a));rw[iU]at this;exact this
theorem rz{f g:fz}{y:Nat}:∀{ks:eu},(∀k∈ks,f k<=g k*y)->(ks.map f).sum<=(ks.map g).sum*y
 | [],_=>by simp
 | k::ks,h=>by
   have c:=h k (.head _);have b:=rz (ks:=ks) λx a=>h x (.tail _ a);rw[az,aW,az,aW,fm]
   lia
theorem wa{g:fz}:∀{a:eu}{k:Int},k∈a->g k<=(a.map g).sum
 | k'::a,k,h=>by
   rw[az,aW];rcases aq.mp h with rfl|h
   .lia
   .have:=wa (g:=g) h
    lia
theorem yD{W:Int->Nat->Int}{c d:fz}{ks:eu}(h:∀k∈ks,uR (d k) (W k))(f:∀k∈ks,1<=c k/\c k<=1000000):uR (ks.map λk=>d k+1).sum (ξ fr be (λk g=>W k (υ (c k) g)) ks):=by
 refine⟨Mw λk b=>?_,λx n m=>?_⟩
 .have:=(h k b).1.lin (c k) (c k-1);have e:(λg=>W k (υ (c k) g))=λg=>W k (c k*g+(c k-1)):=by
   funext g
   rw[IZ (f k b).1]
  rw[e];exact this
 .have key:=vY (fr:=fr) (be:=be) (ws:=λk g=>W k (υ (c k) g)) (X:=n) (x:=x) m (a:=λk=>d k*(x+20+20*d k)) (ks:=ks) (λk b i r=>by
   refine(h k b).2 (x+20) (υ (c k) i) ?_;have l:=(f k b).1;have s:=(f k b).2;have e:υ (c k) i+1=(i+1)*c k:=by
    unfold υ;have:1<=(i+1)*c k:=bR (show 1<=i+1 by lia) l
    lia
   rw[e,iB,md];exact dE (by lia) (by have:(2:Int)^20=1048576:=rfl;lia) (Int.natCast_nonneg _) (lD (lQ x))) n (ax _)
  refine⟨key.1,bE key.2 ?_⟩;refine z3 (rz λk b=>?_);have j:=wa (g:=λk=>d k+1) b;generalize (ks.map λk=>d k+1).sum=D at j;have o:x+d k*(x+20+20*d k)=x+d k*x+d k*(20+20*d k):=by rw[show x+20+20*d k=x+(20+20*d k) by lia,oh];lia
  have q:(d k+1)*(x+20*D)=x+d k*x+(d k+1)*(20*D):=by rw[oh,fm];lia
  have p:d k*(20+20*d k)<=(d k+1)*(20*D):=bR (by lia) (by lia)
  lia
structure Ω(b:Nat)(cs:eu)(f:Nat->Int):Prop where
 ne:cs≠[]
 len:cs.length<=24
 bt:∀c∈cs,c.natAbs<=2^b
 val:∀n,Ξ cs n 0=f n
theorem Jw:∀(x:Int)(r:eu),Ξ (x::r) 0 0=x:=λx r=>by
 show x*((1:Nat):Int)+Ξ r 0 (0+1)=x;rw[zU];simp
theorem Ω.head{b:Nat}{a:eu}{f:Nat->Int}(h:Ω b a f):∃r,a=f 0::r:=by
 obtain⟨ne,_,_,v⟩:=h;cases a with
 | nil=>exact absurd rfl ne
 | cons x r=>exact⟨r,by rw[<-v 0,Jw]⟩
theorem Ω.one:Ω 0 [1] (ξ fr be ws []):=⟨by simp,by simp,λc a=>by rw[aE.mp a];decide,λn=>by
 show 1*((ch n 0:Nat):Int)+0=1;rw[pV]
 rfl⟩
theorem FT(a:Int):∀(b:eu)(n k:Nat),Ξ (b.map λc=>a*c) n k=a*Ξ b n k
 | [],_,_=>by show(0:Int)=a*0;simp
 | c::b,n,k=>by
   show a*c*(ch n k:Int)+Ξ (b.map λc=>a*c) n (k+1)=a*(c*(ch n k:Int)+Ξ b n (k+1));rw[FT a b,dh,hG]
theorem Ω.Ϣ{f:Nat->Int}{N d b:Nat}(j:Pd d f)(g:d<N)(h:N<=24)(c:∀i,i<N->(f i).natAbs<=2^b):Ω (b+N) (Ϣ ((List.range N).map f)) f:=by
 have e:Pb.Ϣ ((List.range N).map f)=Yb N f:=by
  unfold Pb.Ϣ;rw[aa,bI];refine uD λi a=>?_;rw[bH,aH,fT a]
  rfl
 rw[e];refine⟨λz=>?_,by rw[CN];exact h,Gz c,Bh N j g⟩;have:=CN N f;rw[z]at this;simp at this
 lia
def ZI:List Int->List (List Int)
 | []=>[[]]
 | k::ks=>(k::ks)::ZI ks
theorem Jj:∀a:List Int,(ZI a).reverse=(List.range (a.length+1)).map λj=>a.drop (a.length-j)
 | []=>rfl
 | k::a=>by
   show((k::a)::ZI a).reverse=_;rw[dD,Jj a,da (n:=(k::a).length),aB,az,dQ,dP,gS]
   congr 1
   refine bX λj b=>?_;have:=cA.mp b;rw[aD,show a.length+1-j=(a.length-j)+1 by lia,j5]
theorem Ω.le{b b':Nat}{a:eu}{f:Nat->Int}(h:Ω b a f)(l:b<=b'):Ω b' a f:=⟨h.ne,h.len,λc d=>aN (h.bt c d) (bP (by decide) l),h.val⟩
def Yc(d:fz)(a:eu):Nat:=(a.map λk=>d k*(25+20*d k)+29).sum
theorem tE{d:fz}{ks:eu}(h:(ks.map λk=>d k+1).sum<=23):Yc d ks<=15000:=by
 have:Yc d ks<=(ks.map λk=>d k+1).sum*514:=rz λk a=>by
  have:=wa (g:=λk=>d k+1) a;have b:d k*(25+20*d k)<=d k*485:=ip _ (by lia);rw[fm]
  lia
 lia
theorem tW(g:fz)(a:eu)(j:Nat):((a.drop j).map g).sum<=(a.map g).sum:=by
 have:=congrArg (λl=>(l.map g).sum) (cw j a);simp only[aB,eE]at this
 lia
theorem Es{W:Int->Nat->Int}{c d:fz}{b:eu}{N:Nat}(s:N<=24)(h:∀k∈b,uR (d k) (W k))(l:∀k∈b,1<=c k/\c k<=1000000):∀i,i<N->0<=ξ fr be (λk g=>W k (υ (c k) g)) b i/\ξ fr be (λk g=>W k (υ (c k) g)) b i<=2^(b.map λk=>5+d k*(25+20*d k)).sum:=by
 intro i q;refine vY (X:=23) (x:=5) (by decide) (a:=λk=>d k*(25+20*d k)) (λk f j r=>?_) i (by lia);refine(h k f).2 25 (υ (c k) j) ?_;have n:=(l k f).1;have o:=(l k f).2;have e:υ (c k) j+1=(j+1)*c k:=by
  unfold υ;have:1<=(j+1)*c k:=bR (show 1<=j+1 by lia) n
  lia
 have p:(j+1)*c k<=24*1000000:=bR (by lia) o;have m:(2:Int)^25=33554432:=rfl;rw[e,m]
 lia
theorem F8{W:Nat->Int}{c d:Nat}(h:uR d W)(f:1<=c)(a:c<=1000000){j:Nat}(g:j<24):0<=W (υ c j)/\W (υ c j)<=2^(d*(25+20*d)):=by
 refine h.2 25 (υ c j) ?_;have e:υ c j+1=(j+1)*c:=by
  unfold υ;have:1<=(j+1)*c:=bR (show 1<=j+1 by lia) f
  lia
 have i:(j+1)*c<=24*1000000:=bR (by lia) a;have b:(2:Int)^25=33554432:=rfl;rw[e,b]
 lia
theorem rM{z:Int}{b:Nat}(h:0<=z/\z<=2^b):z.natAbs<=2^b:=by
 have:((2^b:Nat):Int)=(2:Int)^b:=by simp
 lia
theorem wE(d:fz)(k:Int)(a:eu):Yc d (k::a)=d k*(25+20*d k)+29+Yc d a:=by
 unfold Yc;rw[az,aW]
theorem DD(d:fz):∀a:List Int,(a.map λk=>5+d k*(25+20*d k)).sum<=Yc d a
 | []=>ax _
 | k::a=>by
   have:=DD d a;rw[wE,az,aW]
   lia
theorem Mm{W:Int->Nat->Int}{c d:fz}{k:Int}{S:eu}{N:Nat}(e:N<=24)(h:∀x∈k::S,uR (d x) (W x))(b:∀x∈k::S,1<=c x/\c x<=1000000)(j:((k::S).map λk=>d k+1).sum<N){a:eu}(l:a=(List.range N).map (ξ fr be (λk g=>W k (υ (c k) g)) (k::S))):Ω (Yc d (k::S)) (Ϣ a) (ξ fr be (λk g=>W k (υ (c k) g)) (k::S)):=by
 subst l;refine(Ω.Ϣ (yD h b).1 j e λi f=>rM (Es e h b i f)).le ?_;have:=DD d S;rw[wE,az,aW]
 lia
theorem Su{W:Int->Nat->Int}{c d:fz}{k:Int}{S:eu}{e:eu}(o:uR (d k) (W k))(m:1<=c k)(p:c k<=1000000)(f:¬fr k=true)(b:¬be k=true)(a:Ω (Yc d S) e (ξ fr be (λk g=>W k (υ (c k) g)) S)):Ω (Yc d (k::S)) (e.map λx=>W k (υ (c k) 0)*x) (ξ fr be (λk g=>W k (υ (c k) g)) (k::S)):=by
 refine⟨λz=>a.ne (List.map_eq_nil_iff.mp z),by rw[aa];exact a.len,λx l=>?_,λn=>?_⟩
 .obtain⟨y,hy,rfl⟩:=bz.mp l;have h:=rM (F8 o m p (j:=0) (by decide));have i:=a.bt y hy;rw[kh,wE];refine aN (bR h i) ?_;rw[<-eG];exact bP (by decide) (by lia)
 .rw[FT,a.val,ua f b]
theorem Mh{f g a b:Nat->Int}{n:Nat}(d:∀i,i<=n->f i=a i)(c:∀i,i<=n->g i=b i):XX f g n=XX a b n:=rO λi e=>by rw[d i (by lia),c (n-i) (by lia)]
theorem zK{f:Nat->Int}{N i:Nat}(h:i<N):((List.range N).map f).getD i 0=f i:=by
 rw[bH,aH,fT h]
 rfl
theorem M9{d:fz}:∀a:List Int,a.length<=(a.map λk=>d k+1).sum
 | []=>ax _
 | k::a=>by
   have:=M9 (d:=d) a;rw[az,aW,aD]
   lia
theorem JC{c b:Type}{R:c->b->Prop}:∀{l:List c}{a:List b},Paired R l a->Paired R l.reverse a.reverse
 | _,_,.nil=>.nil
 | _,_,.cons e h=>by
   rw[dD,dD];exact wG e (JC h)
theorem xM{fr' be':Int->Bool}{ws':Int->Nat->Int}:∀{ks:eu},(∀k∈ks,fr k=fr' k/\be k=be' k/\ws k=ws' k)->ξ fr be ws ks=ξ fr' be' ws' ks
 | [],_=>rfl
 | k::ks,h=>by
   obtain⟨e,a,d⟩:=h k (.head _);have c:=xM (ks:=ks) λx b=>h x (.tail _ b)
   funext n
   show(if fr k=true then XX (ws k) (ξ fr be ws ks) n else if be k=true then ws k n*ξ fr be ws ks 0 else ws k 0*ξ fr be ws ks n)=(if fr' k=true then XX (ws' k) (ξ fr' be' ws' ks) n else if be' k=true then ws' k n*ξ fr' be' ws' ks 0 else ws' k 0*ξ fr' be' ws' ks n);rw[e,a,d,c]
section
variable{m:Int}{d:hT}{r:Int}{a:fc}{b:fz}{c:fz}
def wyF(m:Int)(d:hT)(r:Int)(a:fc)(fr be:Int->Bool)(c:fz):Nat->Int->Nat->Int
 | 0,_=>λ_=>1
 | f+1,v=>ξ fr be (λk g=>wyF m d r a fr be c f k (υ (c k) g)) (kd m d r a v)
def wy(m:Int)(d:hT)(r:Int)(a:fc)(b:fz)(fr be:Int->Bool)(c:fz)(v:Int):Nat->Int:=wyF m d r a fr be c (m.toNat-b v) v
theorem ms(g:Good m d)(R:ε m d r a b){v:Int}(i:0<=v)(j:v<m):wy m d r a b fr be c v=ξ fr be (λk g=>wy m d r a b fr be c k (υ (c k) g)) (kd m d r a v):=by
 unfold wy;cases e:m.toNat-b v with
 | zero=>
   have:kd m d r a v=[]:=by
    cases h:kd m d r a v with
    | nil=>rfl
    | cons k ks=>
      have:=(uc g R i j (k:=k) (by rw[h];exact .head _)).2.1
      lia
   rw[this]
   rfl
 | succ f=>
   show ξ fr be (λk g=>wyF m d r a fr be c f k (υ (c k) g)) (kd m d r a v)=_;refine xM λk h=>⟨rfl,rfl,?_⟩;have:=(uc g R i j h).2.1;rw[show m.toNat-b k=f by lia]
def oR(m:Int)(d:hT)(r:Int)(a:fc)(b:fz)(v:Int):Nat:=(bO m d r a b v).length-1
theorem jA(g:Good m d)(R:ε m d r a b){v:Int}(f:0<=v)(h:v<m):((kd m d r a v).map λk=>oR m d r a b k+1).sum=oR m d r a b v:=by
 have e:=congrArg List.length (fM g R f h);rw[aD,List.length_flatMap]at e;unfold oR;rw[e,Nat.add_sub_cancel];show _=((kd m d r a v).map λk=>(bO m d r a b k).length).sum;refine congrArg List.sum (bX λk j=>?_);obtain⟨⟨i,l⟩,_⟩:=(uc g R f h j).1;have:=congrArg List.length (fM g R i l);rw[aD]at this
 lia
theorem Ci(g:Good m d)(R:ε m d r a b)(f:∀v,0<=v->v<m->v≠r->1<=c v/\c v<=1000000):∀(n:Nat){v:Int},0<=v->v<m->m.toNat-b v<=n->uR (oR m d r a b v) (wy m d r a b fr be c v)
 | n,v,h0,h1,hn=>by
   rw[ms g R h0 h1,<-jA g R h0 h1];refine yD (λk e=>?_) λk e=>?_
   .obtain⟨⟨k0,k1⟩,_⟩:=(uc g R h0 h1 e).1;have:=(uc g R h0 h1 e).2.1;cases n with
    | zero=>lia
    | succ n=>exact Ci g R f n k0 k1 (by lia)
   .obtain⟨⟨k0,k1⟩,kr,_⟩:=(uc g R h0 h1 e).1;exact f k k0 k1 kr
end
theorem Ds:∀{a b:eu},b∈ZI a->∀x∈b,x∈a
 | [],b,h,x,hx=>by
   rw[aE.mp h]at hx;exact hx
 | k::a,b,h,x,hx=>by
   rcases aq.mp (show b∈(k::a)::ZI a from h)with rfl|h
   .exact hx
   .exact .tail _ (Ds h x hx)
theorem Fs{g d:Type}{R S:g->d->Prop}:∀{l:List g}{c:List d},(∀a b,b∈c->R a b->S a b)->Paired R l c->Paired S l c
 | _,_,_,.nil=>.nil
 | _,_,f,.cons e h=>.cons (f _ _ (.head _) e) (Fs (λa b i=>f a b (.tail _ i)) h)
theorem wc(a:eu):∃r,ZI a=a::r:=by
 cases a with
 | nil=>exact⟨[],rfl⟩
 | cons k a=>exact⟨ZI a,rfl⟩
theorem py{m:Int}{c:hT}{r:Int}{b:fc}{a:fz}(g:Good m c)(R:ε m c r b a){v:Int}(d:0<=v)(i:v<m):(oR m c r b a v:Int)<m:=by
 obtain⟨h,e⟩:=oX g R (m.toNat-1-a v) v d i;have:=fj (m:=m) (by lia) h λx f=>(e x f).1;have:=g.m1;unfold oR bO
 lia
theorem ME{m:Int}{d:hT}{r:Int}{a:fc}{e:fz}(g:Good m d)(R:ε m d r a e){b:eu}(O:Order m r a b){i:Nat}{v:Int}(f:(r::b).reverse[i]?=some v)(n:0<=v)(l:v<m):∀k∈kd m d r a v,k∈(r::b).reverse.take i:=by
 intro k j;have w:=(bB g R n l).mp j;rw[dD]at f ⊢;by_cases c:i<b.length
 .rw[c8 (by rw[aU];exact c)]at f;obtain⟨_,_,_,_,h⟩:=O.cut R f;have:=h k w.1.1 w.1.2 w.2.1 w.2.2;rw[List.take_append_of_le_length (by rw[aU];lia),List.take_reverse,dM];exact this
 .rw[List.take_append,df (by rw[aU];lia)];exact bq _ (dM.mpr ((O.all k w.1.1 w.1.2).resolve_left w.2.1))
theorem Ga{f:Int->List Int}{v:Int}{z:eu}:∀{l:eu},(l.flatMap f).Nodup->(l.flatMap λk=>if v∈f k then z else[])=if v∈l.flatMap f then z else[]
 | [],_=>by simp
 | a::l,h=>by
   rw[bD]at h ⊢;obtain⟨i,g,d⟩:=dC.mp h;rw[bD,Ga g];by_cases c:v∈f a
   .have:v∉l.flatMap f:=λe=>d v c v e rfl;rw[aj c,ah this,aj (bq _ c),bJ]
   .rw[ah c,fW];by_cases b:v∈l.flatMap f
    .rw[aj b,aj (aR _ b)]
    .rw[ah b,ah (λe=>(aV.mp e).elim c b)]
section
variable{m:Int}{j:hT}{r:Int}{d:fc}{i:fz}
theorem nN{f h:Int->List Int}:∀{l:eu},(∀x∈l,f x=h x)->l.flatMap f=l.flatMap h
 | [],_=>rfl
 | a::l,e=>by rw[bD,bD,e a aK,nN λx b=>e x (aF _ b)]
theorem GJ{p:Int->Bool}{f:Int->List Int}:∀l:List Int,(l.flatMap f).filter p=l.flatMap λk=>(f k).filter p
 | []=>rfl
 | a::l=>by rw[bD,cH,GJ l,bD]
theorem D8:∀l:List Int,(l.flatMap λk=>[k])=l
 | []=>rfl
 | a::l=>by
   rw[bD,D8 l]
   rfl
theorem F1(g:Good m j)(R:ε m j r d i){v:Int}(t:0<=v)(q:v<m):∀(n:Nat){u:Int},0<=u->u<m->m.toNat-i u<=n->((kd m j r d u).flatMap (bO m j r d i)).filter (λb=>decide (d b=v))=if v∈bO m j r d i u then kd m j r d v else[]
 | n,u,u0,u1,hn=>by
   have st:=fM g R u0 u1;have p:(bO m j r d i u).Nodup:=(oX g R _ u u0 u1).1;rw[st]at p;obtain⟨o,h⟩:=bf.mp p;have x:∀k∈kd m j r d u,(bO m j r d i k).filter (λb=>decide (d b=v))=(if u=v then[k]else[])++if v∈bO m j r d i k then kd m j r d v else[]:=λk f=>by
    have w:=uc g R u0 u1 f;rw[fM g R w.1.1.1 w.1.1.2,lX];have l:((kd m j r d k).flatMap (bO m j r d i)).filter (λb=>decide (d b=v))=if v∈bO m j r d i k then kd m j r d v else[]:=by
     cases n with
     | zero=>lia
     | succ n=>exact F1 g R t q n w.1.1.1 w.1.1.2 (by lia)
    rw[show((bT m j (front r d k) k).flatMap (bO m j r d i)).filter (λb=>decide (d b=v))=_ from l,fM g R w.1.1.1 w.1.1.2,w.1.2.2];by_cases c:u=v
    .rw[aj (ba c),aj c]
     rfl
    .rw[ah (by rw[b4];exact c),ah c]
     rfl
   rw[GJ,nN x];by_cases c:u=v
   .subst c;have s:u∈bO m j r d i u:=(by rw[st];exact .head _);rw[aj s];have:((kd m j r d u).flatMap λk=>(if u=u then[k]else[])++if u∈bO m j r d i k then kd m j r d u else[])=(kd m j r d u).flatMap λk=>[k]:=nN λk f=>by
     rw[aj rfl,ah (λe=>o (eY.mpr ⟨k,f,e⟩)),bJ]
    rw[this,D8]
   .have:((kd m j r d u).flatMap λk=>(if u=v then[k]else[])++if v∈bO m j r d i k then kd m j r d v else[])=(kd m j r d u).flatMap λk=>if v∈bO m j r d i k then kd m j r d v else[]:=nN λk f=>by rw[ah c,fW]
    rw[this,Ga h,st];by_cases a:v∈(bT m j (front r d u) u).flatMap (bO m j r d i)
    .rw[aj a,aj (.tail _ a)]
    .rw[ah a,ah (λe=>(aq.mp e).elim (λz=>c z.symm) a)]
theorem P2(g:Good m j)(R:ε m j r d i)(l:0<=r)(f:r<m){a:eu}(k:bO m j r d i r=r::a)(O:Order m r d a){v:Int}(c:0<=v)(n:v<m):oK m j r d i a v=((kd m j r d v).filter λb=>decide (ν m j r d i b*tup j d b=ν m j r d i v)).getLast?:=by
 have h:=F1 g R c n (m.toNat-i r) l f (ax _);have e:(kd m j r d r).flatMap (bO m j r d i)=a:=by
  have:=fM g R l f;rw[k]at this;exact(dy this).2.symm
 rw[e,k,aj (by
  rcases O.all v c n with z|z
  .rw[z];exact .head _
  .exact .tail _ z)]at h
 unfold oK;rw[<-h,List.filter_filter]
 congr 1
 refine List.filter_congr λb _=>?_;rw[<-Bool.decide_and];exact iX.mpr ⟨λ⟨x,y⟩=>⟨y,x⟩,λ⟨x,y⟩=>⟨y,x⟩⟩
theorem wP{f:Int->List Int}:∀{l:eu},(∀k∈l,k∈f k)->(l.flatMap f).Nodup->l.Nodup
 | [],_,_=>mm
 | a::l,h,nd=>by
   rw[bD]at nd;obtain⟨_,c,b⟩:=dC.mp nd;refine bf.mpr ⟨λz=>?_,wP (λk e=>h k (.tail _ e)) c⟩;exact b a (h a (.head _)) a (eY.mpr ⟨a,z,h a (.head _)⟩) rfl
theorem Oy{p:Int->Bool}{b a:eu}{k:Int}(s:(b++k::a).Nodup):((b++k::a).filter p).getLast?=some k↔(p k&&!(a.any p))=true:=by
 obtain⟨_,n,q⟩:=dC.mp s;have u:k∉a:=(bf.mp n).1;have t:k∉b:=λz=>q k z k (.head _) rfl;rw[cH,b5,fX];by_cases f:a.any p=true
 .have ne:a.filter p≠[]:=λz=>by
   obtain⟨x,g,o⟩:=List.any_eq_true.mp f;have:x∈a.filter p:=bG.mpr ⟨g,o⟩;rw[z]at this;cases this
  have e:(b.filter p++(k::a).filter p).getLast?=(a.filter p).getLast?:=by
   obtain⟨l,v⟩:∃l,b.filter p++(k::a).filter p=l++a.filter p:=by
    rw[lX];by_cases c:p k=true
    .rw[aj c];exact⟨b.filter p++[k],by rw[bW];rfl⟩
    .rw[ah c];exact⟨_,rfl⟩
   rw[v,jJ];cases h:(a.filter p).getLast? with
   | none=>exact absurd (iu.mp h) ne
   | some x=>rfl
  rw[e]
  constructor
  .intro z;exact absurd ((bG.mp (fL z)).1) u
  .intro z;rw[f]at z;cases z.2
 .have hf:a.filter p=[]:=List.filter_eq_nil_iff.mpr λx g o=>f (List.any_eq_true.mpr ⟨x,g,o⟩);rw[lX,hf];by_cases c:p k=true
  .rw[aj c,jJ];exact⟨λ_=>⟨c,Bool.eq_false_iff.mpr f⟩,λ_=>rfl⟩
  .rw[ah c,bJ]
   constructor
   .intro z;exact absurd ((bG.mp (fL z)).1) t
   .intro z;exact absurd z.1 c
theorem QQ(g:Good m j)(R:ε m j r d i)(q:0<=r)(u:r<m){h:eu}(w:bO m j r d i r=r::h)(O:Order m r d h){v:Int}(f:0<=v)(c:v<m){l a:eu}{k:Int}(e:kd m j r d v=l++k::a):oK m j r d i h v=some k↔(decide (ν m j r d i k*tup j d k=ν m j r d i v)&&!(a.any λb=>decide (ν m j r d i b*tup j d b=ν m j r d i v)))=true:=by
 have t:(kd m j r d v).Nodup:=by
  have x:=fM g R f c;have o:(bO m j r d i v).Nodup:=(oX g R _ v f c).1;rw[x]at o;have s:=(bf.mp o).2;exact wP (λk n=>by rw[fM g R ((bB g R f c).mp n).1.1 ((bB g R f c).mp n).1.2];exact .head _) s
 rw[P2 g R q u w O f c,e];exact Oy (p:=λb=>decide (ν m j r d i b*tup j d b=ν m j r d i v)) (e▸t)
end
end Pb
namespace Pb
open L2 PySem PySem.W NumText
section
variable{c a:Int->Bool}{b:Int->Nat->Int}
theorem FG{f:Nat->Int}:∀{k:Nat},(∀i,i<k->0<=f i)->0<=Κ k f
 | 0,_=>bC _
 | k+1,h=>by
   have g:=FG (k:=k) λi e=>h i (by lia);have d:=h k (by lia);show 0<=Κ k f+f k
   lia
end
def Ym(a k:Nat):Int:=if k%2=0 then(ch (a+k) k:Int)else -(ch (a+k) k:Int)
def Y6:Int->Nat->Int
 | .ofNat n,k=>(ch n k:Int)
 | .negSucc a,k=>Ym a k
def nwN:List Int->Nat->Nat->Int
 | [],_,_=>0
 | d::r,a,k=>d*Ym a k+nwN r a (k+1)
def gE(b:eu)(n:Int)(k:Nat):Int:=match n with
 | .ofNat n=>Ξ b n k
 | .negSucc a=>nwN b a k
theorem pU(a:eu)(n k:Nat):gE a (n:Int) k=Ξ a n k:=rfl
theorem oY(n:Int)(k:Nat):gE [] n k=0:=by cases n<;>rfl
theorem jV(d:Int)(r:eu)(n:Int)(k:Nat):gE (d::r) n k=d*Y6 n k+gE r n (k+1):=by cases n<;>rfl
theorem tT(n:Int):Y6 n 0=1:=by
 cases n with
 | ofNat n=>show((ch n 0:Nat):Int)=1;rw[pV];rfl
 | negSucc a=>show Ym a 0=1;unfold Ym;rw[aj rfl,pV];rfl
theorem wJ(a k:Nat):Ym a (k+1)=-(if k%2=0 then(ch (a+(k+1)) (k+1):Int)else -(ch (a+(k+1)) (k+1):Int)):=by
 unfold Ym;by_cases c:k%2=0
 .rw[ah (by lia),aj c]
 .rw[aj (by lia),ah c,Int.neg_neg]
theorem Dm:∀k:Nat,ch k k=1
 | 0=>rfl
 | k+1=>by
   show ch k k+ch k (k+1)=1;rw[Dm k,Gg (by lia)]
theorem Kw(n:Int)(k:Nat):Y6 (n+1) (k+1)=Y6 n k+Y6 n (k+1):=by
 cases n with
 | ofNat n=>
   show((ch n k+ch n (k+1):Nat):Int)=(ch n k:Int)+(ch n (k+1):Int);rw[dJ]
 | negSucc a=>
   cases a with
   | zero=>
     show((0:Nat):Int)=Ym 0 k+Ym 0 (k+1);rw[wJ];unfold Ym;rw[kP,kP,Dm,Dm];split<;>rfl
   | succ a=>
     show Ym a (k+1)=Ym (a+1) k+Ym (a+1) (k+1);rw[wJ,wJ];unfold Ym;have e:ch (a+1+(k+1)) (k+1)=ch (a+1+k) k+ch (a+1+k) (k+1):=rfl;rw[e,dJ,show a+(k+1)=a+1+k by lia];split<;>lia
theorem OL(n:Int)(k:Nat):Y6 n (k+1)*((k:Int)+1)=Y6 n k*(n-(k:Int)):=by
 cases n with
 | ofNat n=>exact vT n k
 | negSucc a=>
   show Ym a (k+1)*((k:Int)+1)=Ym a k*(Int.negSucc a-(k:Int));have h:=vT (a+k) k;have e:ch (a+(k+1)) (k+1)=ch (a+k) k+ch (a+k) (k+1):=rfl;have b:(ch (a+(k+1)) (k+1):Int)*((k:Int)+1)=(ch (a+k) k:Int)*((a:Int)+(k:Int)+1):=by
    rw[e,dJ,eR,h,<-dh]
    congr 1
    rw[dJ]
    lia
   have c:Int.negSucc a-(k:Int)=-((a:Int)+(k:Int)+1):=by
    rw[Int.negSucc_eq]
    lia
   rw[wJ,c,Int.mul_neg,o9];unfold Ym
   congr 1
   split
   .exact b
   .rw[o9,o9,b]
theorem Gq:∀(r:eu)(n:Int)(k:Nat),gE r (n+1) (k+1)=gE r n (k+1)+gE r n k
 | [],n,k=>by rw[oY,oY,oY];rfl
 | d::r,n,k=>by
   rw[jV,jV,jV,Gq r n (k+1),Kw,dh]
   lia
theorem LO(d:Int)(r:eu)(n:Int):gE (d::r) (n+1) 0-gE (d::r) n 0=gE r n 0:=by
 rw[jV,jV,tT,tT,Gq]
 lia
theorem Oo(r:eu)(d:Int)(n:Int)(k:Nat):gE (r++[d]) n k=gE r n k+d*Y6 n (k+r.length):=by
 induction r generalizing k with
 | nil=>
   rw[fW,jV,oY,oY,dY,Nat.add_zero]
   lia
 | cons x r ih=>
   rw[ft,jV,jV,ih (k+1),aD,show k+1+r.length=k+(r.length+1) by lia]
   lia
theorem Pd.mul:∀(N:Nat){d e:Nat}{f g:Nat->Int},d+e<=N->Pd d f->Pd e g->Pd (d+e) (λn=>f n*g n)
 | N,0,e,f,g,_,hf,hg=>by
   have h:(λn=>f n*g n)=λn=>f 0*g n:=by
    funext n
    rw[hf n]
   rw[h,kP];exact hg.smul _
 | N,d+1,0,f,g,_,hf,hg=>by
   have h:(λn=>f n*g n)=λn=>g 0*f n:=by
    funext n
    rw[hg n,fh]
   rw[h];exact hf.smul _
 | 0,d+1,e+1,_,_,hn,_,_=>by lia
 | N+1,d+1,e+1,f,g,hn,hf,hg=>by
   have b:=Pd.mul N (d:=d+1) (e:=e) (f:=λn=>f (n+1)) (g:=dl g) (by lia) (hf.shift 1) hg;have a:=Pd.mul N (d:=d) (e:=e+1) (f:=dl f) (g:=g) (by lia) hf hg;rw[show d+1+(e+1)=d+e+1+1 by lia];show Pd (d+e+1) (dl λn=>f n*g n);have h:(dl λn=>f n*g n)=λn=>f (n+1)*dl g n+dl f n*g n:=by
    funext n
    show f (n+1)*g (n+1)-f n*g n=f (n+1)*(g (n+1)-g n)+(f (n+1)-f n)*g n;rw[gX,Int.sub_mul]
    lia
   rw[h];rw[show d+1+e=d+e+1 by lia]at b;rw[show d+(e+1)=d+e+1 by lia]at a;exact b.add a
theorem Pd.Κ{d:Nat}{f:Nat->Int}(h:Pd d f):Pd (d+1) (λj=>Κ j f):=by
 show Pd d (dl λj=>Pb.Κ j f);have e:(dl λj=>Pb.Κ j f)=f:=by
  funext j
  show Pb.Κ j f+f j-Pb.Κ j f=f j
  lia
 rw[e];exact h
theorem Gx{z:Int}{x k:Nat}(d:-100<=z)(c:z+1<=2^x)(e:8<=x)(h:k<=100):(Y6 z k).natAbs<=2^(x*k):=by
 cases z with
 | ofNat n=>
   show((ch n k:Nat):Int).natAbs<=_;rw[kM];have b:n+1<=2^x:=by
    have:((2^x:Nat):Int)=(2:Int)^x:=(by simp);have f:((n:Int)+1)<=2^x:=c
    lia
   exact aN (xV n k) (by rw[og];exact im b k)
 | negSucc a=>
   have g:a<=99:=by
    rw[Int.negSucc_eq]at d
    lia
   have b:=xV (a+k) k;have f:(a+k+1)^k<=2^(x*k):=by
    rw[og];refine im ?_ k;exact aN (show a+k+1<=2^8 by lia) (bP (by decide) e)
   show(Ym a k).natAbs<=_;unfold Ym;split
   .rw[kM];lia
   .rw[Int.natAbs_neg,kM];lia
theorem wz{z:Int}{x b:Nat}(d:-100<=z)(a:z+1<=2^x)(e:8<=x):∀{cs:eu}{k:Nat},k+cs.length<=100->(∀c∈cs,c.natAbs<=2^b)->(gE cs z k).natAbs<=cs.length*2^(b+x*100)
 | [],k,_,_=>by rw[oY];exact bx _
 | c::cs,k,hk,hc=>by
   rw[aD]at hk;have j:=wz d a e (cs:=cs) (k:=k+1) (by lia) λy g=>hc y (.tail _ g);have h:=Gx d a e (k:=k) (by lia);have f:=hc c (.head _);have i:(c*Y6 z k).natAbs<=2^(b+x*100):=by
    rw[kh,eG];refine bR f (aN h (bP (by decide) ?_));exact ip x (by lia)
   rw[jV,aD,fm,lO];have:=ja (c*Y6 z k) (gE cs z (k+1))
   lia
end Pb
namespace L2
open PySem PySem.Spec PyProof.Rows
section
variable{X:Cx}
def abn:V->List V->Hp->VK->Prop:=λx e H Q=>∃d b c a,x=.ref d/\e=[.ref b]/\H d=some (.dK c)/\H b=some (.dK a)/\d≠b/\c.length+a.length<=sizeLine/\Q .π (upd H d (.dK (j1 c a)))
theorem M8:MtM X "dict.update" abn:=by
 intro j s C H x D v E Q I o A h;obtain⟨d,b,B,a,rfl,rfl,n,z,ne,m,q⟩:=h;cases o;obtain⟨u,rfl,y⟩:=A.one;cases y;obtain⟨L,r,f,i,c⟩:=Fl I.χ n;obtain⟨K,p,g,k,e⟩:=Fl I.χ z;refine call_meetsIn F.slot_dict_update c.typeIs F.entry_dict_update (F.args_dict_update_2 _ _) (meets_dict_update (iz X.prog X.w) d b ne p) ⟨f,g,c,e,?_,λG l J t=>?_⟩
 .rw[<-Paired.length i,<-Paired.length k];exact m
 .refine⟨.π,_,yB I (by rw[n];exact True.intro) t (let ⟨q,_,_,hq,_⟩:=l;⟨q,hq⟩) (G4 (aN (pJ a B) m) r (k.merge i) l),rfl,q⟩
end
end L2
namespace Pb
open L2 PySem PySem.W NumText
theorem Jz{cs:eu}{z:Int}(d:-100<=z)(a:z+1<=2^64)(f:cs.length<=24)(cb:∀c∈cs,c.natAbs<=2^15000):(gE cs z 0).natAbs<Ϧ:=by
 have h:=wz (x:=64) (b:=15000) d a (by decide) (cs:=cs) (k:=0) (by lia) cb;refine hZ (k:=21405) (aN h ?_) (by decide);have e:(2:Nat)^21405=32*2^(15000+64*100):=by rw[show 21405=5+(15000+64*100)from rfl,eG 2 5]
 rw[e];exact dA _ (aN f (by decide))
theorem vS{z:Int}{k:Nat}(b:-100<=z)(a:z+1<=2^64)(c:k<=24):(Y6 z k).natAbs<Ϧ:=hZ (Gx b a (by decide) (by lia)) (by lia)
theorem Bi{a:eu}(cb:∀c∈a,c.natAbs<=2^15000):∀c∈a,c.natAbs<Ϧ:=λc b=>hZ (cb c b) (by decide)
def ϩ(m:Nat)(F:Nat->Int):List Int:=(List.range m).map λj=>Κ j F
def ϵ(b a:eu)(c:Nat)(z:Int)(g:Nat):Int:=Ξ a (υ c g) 0*gE b (z-(g:Int)) 0
theorem Sz{a:eu}{c:Int}(h:c∈nxr a):∃x∈a,∃y∈a,c=y-x:=by
 unfold nxr at h;obtain⟨p,b,rfl⟩:=bz.mp h;exact⟨p.1,(ig b).1,p.2,cj (ig b).2,rfl⟩
theorem zP:∀(n:Nat){xs:eu}{b:Nat},xs.length=n->(∀x∈xs,x.natAbs<=2^b)->∀c∈Ϣ xs,c.natAbs<=2^(b+n)
 | 0,xs,b,hl,_,c,hc=>by
   rw[List.length_eq_zero_iff.mp hl]at hc;cases hc
 | n+1,[],b,hl,_,c,hc=>by cases hc
 | n+1,x::r,b,hl,hx,c,hc=>by
   rw[Gj]at hc;rcases aq.mp hc with rfl|hc
   .exact aN (hx _ (.head _)) (bP (by decide) (by lia))
   .have h:=zP n (xs:=nxr (x::r)) (b:=b+1) (by rw[yw,hl];rfl) (λy f=>by
     obtain⟨u,g,v,e,rfl⟩:=Sz f;have d:=hx u g;have a:=hx v e;rw[gc,Nat.mul_two];exact aN (Int.natAbs_sub_le _ _) (by first|exact gD d a|exact gD a d)) c hc
    rw[show b+(n+1)=b+1+n by lia];exact h
theorem Ay{F:Nat->Int}{b:Nat}:∀{k:Nat},(∀i,i<k->(F i).natAbs<=2^b)->(Κ k F).natAbs<=k*2^b
 | 0,_=>by show(0:Int).natAbs<=_;lia
 | k+1,h=>by
   have c:=Ay (F:=F) (k:=k) λi d=>h i (by lia);have a:=h k (by lia);show(Κ k F+F k).natAbs<=_;rw[fm,lO];exact aN (ja _ _) (gD c a)
theorem MH{cs:eu}{z:Int}(d:-100<=z)(a:z+1<=2^64)(f:cs.length<=24)(cb:∀c∈cs,c.natAbs<=2^15000):(gE cs z 0).natAbs<=2^21405:=by
 have h:=wz (x:=64) (b:=15000) d a (by decide) (cs:=cs) (k:=0) (by lia) cb;refine aN h ?_;have e:(2:Nat)^21405=32*2^(15000+64*100):=by rw[show 21405=5+(15000+64*100)from rfl,eG 2 5]
 rw[e];exact dA _ (aN f (by decide))
theorem Hk{b a:eu}{c:Nat}{z:Int}{g:Nat}(o:-70<=z)(m:z+1<=2^64)(k:g<=24)(j:c<=1000000)(f:b.length<=24)(l:a.length<=24)(h:∀c∈b,c.natAbs<=2^15000)(i:∀c∈a,c.natAbs<=2^15000):(ϵ b a c z g).natAbs<=2^42810:=by
 unfold ϵ;have n:υ c g+1<=2^25:=by
  unfold υ;have e:(g+1)*c<=25*1000000:=bR (by lia) j;have d:(2:Nat)^25=33554432:=rfl
  lia
 have e:(Ξ a (υ c g) 0).natAbs<=2^21405:=MH (z:=((υ c g:Nat):Int)) (by lia) (by lia) l i;have d:(gE b (z-(g:Int)) 0).natAbs<=2^21405:=MH (by lia) (by lia) f h;rw[kh,show 42810=21405+21405 from rfl,eG];exact bR e d
theorem Jg{m:Nat}{d a:eu}{c:Nat}{z:Int}(u:m<=24)(g:-70<=z)(r:z+1<=2^64)(l:c<=1000000)(h:d.length<=24)(q:a.length<=24)(f:∀c∈d,c.natAbs<=2^15000)(k:∀c∈a,c.natAbs<=2^15000):∀x∈Ϣ (ϩ m (ϵ d a c z)),x.natAbs<Ϧ:=λx n=>by
 have p:(ϩ m (ϵ d a c z)).length=m:=by unfold ϩ;rw[aa,bI]
 have:=zP m (b:=42815) p (λy e=>by
  unfold ϩ at e;obtain⟨j,o,rfl⟩:=bz.mp e;have s:=cA.mp o;refine aN (Ay λi t=>Hk g r (show i<=24 by lia) l h q f k) ?_;rw[show 42815=5+42810 from rfl,eG 2 5];exact dA _ (show j<=2^5 by lia)) x n
 exact hZ this (by lia)
theorem DF(a:eu):(Ϣ a).length=a.length:=by
 unfold Ϣ;generalize (λi=>a.getD i 0)=f
 induction a.length generalizing f with
 | zero=>rfl
 | succ n ih=>show(_::Yb n _).length=_;rw[aD,ih]
section
variable{fr be:Int->Bool}{ws:Int->Nat->Int}
theorem rB{a b:Int}(d:1<=a)(c:1<=b):1<=a*b:=dE d c (by decide) (by lia)
theorem q9:∀{ks:eu},(∀k∈ks,∀n,1<=ws k n)->∀n,1<=ξ fr be ws ks n
 | [],_,_=>bC _
 | k::ks,h,n=>by
   have b:=h k (.head _);have a:=q9 (ks:=ks) λx c=>h x (.tail _ c);show 1<=if fr k=true then _ else if be k=true then _ else _;split
   .show 1<=Κ n _+ws k n*ξ fr be ws ks (n-n);have:=FG (k:=n) (f:=λi=>ws k i*ξ fr be ws ks (n-i)) λi _=>bE (by decide) (rB (b i) (a (n-i)));have:=rB (b n) (a (n-n))
    lia
   .split
    .exact rB (b _) (a _)
    .exact rB (b _) (a _)
variable{m r:Int}{l:hT}{d:fc}{j:fz}{c:fz}{o:eu}
theorem vf(g:Good m l)(R:ε m l r d j):∀(n:Nat){v:Int},0<=v->v<m->m.toNat-j v<=n->∀h,1<=wy m l r d j fr be c v h
 | 0,v,h0,h1,e=>by have:=lC R h0 h1;lia
 | n+1,v,h0,h1,e=>by
   rw[ms g R h0 h1];refine q9 λk q i=>?_;obtain⟨a,f,p⟩:=(bB g R h0 h1).mp q;have b:=R.pos a.1 a.2 f;rw[p]at b;exact vf g R n a.1 a.2 (by lia) _
theorem Sa(g:Good m l)(R:ε m l r d j)(O:Order m r d o){k:Int}(a:0<=k)(b:k<m)(e:k≠r):ν m l r d j k*tup l d k<=ν m l r d j (d k):=by
 have p:=(R.up k a b e).1;have:=(Je g R O).std k ((O.all k a b).resolve_left e);rw[fD a b,fD p.1 p.2]at this;exact this
theorem CS(g:Good m l)(R:ε m l r d j)(O:Order m r d o){k:Int}(b:0<=k)(f:k<m)(a:k≠r)(h:(c k:Int)=tup l d k)(i:Nat):ν m l r d j k*((υ (c k) i:Nat)+1)<=ν m l r d j (d k)*((i:Int)+1):=by
 have w:=Sa g R O b f a;have t:=(gP g R b f a).1;have e:((υ (c k) i:Nat):Int)+1=tup l d k*((i:Int)+1):=by
  unfold υ;have:1<=(i+1)*c k:=bR (show 1<=i+1 by lia) (show 1<=c k by lia);rw[jP this,iB,h,fh];simp
 rw[e,<-hG];exact ce w (by lia)
theorem sI{w a b:Int}(h:1<=w)(f:0<=a)(e:w*a<=b):a<=b:=bE (by have:=ce h f;lia) e
theorem J0(g:Good m l)(R:ε m l r d j)(O:Order m r d o)(w:∀k,0<=k->k<m->k≠r->(c k:Int)=tup l d k){x:Nat}{v:Int}(s:0<=v)(q:v<m)(y:∀k∈kd m l r d v,∀h:Nat,ν m l r d j k*((h:Int)+1)<=2^x->0<=wy m l r d j fr be c k h/\wy m l r d j fr be c k h<=2^(x*oR m l r d j k)){ks:eu}(b:∀k∈ks,k∈kd m l r d v){h:Nat}(n:ν m l r d j v*((h:Int)+1)<=2^x):ξ fr be (λk g=>wy m l r d j fr be c k (υ (c k) g)) ks h<=2^(x*(ks.map λk=>oR m l r d j k+1).sum):=by
 have u:=(f7 g R s q).1;have:=(vY (fr:=fr) (be:=be) (ws:=λk g=>wy m l r d j fr be c k (υ (c k) g)) (X:=h) (x:=x) (by rw[dJ];exact sI u (by lia) n) (a:=λk=>x*oR m l r d j k) (ks:=ks) (λk p i z=>by
  obtain⟨e,f,t⟩:=(bB g R s q).mp (b k p);refine y k (b k p) _ (bE (CS g R O e.1 e.2 f (w k e.1 e.2 f) i) ?_);rw[t];exact bE (cm (by lia) (by lia)) n) h (ax _)).2
 refine bE this (z3 ?_);rw[jf];exact rz λk _=>by rw[fm,jf];lia
theorem Jc(g:Good m l)(R:ε m l r d j)(O:Order m r d o)(f:∀k,0<=k->k<m->k≠r->(c k:Int)=tup l d k){x:Nat}:∀(n:Nat){v:Int},0<=v->v<m->m.toNat-j v<=n->∀h:Nat,ν m l r d j v*((h:Int)+1)<=2^x->0<=wy m l r d j fr be c v h/\wy m l r d j fr be c v h<=2^(x*oR m l r d j v)
 | 0,v,h0,h1,e=>by have:=lC R h0 h1;lia
 | n+1,v,h0,h1,e=>λh t=>by
   refine⟨bE (by decide) (vf g R _ h0 h1 (ax _) h),?_⟩;rw[ms g R h0 h1,<-jA g R h0 h1];refine J0 g R O f h0 h1 (λk b i p=>?_) (λk b=>b) t;obtain⟨a,s,u⟩:=(bB g R h0 h1).mp b;have q:=R.pos a.1 a.2 s;rw[u]at q;exact Jc g R O f n a.1 a.2 (by lia) i p
end
section
variable{m r w:Int}{i:hT}{b:fc}{d:fz}{p o j:fc}
structure Zj(m:Int)(i:hT)(r:Int)(b:fc)(d:fz)(w:Int)(p o:fc):Prop where
 rt:p r=w-1
 up:∀v,0<=v->v<m->v≠r->p v=(o v+1)*tup i b v-1/\(o v≠0->ν m i r b d v*tup i b v=ν m i r b d (b v))
 su:∀v,0<=v->v<m->kd m i r b v≠[]->((kd m i r b v).map o).sum=p v
theorem Zj.Ϗ(g:Good m i)(R:ε m i r b d)(N:Zj m i r b d w p o)(h:∀v,0<=v->v<m->j v=if kd m i r b v=[]then p v else 0):∀(n:Nat)(v:Int),m.toNat-d v=n->0<=v->v<m->Pb.Ϗ m i r b d j (Υ i b) v=p v
 | 0,v,e,h0,h1=>by
   have:=lC R h0 h1
   lia
 | n+1,v,e,h0,h1=>by
   rw[rf g R h0 h1,h v h0 h1];have s:∀u∈bT m i (front r b v) v,Υ i b u (Pb.Ϗ m i r b d j (Υ i b) u)=o u:=λu l=>by
    obtain⟨a,f,q⟩:=(bB g R h0 h1).mp l;have k:=R.pos a.1 a.2 f;rw[q]at k;rw[Zj.Ϗ g R N h n u (by lia) a.1 a.2,(N.up u a.1 a.2 f).1];exact JZ (gP g R a.1 a.2 f).1
   rw[oQ s];by_cases c:kd m i r b v=[]
   .rw[aj c,show bT m i (front r b v) v=[]from c];exact lI _
   .rw[ah c,N.su v h0 h1 c];exact cW _
theorem Zj.sums(g:Good m i)(R:ε m i r b d)(N:Zj m i r b d w p o)(q:∀v,0<=v->v<m->j v=if kd m i r b v=[]then p v else 0):∀(n:Nat)(v:Int),m.toNat-d v=n->0<=v->v<m->((bO m i r b d v).map λu=>j u-ν m i r b d u*(tup i b u-1)).sum=ν m i r b d v*p v-ν m i r b d v*(tup i b v-1)
 | 0,v,e,h0,h1=>by
   have:=lC R h0 h1
   lia
 | n+1,v,e,h0,h1=>by
   rw[fM g R h0 h1,az,aW,AL];have y:∀u∈bT m i (front r b v) v,((bO m i r b d u).map λu=>j u-ν m i r b d u*(tup i b u-1)).sum=ν m i r b d v*o u:=λu A=>by
    obtain⟨f,s,t⟩:=(bB g R h0 h1).mp A;have z:=R.pos f.1 f.2 s;rw[t]at z;obtain⟨B,h⟩:=N.up u f.1 f.2 s;rw[Zj.sums g R N q n u (by lia) f.1 f.2,B];rw[t]at h;generalize ν m i r b d v=V at h ⊢;generalize ν m i r b d u=W at h ⊢;generalize tup i b u=k at h ⊢;by_cases c:o u=0
    .rw[c,cW,f8,iE]
     lia
    .rw[<-h c,gX,gX,eR,dh,iU,f8,hG,fh (o u)]
     lia
   have x:∀l:List Int,(l.map λu=>ν m i r b d v*o u).sum=ν m i r b d v*(l.map o).sum:=λl=>by
    induction l with
    | nil=>exact(iE _).symm
    | cons a l ih=>rw[az,az,aW,aW,ih,dh]
   rw[oQ y,x,q v h0 h1];by_cases c:kd m i r b v=[]
   .have w1:ν m i r b d v=1:=by
     show fo mx m i r b d _ _ v=1;rw[vP g R h0 h1,show bT m i (front r b v) v=[]from c]
     rfl
    rw[aj c,w1,show bT m i (front r b v) v=[]from c];show p v-_+1*0=_
    lia
   .rw[ah c,N.su v h0 h1 c]
    lia
theorem Zj.total(g:Good m i)(R:ε m i r b d)(N:Zj m i r b d w p o)(l:∀v,0<=v->v<m->j v=if kd m i r b v=[]then p v else 0)(c:0<=r)(e:r<m){a:eu}(n:bO m i r b d r=r::a)(O:Order m r b a):((cY m.toNat).map j).sum=ϡ m i r b (cJ m i r b d) w:=by
 have h:=Zj.sums g R N l _ r rfl c e;rw[n,zG,N.rt]at h;have q:((r::a).map j).sum=((cY m.toNat).map j).sum:=by
  refine tZ ((ik O.nd (kC _) λx=>?_).map _);rw[aq,gM];refine⟨λh=>?_,λh=>O.all x h.1 (by have:=h.2;lia)⟩;rcases h with h|h
  .rw[h];exact⟨c,by lia⟩
  .have:=O.Λ x h;exact⟨this.1,by lia⟩
 rw[<-q];unfold ϡ;rw[<-O.sums,show(cJ m i r b d).getD r.toNat 0=ν m i r b d r from fD c e];have s:(a.map (Y5 i b (cJ m i r b d))).sum=(a.map λu=>ν m i r b d u*(tup i b u-1)).sum:=by
  refine oQ λu k=>?_;unfold Y5 tup;rw[show(cJ m i r b d).getD u.toNat 0=ν m i r b d u from fD (O.Λ u k).1 (O.Λ u k).2]
 rw[s];rw[az (f:=λu=>ν m i r b d u*(tup i b u-1)),aW]at h
 lia
theorem Jh(g:Good m i)(R:ε m i r b d){B:Int}(l:∀v,0<=j v/\j v<=B):∀(n:Nat)(v:Int),m.toNat-d v=n->0<=v->v<m->Pb.Ϗ m i r b d j (Υ i b) v<=B*((oR m i r b d v:Int)+1)
 | 0,v,e,h0,h1=>by
   have:=lC R h0 h1
   lia
 | n+1,v,e,h0,h1=>by
   have s:∀f:List Int,(∀k∈f,k∈kd m i r b v)->(f.map λc=>Υ i b c (Pb.Ϗ m i r b d j (Υ i b) c)).sum<=B*((f.map λk=>oR m i r b d k+1).sum:Nat):=λf t=>by
    induction f with
    | nil=>exact Int.le_of_eq (iE _).symm
    | cons u f ih=>
      have:=ih λk h=>t k (.tail _ h);obtain⟨a,x,A⟩:=(bB g R h0 h1).mp (t u (.head _));have z:=R.pos a.1 a.2 x;rw[A]at z;have q:=Jh g R l n u (by lia) a.1 a.2;have y:=Bl (m:=m) (r:=r) (par:=b) (dep:=d) g (λv=>(l v).1) u;have C:=(gP g R a.1 a.2 x).1;rw[az,az,aW,aW,dJ,dh];have:Υ i b u (Pb.Ϗ m i r b d j (Υ i b) u)<=Pb.Ϗ m i r b d j (Υ i b) u:=by
       show _/tup i b u<=_;exact Int.ediv_le_self _ y
      have e:((oR m i r b d u+1:Nat):Int)=(oR m i r b d u:Int)+1:=rfl;rw[e]
      lia
   have:=s _ λk h=>h;rw[rf g R h0 h1];rw[jA g R h0 h1]at this;have:=(l v).2;rw[dh,iU];exact bE (Int.add_le_add this (s _ λk h=>h)) (by rw[jA g R h0 h1];lia)
end
theorem RT{m r w:Int}{d:hT}{a:fc}{b:fz}(g:Good m d)(R:ε m d r a b)(h:0<=r)(i:r<m)(s:1<=w):ν m d r a b r*w<=3*ϡ m d r a (cJ m d r a b) w+1:=by
 have q:∀x∈((cY m.toNat).filter λv=>decide (v≠r)).map (Y5 d a (cJ m d r a b)),0<=x:=λx t=>by
  obtain⟨v,l,rfl⟩:=bz.mp t;obtain⟨l,u⟩:=bG.mp l;obtain⟨n,B⟩:=gM.mp l;have j:v<m:=by lia
  have p:2<=(c9 d v (a v)).getD 1:=(gP g R n j (bZ u)).1;unfold Y5;rw[show(cJ m d r a b).getD v.toNat 0=ν m d r a b v from fD n j];exact dU (by have:=(f7 g R n j).1;lia) (by lia)
 have C:=(f7 g R h i).1;have y:=F6 q;have E:=dU (show 0<=ν m d r a b r by lia) (show 0<=w-1 by lia);have e:ν m d r a b r*w=ν m d r a b r*(w-1)+ν m d r a b r:=by rw[gX,iU];lia
 unfold ϡ;rw[show(cJ m d r a b).getD r.toNat 0=ν m d r a b r from fD h i,e];by_cases c:kd m d r a r=[]
 .have s:ν m d r a b r=1:=by
   show fo mx m d r a b _ _ r=1;rw[vP g R h i,show bT m d (front r a r) r=[]from c]
   rfl
  lia
 .obtain⟨k,hk,ek⟩:=xO g R h i c;obtain⟨f,o,z⟩:=(bB g R h i).mp hk;have p:=(gP g R f.1 f.2 o).1;have A:=(f7 g R f.1 f.2).1;have:=CD q (bz.mpr ⟨k,bG.mpr ⟨gM.mpr ⟨f.1,by lia⟩,ba o⟩,rfl⟩);unfold Y5 at this;rw[show(cJ m d r a b).getD k.toNat 0=ν m d r a b k from fD f.1 f.2,show(c9 d k (a k)).getD 1=tup d a k from rfl,gX,iU,ek]at this;have D:ν m d r a b k*2<=ν m d r a b r:=by rw[<-ek];exact cm p (by lia)
  unfold Y5
  lia
theorem RD{j b N W:Int}{i g D a:Nat}(h:j.natAbs<=i*2^(50000+600*a-590))(m:b.natAbs<=2^50000)(d:N.natAbs<=2^(50000+600*g))(k:0<=W/\W<=2^(D*(45+20*D)))(n:g+1+D<=a)(l:a<=23):IntMulOk N W/\(j+b+N*W).natAbs<=(i+1)*2^(50000+600*a-590):=by
 have f:W.natAbs<=2^(600*D):=aN (rM k) (bP (by decide) (by rw[jf 600];exact ip _ (by lia)));refine⟨qR (hZ d (by lia)) (hZ f (by lia)),?_⟩;have p:(N*W).natAbs<=2^(50000+600*a-591):=by
  rw[kh];refine aN (bR d f) ?_;rw[<-eG];exact bP (by decide) (by lia)
 have c:b.natAbs<=2^(50000+600*a-591):=aN m (bP (by decide) (by lia));have e:2^(50000+600*a-590)=2^(50000+600*a-591)*2:=by rw[<-gc];congr 1;lia
 rw[fm,lO];generalize i*2^(50000+600*a-590)=I at h ⊢;rw[e];generalize 2^(50000+600*a-591)=X at p c ⊢;refine aN (ja _ _) (aN (gD (aN (ja _ _) (gD h c)) p) ?_);rw[Nat.mul_two,Nat.add_assoc];exact ax _
theorem Sq{m:Nat}{cs csk:eu}{c:Nat}{z:Int}{g:Nat}(v:m<=24)(e:-70<=z)(t:z+1<=2^64)(r:(g:Int)+1<=2^64)(l:c<=1000000)(f:cs.length<=24)(s:csk.length<=24)(d:∀c∈cs,c.natAbs<=2^15000)(h:∀c∈csk,c.natAbs<=2^15000):(Ξ (Ϣ (ϩ m (ϵ cs csk c z))) g 0).natAbs<=2^50000:=by
 have a:(Ϣ (ϩ m (ϵ cs csk c z))).length=m:=by rw[DF];unfold ϩ;rw[aa,bI]
 have p:∀x∈Ϣ (ϩ m (ϵ cs csk c z)),x.natAbs<=2^(42815+m):=zP m (by unfold ϩ;rw[aa,bI]) λx n=>by
  obtain⟨j,q,rfl⟩:=bz.mp n;rw[cA]at q;have o:=Ay (F:=ϵ cs csk c z) (b:=42810) (k:=j) λi u=>Hk e t (by lia) l f s d h;refine aN o (aN (dA _ (show j<=2^5 by lia)) (kU (eG ..).symm))
 have:=wz (z:=(g:Int)) (x:=64) (by lia) r (by decide) (cs:=Ϣ (ϩ m (ϵ cs csk c z))) (k:=0) (by lia) p;rw[pU,a]at this;refine aN this (aN (dA _ (show m<=2^5 by lia)) ?_);rw[<-eG];exact bP (by decide) (by lia)
section
variable{m r w:Int}{k:hT}{d:fc}{f:fz}
theorem Gn{p:Int->Bool}{l:eu}{j:Nat}{u:Int}(h:l[j]?=some u)(a:p u=true):(l.take (j+1)).filter p=(l.take j).filter p++[u]:=by
 rw[cI,h,cH];exact congrArg _ (gH a)
theorem vQ{p:Int->Bool}{l:eu}{j:Nat}{u:Int}(h:l[j]?=some u)(a:p u=false):(l.take (j+1)).filter p=(l.take j).filter p:=by
 rw[cI,h,cH];exact(congrArg _ (fF (by rw[a];decide))).trans (bJ _)
theorem Order.behind(R:ε m k r d f){t:eu}(O:Order m r d t){i:Nat}{u v:Int}(o:(r::t)[i]?=some v)(q:u∈(r::t).take (i+1))(g:u≠r):d u≠v:=λz=>by
 obtain⟨j,h,c⟩:=d8 q;rw[bg]at h;rw[fI]at c;cases j with
 | zero=>exact g c.symm
 | succ j=>
   have b:t[j]?=some u:=by rw[ao (by rw[aD]at h;lia)];exact congrArg some c
   have s:=After.up (A:=t.take (j+1)) (B:=t.drop (j+1)) (S:=[r]) (by rw[cw];exact O.af) u (by rw[cI,b];exact aR _ (.head _));have l:=O.Λ u (aJ b);have n:=R.pos l.1 l.2 g;have x:d u∈(r::t).take (j+1):=by
    rw[m6];rcases s with y|y
    .rw[aE.mp y];exact .head _
    .rw[cI,b]at y;rcases aV.mp y with y|y
     .exact .tail _ y
     .have:d u=u:=aE.mp y;rw[this]at n
      lia
   obtain⟨a,p,e⟩:=d8 x;rw[bg]at p;rw[fI,z]at e;have:=(fH (show a<(r::t).length by lia) O.nd).mp (show(r::t)[a]?=(r::t)[i]? by rw[o,ao (by lia),e])
   lia
structure Sps(m:Int)(k:hT)(r:Int)(d:fc)(f:fz)(w:Int)(t:eu)(i:Nat)(E q:eu)(s:fc):Prop where
 xl:(E.length:Int)=m
 yl:(q.length:Int)=m
 rt:q.getD r.toNat 0=w-1
 up:∀u,0<=u->u<m->u≠r->d u∈(r::t).take i->q.getD u.toNat 0=(s u+1)*tup k d u-1/\(s u≠0->ν m k r d f u*tup k d u=ν m k r d f (d u))
 su:∀v∈(r::t).take i,kd m k r d v≠[]->((kd m k r d v).map s).sum=q.getD v.toNat 0
 ly:∀v,0<=v->v<m->E.getD v.toNat 0=if v∈(r::t).take i/\kd m k r d v=[]then q.getD v.toNat 0 else 0
structure Spk(m:Int)(k:hT)(r:Int)(d:fc)(f:fz)(v:Int)(n q:eu)(s:fc)(j:Nat)(C:eu)(D:fc)(o:Int):Prop where
 zl:(C.length:Int)=m
 ot:∀u,0<=u->u∉n.take j->C.getD u.toNat 0=q.getD u.toNat 0/\D u=s u
 up:∀u∈n.take j,C.getD u.toNat 0=(D u+1)*tup k d u-1/\(D u≠0->ν m k r d f u*tup k d u=ν m k r d f v)
 su:((n.take j).map D).sum+o=q.getD v.toNat 0
 lz:(∃u∈n.take j,(n.filter λu=>decide (ν m k r d f u*tup k d u=ν m k r d f v)).getLast?=some u)->o=0
variable{n q C E t:eu}{s D:fc}{v o:Int}{i j:Nat}
theorem Spk.start(a:(q.length:Int)=m):Spk m k r d f v n q s 0 q s (q.getD v.toNat 0):=⟨a,λ_ _ _=>⟨rfl,rfl⟩,λ_ h=>(nomatch h),cW _,λ⟨_,h,_⟩=>(nomatch h)⟩
theorem Spk.step(S:Spk m k r d f v n q s j C D o)(J:n.Nodup)(I:∀u∈n,0<=u/\u<m){u g:Int}(F:n[j]?=some u)(O:0<=g)(P:g<=o)(N:g≠0->ν m k r d f u*tup k d u=ν m k r d f v)(L:(n.filter λu=>decide (ν m k r d f u*tup k d u=ν m k r d f v)).getLast?=some u->g=o):Spk m k r d f v n q s (j+1) (C.set u.toNat ((g+1)*tup k d u-1)) (λx=>if x=u then g else D x) (o-g):=by
 have zl:=S.zl;have Q:=I u (aJ F);have p:n.take (j+1)=n.take j++[u]:=by rw[cI,F];rfl
 have H:u∉n.take j:=λy=>by
  obtain⟨a,M,G⟩:=d8 y;rw[bg]at M;rw[fI]at G;have:=(fH (show a<n.length by lia) J).mp (show n[a]?=n[j]? by rw[F,ao (by lia),G])
  lia
 have b:∀x,0<=x->x≠u->(C.set u.toNat ((g+1)*tup k d u-1)).getD x.toNat 0=C.getD x.toNat 0:=λx B A=>by rw[oB _ _ _ _ (by lia),ah (by lia)]
 refine⟨by rw[dB];exact zl,λx B A=>?_,λx hx=>?_,?_,λ⟨x,hx,e⟩=>?_⟩
 .rw[p]at A;have l:x≠u:=λz=>A (aR _ (z▸.head _));rw[b x B l,ah l];exact S.ot x B λz=>A (bq _ z)
 .rw[p]at hx;rcases aV.mp hx with hx|hx
  .have l:x≠u:=λz=>H (z▸hx);rw[b x (I x (fJ hx)).1 l,ah l];exact S.up x hx
  .rw[aE.mp hx,oB _ _ _ _ (by lia),aj rfl,aj rfl];exact⟨rfl,N⟩
 .rw[p,aB,eE,oQ (h:=D) λc K=>ah λz:c=u=>H (z▸K)];have:=S.su;show _+((if u=u then g else D u)+0)+_=_;rw[aj rfl]
  lia
 .rw[p]at hx;rcases aV.mp hx with hx|hx
  .have:=S.lz ⟨x,hx,e⟩
   lia
  .rw[aE.mp hx]at e;have:=L e
   lia
theorem Spk.done(g:Good m k)(R:ε m k r d f)(O:Order m r d t)(L:0<=r)(U:r<m)(N:Sps m k r d f w t i E q s)(J:(r::t)[i]?=some v)(S:Spk m k r d f v n q s n.length C D o)(nd:n.Nodup)(A:∀u,u∈n↔u∈kd m k r d v):Sps m k r d f w t (i+1) (if n=[]then E.set v.toNat (C.getD v.toNat 0)else E) C D:=by
 have l:0<=v/\v<m:=by
  rcases aq.mp (aJ J)with h|h
  .rw[h];exact⟨L,U⟩
  .exact O.Λ v h
 have ot:∀u,0<=u->u∉n->C.getD u.toNat 0=q.getD u.toNat 0/\D u=s u:=λu G I=>S.ot u G (by rw[bo];exact I);have H:(r::t).take (i+1)=(r::t).take i++[v]:=by rw[cI,J];rfl
 have B:∀u∈n,(0<=u/\u<m)/\u≠r/\d u=v:=λu h=>(bB g R l.1 l.2).mp ((A u).mp h);have F:∀u∈(r::t).take (i+1),u∉n:=λu h z=>Order.behind R O J h (B u z).2.1 (B u z).2.2;have vi:v∈(r::t).take (i+1):=by rw[H];exact aR _ (.head _)
 have nv:v∉(r::t).take i:=λy=>by
  obtain⟨a,ha,W⟩:=d8 y;rw[bg]at ha;rw[fI]at W;have:=(fH (show a<(r::t).length by lia) O.nd).mp (show(r::t)[a]?=(r::t)[i]? by rw[J,ao (by lia),W])
  lia
 have Q:n=[]↔kd m k r d v=[]:=by
  rw[d4,d4];exact⟨λh u z=>h u ((A u).mpr z),λh u z=>h u ((A u).mp z)⟩
 have xl:=N.xl;refine⟨by split;rw[dB];exact xl;exact xl,S.zl,?_,λu G V I T=>?_,λx p X=>?_,λx Z x1=>?_⟩
 .rw[(ot r L λz=>(B r z).2.1 rfl).1];exact N.rt
 .by_cases c:d u=v
  .have:=S.up u (by rw[bo];exact(A u).mpr ((bB g R l.1 l.2).mpr ⟨⟨G,V⟩,I,c⟩));rw[c];exact this
  .obtain⟨o1,o2⟩:=ot u G λz=>c (B u z).2.2;rw[o1,o2];rw[H]at T;exact N.up u G V I ((aV.mp T).resolve_right λz=>c (aE.mp z))
 .have xr:0<=x/\x<m:=by
   rcases aq.mp (fJ p)with h|h
   .rw[h];exact⟨L,U⟩
   .exact O.Λ x h
  rw[(ot x xr.1 (F x p)).1];by_cases c:x=v
  .subst c;have:=S.su;rw[bo]at this;obtain⟨b,hb,eb⟩:=xO g R l.1 l.2 X;have Y:b∈n.filter λu=>decide (ν m k r d f u*tup k d u=ν m k r d f x):=bG.mpr ⟨(A b).mpr hb,ba eb⟩;have l0:o=0:=S.lz (by
    cases e:(n.filter λu=>decide (ν m k r d f u*tup k d u=ν m k r d f x)).getLast? with
    | none=>rw[iu]at e;rw[e]at Y;cases Y
    | some u=>exact⟨u,by rw[bo];exact(bG.mp (fL e)).1,rfl⟩)
   rw[<-tZ ((ik nd mW A).map D)]
   lia
  .rw[H]at p;have p:=(aV.mp p).resolve_right λz=>c (aE.mp z);rw[<-N.su x p X];exact oQ λu hu=>(ot u ((bB g R xr.1 xr.2).mp hu).1.1 λz=>c (((bB g R xr.1 xr.2).mp hu).2.2.symm.trans (B u z).2.2)).2
 .have old:=N.ly x Z x1;by_cases c:x=v
  .subst c;rw[ah λz=>nv z.1]at old;by_cases K:n=[]
   .rw[aj K,oB _ _ _ _ (by lia),aj rfl,aj ⟨vi,Q.mp K⟩]
   .rw[ah K,old,ah λz=>K (Q.mpr z.2)]
  .have e1:(if n=[]then E.set v.toNat (C.getD v.toNat 0)else E).getD x.toNat 0=E.getD x.toNat 0:=by
    split
    .rw[oB _ _ _ _ (by lia),ah (by lia)]
    .rfl
   have P:x∈(r::t).take (i+1)↔x∈(r::t).take i:=by
    rw[H];exact⟨λy=>(aV.mp y).resolve_right λz=>c (aE.mp z),λy=>bq _ y⟩
   rw[e1,old];by_cases M:x∈(r::t).take i
   .rw[(ot x Z (F x (P.mpr M))).1];simp only[P]
   .rw[ah λz=>M z.1,ah λz=>M (P.mp z.1)]
theorem Sps.fin(g:Good m k)(R:ε m k r d f)(O:Order m r d t)(N:Sps m k r d f w t (r::t).length E q s):Zj m k r d f w (λv=>q.getD v.toNat 0) s/\∀v,0<=v->v<m->E.getD v.toNat 0=if kd m k r d v=[]then q.getD v.toNat 0 else 0:=by
 have all:∀v,0<=v->v<m->v∈(r::t).take (r::t).length:=λv a b=>by
  rw[bo];rcases O.all v a b with h|h
  .rw[h];exact .head _
  .exact .tail _ h
 refine⟨⟨N.rt,λv a b c=>N.up v a b c (all _ (R.up v a b c).1.1 (R.up v a b c).1.2),λv a b=>N.su v (all v a b)⟩,λv a b=>?_⟩;rw[N.ly v a b];simp only[all v a b,true_and]
end
section
variable{X:Cx}{x:Str}{p a o:Pos}{e:Expr}{d:List Expr}{v:TE}{t:TA}{y:XK->TE}
theorem γ(i:Nat)(n:ZE X.env.scope x:=by exact .of (by kernel_rfl))(b:X.N[i]?=some x:=by rfl):PE X (.Name x a) (xZ i):=pvl i n b
theorem Ϭ(i:Nat)(n:Zi X.env.scope x:=by exact .of (by kernel_rfl))(b:X.N[i]?=some x:=by rfl):PE X (.Name x a) (xZ i):=pvc i n b
theorem ϓ(i:Nat)(c:X.N.Nodup:=by exact bZ (by kernel_rfl))(f:X.N[i]?=some x:=by rfl)(b:X.env.scope.names.lookup x=some .local:=by kernel_rfl):PG X (.Name x a) (ww i):=fe c f (.inl b) (.inr b)
theorem ψ(i:Nat)(c:PE X e v)(g:X.N.Nodup:=by exact bZ (by kernel_rfl))(h:X.N[i]?=some x:=by rfl)(b:X.env.scope.names.lookup x=some .local:=by kernel_rfl)(f:swapsWith e (some (.Name x o)) a.line X.env=pure false:=by rfl):PS X (.Assign [.Name x o] e a) (CL v (ww i)):=t7 g h (.inl b) c f (.inr b)
variable{s:W7}{k j:Nat}{f:Addr}{fd:FuncData}{h:hL}{g:Sp}{l:Stmt}
theorem pcq(D:Df X.K X.mg x l h f fd)(F:Ψ X.prog X.w X.K X.mg X.base s k f fd h g)(B:Ν j X.A)(q:b6 s)(r:PA X (e::d) t)(i:k<=j:=by decide)(n:X.env.scope.names.lookup x=some .globalImplicit:=by kernel_rfl)(c:(x==("__debug__":Str))=false:=by kernel_rfl)(z:starEach (e::d) X.env=(false,eval e X.env)::starEach d X.env:=by rfl)(u:(backTo a (starEach d X.env)).any (·.1)=false:=by rfl):PE X (.Call (.Name x p) (e::d) [] a) (rF g [] E0 t):=qX F (B.mono i) n D.m D.F.kp D.b .nil (uz q) r c z u
theorem pcx{E:XK}(D:Df X.K X.mg x l h f fd)(F:Ψ X.prog X.w X.K X.mg X.base s k f fd h g)(B:Ν j X.A)(u:rL s X E)(q:PA X (e::d) t)(i:k<=j:=by decide)(n:X.env.scope.names.lookup x=some .globalImplicit:=by kernel_rfl)(c:(x==("__debug__":Str))=false:=by kernel_rfl)(z:starEach (e::d) X.env=(false,eval e X.env)::starEach d X.env:=by rfl)(r:(backTo a (starEach d X.env)).any (·.1)=false:=by rfl):PE X (.Call (.Name x p) (e::d) [] a) (rF g [] E t):=qX F (B.mono i) n D.m D.F.kp D.b .nil u q c z r
theorem pxc(D:Df X.K X.mg x l h f fd)(F:Ψ X.prog X.w X.K X.mg X.base s k f fd h g)(z:Ν j X.A)(q:PA X.nox (e::d) t)(i:k<=j:=by decide)(n:X.env.scope.names.lookup x=some .globalImplicit:=by kernel_rfl)(c:(x==("__debug__":Str))=false:=by kernel_rfl)(u:starEach (e::d) X.env=(false,eval e X.env)::starEach d X.env:=by rfl)(r:(backTo a (starEach d X.env)).any (·.1)=false:=by rfl):PEx s X (.Call (.Name x p) (e::d) [] a) (λE=>rF g [] E t):=Qz F (z.mono i) n D.m D.F.kp D.b .nil q c u r
structure Cb(P:Program)(w:World)(K:gh)(mg:hH)(base:Heap)(x:Str)(l:Stmt)(h:hL)(k:Nat)(g:Sp) where
 f:Addr
 fd:FuncData
 D:Df K mg x l h f fd
 G:Ψ P w K mg base (Β P w) k f fd h g
def cb{P:Program}{w:World}{K:gh}{b:hH}{base:Heap}(D:Df K b x l h f fd)(G:Ψ P w K b base (Β P w) k f fd h g):Cb P w K b base x l h k g:=⟨f,fd,D,G⟩
theorem Ζ(c:Cb X.prog X.w X.K X.mg X.base x l h k g)(r:Ν j X.A)(q:b6 (Β X.prog X.w))(i:PA X (e::d) t)(b:k<=j:=by decide)(u:X.env.scope.names.lookup x=some .globalImplicit:=by kernel_rfl)(hdb:(x==("__debug__":Str))=false:=by kernel_rfl)(n:starEach (e::d) X.env=(false,eval e X.env)::starEach d X.env:=by rfl)(m:(backTo a (starEach d X.env)).any (·.1)=false:=by rfl):PE X (.Call (.Name x p) (e::d) [] a) (rF g [] E0 t):=pcq c.D c.G r q i b u hdb n m
theorem ϛ{E:XK}(c:Cb X.prog X.w X.K X.mg X.base x l h k g)(r:Ν j X.A)(n:rL (Β X.prog X.w) X E)(i:PA X (e::d) t)(b:k<=j:=by decide)(u:X.env.scope.names.lookup x=some .globalImplicit:=by kernel_rfl)(hdb:(x==("__debug__":Str))=false:=by kernel_rfl)(q:starEach (e::d) X.env=(false,eval e X.env)::starEach d X.env:=by rfl)(m:(backTo a (starEach d X.env)).any (·.1)=false:=by rfl):PE X (.Call (.Name x p) (e::d) [] a) (rF g [] E t):=pcx c.D c.G r n i b u hdb q m
theorem pyb(c:Cb X.prog X.w X.K X.mg X.base x l h k g)(q:Ν j X.A)(i:PA X.nox (e::d) t)(b:k<=j:=by decide)(r:X.env.scope.names.lookup x=some .globalImplicit:=by kernel_rfl)(hdb:(x==("__debug__":Str))=false:=by kernel_rfl)(n:starEach (e::d) X.env=(false,eval e X.env)::starEach d X.env:=by rfl)(m:(backTo a (starEach d X.env)).any (·.1)=false:=by rfl):PEx (Β X.prog X.w) X (.Call (.Name x p) (e::d) [] a) (λE=>rF g [] E t):=pxc c.D c.G q i b r hdb n m
variable{u T:String}{r:List V->Hp->VK->Prop}
theorem BV(i:mZ X (.builtin u) r)(z:X.mg x=none)(m:PA X (e::d) t)(c:bootBuiltins x=some (.builtin u):=by kernel_rfl)(w:X.env.scope.names.lookup x=some .globalImplicit:=by kernel_rfl)(hn:decide (x="__name__")=false:=by kernel_rfl)(b:(x==("__debug__":Str))=false:=by kernel_rfl)(q:starEach (e::d) X.env=(false,eval e X.env)::starEach d X.env:=by rfl)(n:(backTo a (starEach d X.env)).any (·.1)=false:=by rfl):PE X (.Call (.Name x p) (e::d) [] a) (tCB r t):=OO i w z c m (of_decide_eq_false hn) b q n
theorem pct(c:mZ X (.type T) r)(w:X.mg x=none)(i:PA X (e::d) t)(b:bootBuiltins x=some (.type T):=by kernel_rfl)(q:X.env.scope.names.lookup x=some .globalImplicit:=by kernel_rfl)(hn:decide (x="__name__")=false:=by kernel_rfl)(hdb:(x==("__debug__":Str))=false:=by kernel_rfl)(n:starEach (e::d) X.env=(false,eval e X.env)::starEach d X.env:=by rfl)(m:(backTo a (starEach d X.env)).any (·.1)=false:=by rfl):PE X (.Call (.Name x p) (e::d) [] a) (tCB r t):=DR c q w b i (of_decide_eq_false hn) hdb n m
end
inductive E3{A0 A1 A2:Type}(p:A0->A1->A2->Prop):Prop
 | mk (a0:A0) (a1:A1) (a2:A2) (h:p a0 a1 a2):E3 p
inductive E4{A0 A1 A2 A3:Type}(p:A0->A1->A2->A3->Prop):Prop
 | mk (a0:A0) (a1:A1) (a2:A2) (a3:A3) (h:p a0 a1 a2 a3):E4 p
inductive E5{A0 A1 A2 A3 A4:Type}(p:A0->A1->A2->A3->A4->Prop):Prop
 | mk (a0:A0) (a1:A1) (a2:A2) (a3:A3) (a4:A4) (h:p a0 a1 a2 a3 a4):E5 p
inductive E6{A0 A1 A2 A3 A4 A5:Type}(p:A0->A1->A2->A3->A4->A5->Prop):Prop
 | mk (a0:A0) (a1:A1) (a2:A2) (a3:A3) (a4:A4) (a5:A5) (h:p a0 a1 a2 a3 a4 a5):E6 p
inductive E7{A0 A1 A2 A3 A4 A5 A6:Type}(p:A0->A1->A2->A3->A4->A5->A6->Prop):Prop
 | mk (a0:A0) (a1:A1) (a2:A2) (a3:A3) (a4:A4) (a5:A5) (a6:A6) (h:p a0 a1 a2 a3 a4 a5 a6):E7 p
inductive E8{A0 A1 A2 A3 A4 A5 A6 A7:Type}(p:A0->A1->A2->A3->A4->A5->A6->A7->Prop):Prop
 | mk (a0:A0) (a1:A1) (a2:A2) (a3:A3) (a4:A4) (a5:A5) (a6:A6) (a7:A7) (h:p a0 a1 a2 a3 a4 a5 a6 a7):E8 p
inductive E9{A0 A1 A2 A3 A4 A5 A6 A7 A8:Type}(p:A0->A1->A2->A3->A4->A5->A6->A7->A8->Prop):Prop
 | mk (a0:A0) (a1:A1) (a2:A2) (a3:A3) (a4:A4) (a5:A5) (a6:A6) (a7:A7) (a8:A8) (h:p a0 a1 a2 a3 a4 a5 a6 a7 a8):E9 p
inductive E10{A0 A1 A2 A3 A4 A5 A6 A7 A8 A9:Type}(p:A0->A1->A2->A3->A4->A5->A6->A7->A8->A9->Prop):Prop
 | mk (a0:A0) (a1:A1) (a2:A2) (a3:A3) (a4:A4) (a5:A5) (a6:A6) (a7:A7) (a8:A8) (a9:A9) (h:p a0 a1 a2 a3 a4 a5 a6 a7 a8 a9):E10 p
inductive E11{A0 A1 A2 A3 A4 A5 A6 A7 A8 A9 Xq:Type}(p:A0->A1->A2->A3->A4->A5->A6->A7->A8->A9->Xq->Prop):Prop
 | mk (a0:A0) (a1:A1) (a2:A2) (a3:A3) (a4:A4) (a5:A5) (a6:A6) (a7:A7) (a8:A8) (a9:A9) (Y7:Xq) (h:p a0 a1 a2 a3 a4 a5 a6 a7 a8 a9 Y7):E11 p
inductive E12{A0 A1 A2 A3 A4 A5 A6 A7 A8 A9 Xq XY:Type}(p:A0->A1->A2->A3->A4->A5->A6->A7->A8->A9->Xq->XY->Prop):Prop
 | mk (a0:A0) (a1:A1) (a2:A2) (a3:A3) (a4:A4) (a5:A5) (a6:A6) (a7:A7) (a8:A8) (a9:A9) (Y7:Xq) (ZJ:XY) (h:p a0 a1 a2 a3 a4 a5 a6 a7 a8 a9 Y7 ZJ):E12 p
inductive E16{A0 A1 A2 A3 A4 A5 A6 A7 A8 A9 Xq XY YB YC YD YF:Type}(p:A0->A1->A2->A3->A4->A5->A6->A7->A8->A9->Xq->XY->YB->YC->YD->YF->Prop):Prop
 | mk (a0:A0) (a1:A1) (a2:A2) (a3:A3) (a4:A4) (a5:A5) (a6:A6) (a7:A7) (a8:A8) (a9:A9) (Y7:Xq) (ZJ:XY) (a12:YB) (a13:YC) (a14:YD) (a15:YF) (h:p a0 a1 a2 a3 a4 a5 a6 a7 a8 a9 Y7 ZJ a12 a13 a14 a15):E16 p
inductive E18{A0 A1 A2 A3 A4 A5 A6 A7 A8 A9 Xq XY YB YC YD YF Zk Zm:Type}(p:A0->A1->A2->A3->A4->A5->A6->A7->A8->A9->Xq->XY->YB->YC->YD->YF->Zk->Zm->Prop):Prop
 | mk (a0:A0) (a1:A1) (a2:A2) (a3:A3) (a4:A4) (a5:A5) (a6:A6) (a7:A7) (a8:A8) (a9:A9) (Y7:Xq) (ZJ:XY) (a12:YB) (a13:YC) (a14:YD) (a15:YF) (a16:Zk) (a17:Zm) (h:p a0 a1 a2 a3 a4 a5 a6 a7 a8 a9 Y7 ZJ a12 a13 a14 a15 a16 a17):E18 p
inductive E20{A0 A1 A2 A3 A4 A5 A6 A7 A8 A9 Xq XY YB YC YD YF Zk Zm A18 A19:Type}(p:A0->A1->A2->A3->A4->A5->A6->A7->A8->A9->Xq->XY->YB->YC->YD->YF->Zk->Zm->A18->A19->Prop):Prop
 | mk (a0:A0) (a1:A1) (a2:A2) (a3:A3) (a4:A4) (a5:A5) (a6:A6) (a7:A7) (a8:A8) (a9:A9) (Y7:Xq) (ZJ:XY) (a12:YB) (a13:YC) (a14:YD) (a15:YF) (a16:Zk) (a17:Zm) (a18:A18) (a19:A19) (h:p a0 a1 a2 a3 a4 a5 a6 a7 a8 a9 Y7 ZJ a12 a13 a14 a15 a16 a17 a18 a19):E20 p
inductive E21{A0 A1 A2 A3 A4 A5 A6 A7 A8 A9 Xq XY YB YC YD YF Zk Zm A18 A19 A20:Type}(p:A0->A1->A2->A3->A4->A5->A6->A7->A8->A9->Xq->XY->YB->YC->YD->YF->Zk->Zm->A18->A19->A20->Prop):Prop
 | mk (a0:A0) (a1:A1) (a2:A2) (a3:A3) (a4:A4) (a5:A5) (a6:A6) (a7:A7) (a8:A8) (a9:A9) (Y7:Xq) (ZJ:XY) (a12:YB) (a13:YC) (a14:YD) (a15:YF) (a16:Zk) (a17:Zm) (a18:A18) (a19:A19) (a20:A20) (h:p a0 a1 a2 a3 a4 a5 a6 a7 a8 a9 Y7 ZJ a12 a13 a14 a15 a16 a17 a18 a19 a20):E21 p
inductive E22{A0 A1 A2 A3 A4 A5 A6 A7 A8 A9 Xq XY YB YC YD YF Zk Zm A18 A19 A20 A21:Type}(p:A0->A1->A2->A3->A4->A5->A6->A7->A8->A9->Xq->XY->YB->YC->YD->YF->Zk->Zm->A18->A19->A20->A21->Prop):Prop
 | mk (a0:A0) (a1:A1) (a2:A2) (a3:A3) (a4:A4) (a5:A5) (a6:A6) (a7:A7) (a8:A8) (a9:A9) (Y7:Xq) (ZJ:XY) (a12:YB) (a13:YC) (a14:YD) (a15:YF) (a16:Zk) (a17:Zm) (a18:A18) (a19:A19) (a20:A20) (a21:A21) (h:p a0 a1 a2 a3 a4 a5 a6 a7 a8 a9 Y7 ZJ a12 a13 a14 a15 a16 a17 a18 a19 a20 a21):E22 p
inductive E23{A0 A1 A2 A3 A4 A5 A6 A7 A8 A9 Xq XY YB YC YD YF Zk Zm A18 A19 A20 A21 A22:Type}(p:A0->A1->A2->A3->A4->A5->A6->A7->A8->A9->Xq->XY->YB->YC->YD->YF->Zk->Zm->A18->A19->A20->A21->A22->Prop):Prop
 | mk (a0:A0) (a1:A1) (a2:A2) (a3:A3) (a4:A4) (a5:A5) (a6:A6) (a7:A7) (a8:A8) (a9:A9) (Y7:Xq) (ZJ:XY) (a12:YB) (a13:YC) (a14:YD) (a15:YF) (a16:Zk) (a17:Zm) (a18:A18) (a19:A19) (a20:A20) (a21:A21) (a22:A22) (h:p a0 a1 a2 a3 a4 a5 a6 a7 a8 a9 Y7 ZJ a12 a13 a14 a15 a16 a17 a18 a19 a20 a21 a22):E23 p
def clK(e:hL)(b:Nat)(c:List Nat)(N:hL)(a d:Scope):Bool:=(a.names.all λy=>decide (y.2≠.cell))&&decide (a.kind=.function)&&(a.names.all λy=>decide (y.2=.local->a.names.lookup y.1=some .local))&&decide (e.length=b+c.length)&&(a.names.all λy=>decide (y.2=.free->d.names.lookup y.1=some .cell))&&decide (d.kind=.function)&&(List.range c.length).all λi=>match e[b+i]?,c[i]? with
 | some x,some j=>decide (N[j]?=some x)&&decide (a.names.lookup x=some .free)
 | _,_=>false
theorem Zn{X:Cx}{scope:Scope}(d:hL)(a:Nat)(b:List Nat)(h:clK d a b X.N scope X.env.scope=true:=by kernel_rfl)(n:∀x,X.env.scope.names.lookup x=some .cell->∃c,X.env.cells.lookup x=some c:=by exact λ_ h=>zH h):ϟ X d a b scope (ub X.env.cells scope.names []):=by
 unfold clK at h;simp only[b5,b4,fB,cA]at h;obtain⟨⟨⟨⟨⟨⟨m,p⟩,f⟩,g⟩,e⟩,l⟩,k⟩:=h;refine SC a b m p f g e l n λi o=>?_;have q:=k i o;split at q
 .rename_i x j e1 e2
  simp only[b5,b4]at q;exact⟨x,j,e1,e2,q.1,q.2⟩
 .cases q
abbrev Ok(P:Program)(w:World)(K:gh)(c:hH)(a:Heap)(x:Str)(st:Stmt)(d:hL)(k:Nat)(e:Sp):Prop:=∀(f:Addr)(b:FuncData),Df K c x st d f b->Ψ P w K c a (Β P w) k f b d e
section
variable{X:Cx}{a b:Expr}{d e:TE}{c:Pos}
theorem Ε{r:R2}(i:IxR X r)(g:PE X a d)(f:PE X b e)(h:Jl b:=by exact λ_ _=>rfl):PE X (.Subscript a b c) (tOp r d e):=iM i g f h
theorem Ϫ{f:CmpOp}{r:R2}(k:Ϻ X (compareOp f) r)(i:PE X a d)(g:PE X b e)(h:f≠.In:=by decide)(j:f≠.NotIn:=by decide):PT X (.Compare a [f] [b] c) (B6 (tOp r d e)):=nC k i g (gV _ h j)
end
theorem Fx(d:Int)(r:eu)(n:Nat):Ξ (d::r) (n+1) 0-Ξ (d::r) n 0=Ξ r n 0:=by
 have:=LO d r (n:Int);rw[show(n:Int)+1=((n+1:Nat):Int)from rfl,pU,pU,pU]at this;exact this
theorem FX:∀{cs:eu},(∀n,Ξ cs n 0=0)->∀c∈cs,c=0
 | [],_=>λ_ h=>(nomatch h)
 | d::r,h=>by
   have a:=h 0;rw[Jw]at a;have b:=FX (cs:=r) λn=>by rw[<-Fx d r n,h,h];rfl
   intro c hc;rcases aq.mp hc with e|hc
   .rw[e];exact a
   .exact b c hc
theorem Aq:∀{a:eu},(∀c∈a,c=0)->∀(z:Int)(k:Nat),gE a z k=0
 | [],_,z,k=>oY z k
 | d::r,h,z,k=>by
   rw[jV,h d (.head _),Aq (λc b=>h c (.tail _ b)) z (k+1),Int.zero_mul]
   rfl
theorem Ee:∀(D:Nat){cs:eu}{f:Nat->Int},(∀n,Ξ cs n 0=f n)->Pd D f->∀z:Int,Pd D (λg:Nat=>gE cs (z-(g:Int)) 0)
 | _,[],_,_,_,z=>Pd.zero (λn=>oY _ _) _
 | 0,d::r,f,h,hf,z=>by
   have i:∀c∈r,c=0:=FX λn=>by
    rw[<-Fx d r n,h,h];have k:f (n+1)=f n:=by
     have a:=hf (n+1);have b:=hf n
     lia
    lia
   intro n;show gE (d::r) _ 0=gE (d::r) _ 0;rw[jV,jV,tT,tT,Aq i,Aq i]
 | D+1,d::r,f,h,hf,z=>by
   have j:=(Ee D (cs:=r) (f:=dl f) (λn=>by rw[<-Fx d r n,h,h];rfl) hf (z-1)).smul (-1);show Pd D (dl λg:Nat=>gE (d::r) (z-(g:Int)) 0);have e:(dl λg:Nat=>gE (d::r) (z-(g:Int)) 0)=λg:Nat=>-1*gE r (z-1-(g:Int)) 0:=by
    funext g
    show gE (d::r) (z-((g+1:Nat):Int)) 0-gE (d::r) (z-(g:Int)) 0=_;have:=LO d r (z-1-(g:Int));rw[show z-1-(g:Int)+1=z-(g:Int) by lia]at this;rw[show z-((g+1:Nat):Int)=z-1-(g:Int) by lia,<-this]
    lia
   rw[e];exact j
theorem Nl(m:Nat)(G:Nat->Int):Ϣ ((List.range m).map G)=Yb m G:=by
 unfold Ϣ;rw[aa,bI];exact uD λi a=>zK a
theorem K6{b a:eu}{c m d f:Nat}{z:Int}{i h:Nat->Int}(t:∀n,Ξ b n 0=i n)(s:Pd d i)(p:∀n,Ξ a n 0=h n)(k:Pd f h)(l:1<=c)(r:f+d+1<m)(g:Nat):Ξ (Ϣ (ϩ m (ϵ b a c z))) g 0=Κ g (ϵ b a c z):=by
 have o:Pd f (λg=>Ξ a (υ c g) 0):=by
  have e:(λg=>Ξ a (υ c g) 0)=λg=>h (c*g+(c-1)):=by
   funext g
   rw[p,IZ l]
  rw[e];exact k.lin c (c-1)
 have j:Pd d (λg:Nat=>gE b (z-(g:Int)) 0):=Ee d t s z;have q:Pd (f+d) (ϵ b a c z):=Pd.mul _ (ax _) o j;unfold ϩ;rw[Nl];exact Bh m q.Κ r g
theorem Vk{e b:eu}{c a g:Nat}{d f:Nat->Int}(i:∀n,Ξ e n 0=d n)(j:∀n,Ξ b n 0=f n)(h:g<=a):ϵ e b c (a:Int) g=f (υ c g)*d (a-g):=by
 unfold ϵ;rw[show(a:Int)-(g:Int)=((a-g:Nat):Int) by lia,pU,i,j]
section
variable{fr be:Int->Bool}{o:Int->Nat->Int}
def lE(fr be:Int->Bool)(o:Int->Nat->Int)(k:Int)(b:eu)(a g:Nat):Int:=if fr k=true then Κ g (λi=>o k i*ξ fr be o b (a-i))else 0
inductive Rk(fr be:Int->Bool)(o:Int->Nat->Int):List Int->Nat->List (Int×Nat×Int)->Int->Prop
 | nil (left:Nat):Rk fr be o [] left [] 0
 | cons {k:Int} {ks:eu} {left g:Nat} {n nu:Int} {cs:hP} (hg:g<=left) (hb:fr k=false->be k=true->g=left) (he:fr k=false->be k=false->g=0) (n0:0<=n) (n1:n<o k g) (h:Rk fr be o ks (left-g) cs nu):Rk fr be o (k::ks) left ((k,g,n)::cs) (lE fr be o k ks left g+n*ξ fr be o ks (left-g)+nu)
theorem BK{f:Nat->Int}{a b:Nat}(h:∀i,0<=f i)(l:a<=b):Κ a f<=Κ b f:=by
 induction l with
 | refl=>exact bC _
 | step _ ih=>exact bE ih (by show Κ _ f<=Κ _ f+f _;have:=h (by assumption);lia)
theorem Rk.lt{ks:eu}{d:Nat}{q:hP}{j:Int}(h:Rk fr be o ks d q j):(∀k∈ks,∀i,1<=o k i)->0<=j/\j<ξ fr be o ks d:=by
 induction h with
 | nil d=>intro _;exact⟨bC _,show(0:Int)<1 by decide⟩
 | @cons k ks d g n j q hg hb he n0 n1 h u=>
   intro m;have u:=u λx v=>m x (.tail _ v);have p:=m k (.head _);have l:=q9 (fr:=fr) (be:=be) (ws:=o) (ks:=ks) (λk w i=>m k (.tail _ w) i);have t:0<=n*ξ fr be o ks (d-g):=dU n0 (by have:=l (d-g);lia);have top:n*ξ fr be o ks (d-g)+j<o k g*ξ fr be o ks (d-g):=by
    have:(n+1)*ξ fr be o ks (d-g)<=o k g*ξ fr be o ks (d-g):=ce (by lia) (by have:=l (d-g);lia);rw[eR,f8]at this
    lia
   have s:∀i,0<=o k i*ξ fr be o ks (d-i):=λi=>dU (by have:=p i;lia) (by have:=l (d-i);lia);unfold lE;by_cases c:fr k=true
   .rw[aj c,tQ c];have a:=FG (f:=λi=>o k i*ξ fr be o ks (d-i)) (k:=g) λi _=>s i;have b:Κ (g+1) (λi=>o k i*ξ fr be o ks (d-i))<=XX (o k) (ξ fr be o ks) d:=BK s (by lia);have e:Κ (g+1) (λi=>o k i*ξ fr be o ks (d-i))=Κ g (λi=>o k i*ξ fr be o ks (d-i))+o k g*ξ fr be o ks (d-g):=rfl
    lia
   .rw[ah c];have r:fr k=false:=(by simpa using c);by_cases b:be k=true
    .rw[t9 c b];have:=hb r b;subst this;rw[dP]at top t ⊢;show _/\_<o k g*ξ fr be o ks 0
     lia
    .rw[ua c b];have:=he r (by simpa using b);subst this;rw[gm]at top t ⊢;show _/\_<o k 0*ξ fr be o ks d
     lia
theorem Mt{k:Int}{ks:eu}(n:∀x∈k::ks,∀i,1<=o x i){d g:Nat}{f:Int}(u:0<=f)(h:f<ξ fr be o (k::ks) d)(r:g<=d)(s:fr k=false->be k=true->g=d)(m:fr k=false->be k=false->g=0)(q:fr k=true->(g=0\/Κ g (λi=>o k i*ξ fr be o ks (d-i))<=f)/\(g=d\/f<Κ (g+1) (λi=>o k i*ξ fr be o ks (d-i)))):0<=(f-lE fr be o k ks d g)/ξ fr be o ks (d-g)/\(f-lE fr be o k ks d g)/ξ fr be o ks (d-g)<o k g/\0<=(f-lE fr be o k ks d g)%ξ fr be o ks (d-g)/\(f-lE fr be o k ks d g)%ξ fr be o ks (d-g)<ξ fr be o ks (d-g):=by
 have t:=q9 (fr:=fr) (be:=be) (ws:=o) (ks:=ks) (λx p i=>n x (.tail _ p) i) (d-g);have j:0<=f-lE fr be o k ks d g/\f-lE fr be o k ks d g<o k g*ξ fr be o ks (d-g):=by
  unfold lE;by_cases c:fr k=true
  .rw[aj c];obtain⟨a,b⟩:=q c;rw[tQ c]at h;have e:Κ (g+1) (λi=>o k i*ξ fr be o ks (d-i))=Κ g (λi=>o k i*ξ fr be o ks (d-i))+o k g*ξ fr be o ks (d-g):=rfl;refine⟨?_,?_⟩
   .rcases a with a|a
    .rw[a];show 0<=f-0;lia
    .lia
   .rcases b with b|b
    .have:f<Κ (g+1) (λi=>o k i*ξ fr be o ks (d-i)):=(by rw[b];rw[b]at r;exact h)
     lia
    .lia
  .rw[ah c];have l:fr k=false:=(by simpa using c);by_cases b:be k=true
   .rw[t9 c b]at h;have:=s l b;subst this;rw[dP];exact⟨by lia,by show f-0<_;rw[nV];exact h⟩
   .rw[ua c b]at h;have:=m l (by simpa using b);subst this;rw[gm];exact⟨by lia,by show f-0<_;rw[nV];exact h⟩
 exact⟨jR j.1 (by lia),Int.ediv_lt_of_lt_mul (by lia) j.2,dj _ (by lia),cC _ (by lia)⟩
theorem Rk.inj{ks:eu}{d:Nat}{z:hP}{f:Int}(h:Rk fr be o ks d z f):(∀k∈ks,∀i,1<=o k i)->∀{v:hP}{w:Int},Rk fr be o ks d v w->f=w->z=v:=by
 induction h with
 | nil d=>intro _ v w q _;cases q;rfl
 | @cons k ks d g n f z hg hb he n0 n1 h ih=>
   intro C v w q e;have m:∀x∈ks,∀i,1<=o x i:=λx A=>C x (.tail _ A);have B:=C k (.head _);cases q with
   | @cons _ _ _ g' m' aeO apJ hg' ZT he' m0 m1 q=>
     have r:=q9 (fr:=fr) (be:=be) (ws:=o) (ks:=ks) (λx A i=>m x A i);have D:∀i,0<=o k i*ξ fr be o ks (d-i):=λi=>dU (by have:=B i;lia) (by have:=r (d-i);lia);have j:∀{g:Nat}{n f:Int},0<=n->n<o k g->0<=f->f<ξ fr be o ks (d-g)->0<=n*ξ fr be o ks (d-g)+f/\n*ξ fr be o ks (d-g)+f<o k g*ξ fr be o ks (d-g):=λ{g n f} n0 n1 a b=>by
      have p:=dU n0 (show 0<=ξ fr be o ks (d-g) by have:=r (d-g);lia);have:(n+1)*ξ fr be o ks (d-g)<=o k g*ξ fr be o ks (d-g):=ce (by lia) (by have:=r (d-g);lia);rw[eR,f8]at this
      lia
     have t:=h.lt m;have y:=q.lt m;have J:=j n0 n1 t.1 t.2;have K:=j m0 m1 y.1 y.2;have F:g=g':=by
      by_cases c:fr k=true
      .unfold lE at e;rw[aj c,aj c]at e;have s:∀g:Nat,Κ (g+1) (λi=>o k i*ξ fr be o ks (d-i))=Κ g (λi=>o k i*ξ fr be o ks (d-i))+o k g*ξ fr be o ks (d-g):=λ_=>rfl;rcases iT g g' with l|l|l
       .have u:=BK D (show g+1<=g' by lia);rw[s]at u
        lia
       .exact l
       .have u:=BK D (show g'+1<=g by lia);rw[s]at u
        lia
      .have cf:fr k=false:=(by simpa using c);by_cases b:be k=true
       .rw[hb cf b,ZT cf b]
       .rw[he cf (by simpa using b),he' cf (by simpa using b)]
     subst F;have G:n*ξ fr be o ks (d-g)+f=m'*ξ fr be o ks (d-g)+aeO:=(by lia);have E:n=m':=by
      have I:(n*ξ fr be o ks (d-g)+f)/ξ fr be o ks (d-g)=n:=by
       rw[nR,jt _ _ (by have:=r (d-g);lia),ji t.1 t.2,cW]
      have H:(m'*ξ fr be o ks (d-g)+aeO)/ξ fr be o ks (d-g)=m':=by
       rw[nR,jt _ _ (by have:=r (d-g);lia),ji y.1 y.2,cW]
      rw[<-I,<-H,G]
     subst E;rw[ih m q (by lia)]
theorem Rk.go{a:eu}{z i b g:Nat}{l d k:Int}{m:hP}(u:a[i]?=some k)(C:∀x∈a,∀i,1<=o x i)(P:∀f,Rk fr be o (a.drop i) b f d->Rk fr be o a z (m++f) l)(F:0<=d)(t:d<ξ fr be o (a.drop i) b)(v:g<=b)(y:fr k=false->be k=true->g=b)(p:fr k=false->be k=false->g=0)(E:fr k=true->(g=0\/Κ g (λj=>o k j*ξ fr be o (a.drop (i+1)) (b-j))<=d)/\(g=b\/d<Κ (g+1) (λj=>o k j*ξ fr be o (a.drop (i+1)) (b-j)))):0<=(d-lE fr be o k (a.drop (i+1)) b g)%ξ fr be o (a.drop (i+1)) (b-g)/\(d-lE fr be o k (a.drop (i+1)) b g)%ξ fr be o (a.drop (i+1)) (b-g)<ξ fr be o (a.drop (i+1)) (b-g)/\(0<=(d-lE fr be o k (a.drop (i+1)) b g)/ξ fr be o (a.drop (i+1)) (b-g)/\(d-lE fr be o k (a.drop (i+1)) b g)/ξ fr be o (a.drop (i+1)) (b-g)<o k g)/\∀f,Rk fr be o (a.drop (i+1)) (b-g) f ((d-lE fr be o k (a.drop (i+1)) b g)%ξ fr be o (a.drop (i+1)) (b-g))->Rk fr be o a z ((m++[(k,g,(d-lE fr be o k (a.drop (i+1)) b g)/ξ fr be o (a.drop (i+1)) (b-g))])++f) l:=by
 have s:=(ar.mp u).1;have D:a[i]=k:=br ((ao s).symm.trans u);have A:a.drop i=k::a.drop (i+1):=by rw[cq s,D]
 rw[A]at t P;have n:∀x∈k::a.drop (i+1),∀i,1<=o x i:=λx r=>C x (by rw[<-A]at r;exact cj r);obtain⟨q,w,G,B⟩:=Mt n F t v y p E;refine⟨G,B,⟨q,w⟩,λf h=>?_⟩;have c:=Rk.cons v y p q w h;have e:lE fr be o k (a.drop (i+1)) b g+(d-lE fr be o k (a.drop (i+1)) b g)/ξ fr be o (a.drop (i+1)) (b-g)*ξ fr be o (a.drop (i+1)) (b-g)+(d-lE fr be o k (a.drop (i+1)) b g)%ξ fr be o (a.drop (i+1)) (b-g)=d:=by
  have:=mO (d-lE fr be o k (a.drop (i+1)) b g) (ξ fr be o (a.drop (i+1)) (b-g));rw[fh]at this
  lia
 rw[e]at c;rw[bW];exact P _ c
theorem JJ{m r:Int}{b:hT}{a:fc}{e:fz}{c:fz}(G:Good m b)(R:ε m b r a e)(p:∀v,0<=v->v<m->v≠r->1<=c v/\c v<=1000000){v k:Int}{i C E:Nat}{w n:eu}(t:0<=v)(s:v<m)(u:(kd m b r a v)[i]?=some k)(z:Ω C w (ξ fr be (λk g=>wy m b r a e fr be c k (υ (c k) g)) ((kd m b r a v).drop (i+1))))(A:Ω E n (wy m b r a e fr be c k)){left g:Nat}(K:g<=left+1):(if fr k=true then Ξ (Ϣ (ϩ m.toNat (ϵ w n (c k) (left:Int)))) g 0 else 0)=lE fr be (λk g=>wy m b r a e fr be c k (υ (c k) g)) k ((kd m b r a v).drop (i+1)) left g:=by
 unfold lE;by_cases f:fr k=true
 .rw[aj f,aj f];obtain⟨q,B,J⟩:=(bB G R t s).mp (aJ u);have h:∀x∈(kd m b r a v).drop (i+1),(0<=x/\x<m)/\x≠r/\a x=v:=λx l=>(bB G R t s).mp (cj l);have H:=(yD (fr:=fr) (be:=be) (W:=wy m b r a e fr be c) (c:=c) (d:=oR m b r a e) (ks:=(kd m b r a v).drop (i+1)) (λx l=>Ci G R p _ (h x l).1.1 (h x l).1.2 (ax _)) λx l=>p x (h x l).1.1 (h x l).1.2 (h x l).2.1).1;have D:=(Ci (fr:=fr) (be:=be) G R p _ q.1 q.2 (ax _)).1;have y:=(ar.mp u).1;have F:(kd m b r a v)[i]=k:=br ((ao y).symm.trans u);have I:=tW (λk=>oR m b r a e k+1) (kd m b r a v) i;rw[jA G R t s,cq y,F,az,aW]at I;have dl:=py G R t s;rw[K6 z.val H A.val D (p k q.1 q.2 B).1 (by lia) g];exact rO λj L=>Vk z.val A.val (by lia)
 .rw[ah f,ah f]
end
section
variable{fr be:Int->Bool}{d:Int->Nat->Int}
theorem Rk.fst{c:eu}{a:Nat}{b:hP}{e:Int}(h:Rk fr be d c a b e):b.map (·.1)=c:=by
 induction h with
 | nil=>rfl
 | cons _ _ _ _ _ _ ih=>rw[az,ih]
theorem Rk.Y8{k:Int}{b:eu}{a g:Nat}{n e:Int}{c:hP}(h:Rk fr be d (k::b) a ((k,g,n)::c) e):g<=a/\∃f,Rk fr be d b (a-g) c f/\e=lE fr be d k b a g+n*ξ fr be d b (a-g)+f:=by
 cases h with
 | cons hg _ _ _ _ h=>exact⟨hg,_,h,rfl⟩
theorem Rk.bV{a:Nat}{c:hP}{b:Int}(h:Rk fr be d [] a c b):b=0:=by
 cases h
 rfl
theorem Rk.bd{e:eu}{a:Nat}{b:hP}{c:Int}(h:Rk fr be d e a b c):∀x∈b,(0<=x.2.2/\x.2.2<d x.1 x.2.1)/\x.2.1<=a/\(fr x.1=false->be x.1=false->x.2.1=0):=by
 induction h with
 | nil=>intro x hx;cases hx
 | cons hg hb he n0 n1 h ih=>
   intro x hx;rcases aq.mp hx with rfl|hx
   .exact⟨⟨n0,n1⟩,hg,he⟩
   .have:=ih x hx;exact⟨this.1,by lia,this.2.2⟩
theorem Rk.sum{e:eu}{a:Nat}{c:hP}{i:Int}(h:Rk fr be d e a c i):(c.map (·.2.1)).sum<=a/\((∃k∈e,fr k=false/\be k=true)->(c.map (·.2.1)).sum=a):=by
 induction h with
 | nil=>exact⟨bx _,λ⟨_,h,_⟩=>(by cases h)⟩
 | cons hg hb he n0 n1 h ih=>
   obtain⟨j,g⟩:=ih;rw[az,aW];dsimp only;refine⟨by lia,λ⟨k,hk,f,b⟩=>?_⟩;rcases aq.mp hk with rfl|hk
   .have:=hb f b
    lia
   .have:=g ⟨k,hk,f,b⟩
    lia
theorem Mo(f:Nat->Int)(b:Int):∀a:Nat,∃g,g<=a/\(g=0\/Κ g f<=b)/\(g=a\/b<Κ (g+1) f)
 | 0=>⟨0,ax _,.inl rfl,.inl rfl⟩
 | n+1=>by
   obtain⟨g,h,e,h3⟩:=Mo f b n;by_cases c:Κ (n+1) f<=b
   .exact⟨n+1,ax _,.inr c,.inl rfl⟩
   .rcases h3 with h3|h3
    .subst h3;exact⟨g,by lia,e,.inr (by lia)⟩
    .exact⟨g,by lia,e,.inr h3⟩
theorem Rk.ex:∀{f:eu}{e:Nat}{j:Int},(∀k∈f,∀i,1<=d k i)->0<=j->j<ξ fr be d f e->∃l,Rk fr be d f e l j
 | [],e,j,_,h0,h1=>by
   have:j=0:=by have:j<1:=h1;lia
   subst this;exact⟨_,.nil _⟩
 | k::f,e,j,hw,h0,h1=>by
   obtain⟨g,n,o,m,s⟩:∃g,g<=e/\(fr k=false->be k=true->g=e)/\(fr k=false->be k=false->g=0)/\(fr k=true->(g=0\/Κ g (λi=>d k i*ξ fr be d f (e-i))<=j)/\(g=e\/j<Κ (g+1) (λi=>d k i*ξ fr be d f (e-i)))):=by
    cases ef:fr k with
    | true=>
      obtain⟨g,a,b,c⟩:=Mo (λi=>d k i*ξ fr be d f (e-i)) j e;exact⟨g,a,λz=>(by cases z),λz=>(by cases z),λ_=>⟨b,c⟩⟩
    | false=>
      cases eb:be k with
      | true=>exact⟨e,ax _,λ_ _=>rfl,λ_ z=>(by cases z),λz=>(by cases z)⟩
      | false=>exact⟨0,bx _,λ_ z=>(by cases z),λ_ _=>rfl,λz=>(by cases z)⟩
   obtain⟨q,t,u,p⟩:=Mt hw h0 h1 n o m s;obtain⟨l,h⟩:=Rk.ex (λx r=>hw x (.tail _ r)) u p;have c:=Rk.cons n o m q t h;have:=mO (j-lE fr be d k f e g) (ξ fr be d f (e-g));rw[fh]at this;rw[show lE fr be d k f e g+(j-lE fr be d k f e g)/ξ fr be d f (e-g)*ξ fr be d f (e-g)+(j-lE fr be d k f e g)%ξ fr be d f (e-g)=j by lia]at c;exact⟨_,c⟩
def ZK(a:hP)(x:Int):Nat×Int:=((a.find? λy=>decide (y.1=x)).map (·.2)).getD (0,0)
theorem JK:∀{cs:hP},(cs.map (·.1)).Nodup->cs=(cs.map (·.1)).map λx=>(x,(ZK cs x).1,(ZK cs x).2)
 | [],_=>rfl
 | y::cs,h=>by
   rw[az]at h;obtain⟨c,b⟩:=bf.mp h;have e:ZK (y::cs) y.1=y.2:=by unfold ZK;rw[List.find?_cons_of_pos (by simp)];rfl
   rw[az,az,e];refine congrArg (y::·) ((JK b).trans (bX λx a=>?_));have:ZK (y::cs) x=ZK cs x:=by
    unfold ZK;rw[List.find?_cons_of_neg (by simp;intro z;exact c (z▸a))]
   rw[this]
end
section
variable{m r:Int}{o:hT}{d:fc}{j:fz}{fr be:Int->Bool}{c:fz}
structure ϭ(m:Int)(o:hT)(r:Int)(d:fc)(j:fz)(fr be:Int->Bool)(c:fz)(cn gv:fz)(nb:fc):Prop where
 up:∀v,0<=v->v<m->v≠r->cn v=υ (c v) (gv v)
 at_:∀v,0<=v->v<m->Rk fr be (λk g=>wy m o r d j fr be c k (υ (c k) g)) (kd m o r d v) (cn v) ((kd m o r d v).map λk=>(k,gv k,nb k)) (nb v)
theorem vb(g:Good m o)(R:ε m o r d j){v:Int}(b:0<=v)(f:v<m):∀k∈kd m o r d v,∀i,1<=(λk g=>wy m o r d j fr be c k (υ (c k) g)) k i:=λk e i=>by
 have a:=((bB g R b f).mp e).1;exact vf g R _ a.1 a.2 (ax _) _
theorem ϭ.bd{f h:fz}{a:fc}(N:ϭ m o r d j fr be c f h a)(g:Good m o)(R:ε m o r d j){v:Int}(b:0<=v)(e:v<m):0<=a v/\a v<wy m o r d j fr be c v (f v):=by
 rw[ms g R b e];exact(N.at_ v b e).lt (vb g R b e)
theorem ϭ.kid{k a:fz}{e:fc}(N:ϭ m o r d j fr be c k a e)(g:Good m o)(R:ε m o r d j){v:Int}(f:0<=v)(l:v<m)(h:v≠r):v∈kd m o r d (d v)/\a v<=k (d v)/\(fr v=false->be v=false->a v=0):=by
 have p:=(R.up v f l h).1;have i:v∈kd m o r d (d v):=(bB g R p.1 p.2).mpr ⟨⟨f,l⟩,h,rfl⟩;have b:=(N.at_ _ p.1 p.2).bd (v,a v,e v) (bz.mpr ⟨v,i,rfl⟩);exact⟨i,b.2.1,b.2.2⟩
theorem ϭ.inj{s y k f:fz}{i l:fc}(N:ϭ m o r d j fr be c s y i)(h:ϭ m o r d j fr be c k f l)(g:Good m o)(R:ε m o r d j)(u:s r=k r)(w:i r=l r):∀(n:Nat)(v:Int),j v=n->0<=v->v<m->s v=k v/\i v=l v
 | 0,v,e,h0,h1=>by
   by_cases b:v=r
   .rw[b];exact⟨u,w⟩
   .have:=R.pos h0 h1 b
    lia
 | n+1,v,e,h0,h1=>by
   have b:v≠r:=λz=>by have:=R.root;rw[z]at e;lia
   have p:=(R.up v h0 h1 b).1;obtain⟨x,A⟩:=ϭ.inj N h g R u w n (d v) (by have:=R.pos h0 h1 b;lia) p.1 p.2;have a:=N.at_ _ p.1 p.2;rw[x]at a;have q:=a.inj (vb g R p.1 p.2) (h.at_ _ p.1 p.2) A;have t:=List.map_inj_left.mp q v (N.kid g R h0 h1 b).1;injection t with _ t
   injection t with t1 t2
   rw[N.up v h0 h1 b,h.up v h0 h1 b,t1];exact⟨rfl,t2⟩
def XZ(F:Int->Nat->Int->List (Int×Nat×Int))(d:fc)(c:fz)(z:Nat)(a:Int):Nat->Int->Nat×Nat×Int
 | 0,_=>(z,0,a)
 | n+1,v=>let q:=ZK (F (d v) (XZ F d c z a n (d v)).1 (XZ F d c z a n (d v)).2.2) v
   (υ (c v) q.1,q.1,q.2)
theorem ϭ.ex(g:Good m o)(R:ε m o r d j){z:Nat}{f:Int}(K:0<=r)(L:r<m)(G:0<=f)(J:f<wy m o r d j fr be c r z):∃(C I:fz)(B:fc),ϭ m o r d j fr be c C I B/\C r=z/\B r=f:=by
 let F:Int->Nat->Int->List (Int×Nat×Int):=λv h n=>Classical.epsilon λcs=>Rk fr be (λk g=>wy m o r d j fr be c k (υ (c k) g)) (kd m o r d v) h cs n
 have w:∀v h n,0<=v->v<m->0<=n->n<wy m o r d j fr be c v h->Rk fr be (λk g=>wy m o r d j fr be c k (υ (c k) g)) (kd m o r d v) h (F v h n) n:=λv h n t s a b=>by
  rw[ms g R t s]at b;exact Classical.epsilon_spec (Rk.ex (vb g R t s) a b)
 have u:∀v h n,0<=v->v<m->0<=n->n<wy m o r d j fr be c v h->F v h n=(kd m o r d v).map λx=>(x,(ZK (F v h n) x).1,(ZK (F v h n) x).2):=λv h n t s a b=>by
  have e:=(w v h n t s a b).fst;have:=JK (cs:=F v h n) (by rw[e];exact mW);rw[e]at this;exact this
 have st:∀v,0<=v->v<m->v≠r->XZ F d c z f (j v) v=(υ (c v) (ZK (F (d v) (XZ F d c z f (j (d v)) (d v)).1 (XZ F d c z f (j (d v)) (d v)).2.2) v).1,(ZK (F (d v) (XZ F d c z f (j (d v)) (d v)).1 (XZ F d c z f (j (d v)) (d v)).2.2) v).1,(ZK (F (d v) (XZ F d c z f (j (d v)) (d v)).1 (XZ F d c z f (j (d v)) (d v)).2.2) v).2):=λv t s q=>by
  rw[R.pos t s q]
  rfl
 have y:XZ F d c z f (j r) r=(z,0,f):=by rw[R.root];rfl
 have bd:∀(n:Nat)(v:Int),j v=n->0<=v->v<m->0<=(XZ F d c z f (j v) v).2.2/\(XZ F d c z f (j v) v).2.2<wy m o r d j fr be c v (XZ F d c z f (j v) v).1:=λn=>by
  induction n with
  | zero=>
    intro v e l i;by_cases q:v=r
    .rw[q,y];exact⟨G,J⟩
    .have:=R.pos l i q
     lia
  | succ n ih=>
    intro v e l i;have q:v≠r:=λz=>by have:=R.root;rw[z]at e;lia
    have p:=(R.up v l i q).1;obtain⟨a,b⟩:=ih (d v) (by have:=R.pos l i q;lia) p.1 p.2;have k:=u (d v) _ _ p.1 p.2 a b;have:=(w (d v) _ _ p.1 p.2 a b).bd (v,_,_) (by rw[k];exact bz.mpr ⟨v,(bB g R p.1 p.2).mpr ⟨⟨l,i⟩,q,rfl⟩,rfl⟩);rw[st v l i q];exact this.1
 refine⟨λv=>(XZ F d c z f (j v) v).1,λv=>(XZ F d c z f (j v) v).2.1,λv=>(XZ F d c z f (j v) v).2.2,⟨λv l i q=>?_,λv l i=>?_⟩,?_,?_⟩
 .show(XZ F d c z f (j v) v).1=υ (c v) (XZ F d c z f (j v) v).2.1;rw[st v l i q]
 .obtain⟨a,b⟩:=bd _ v rfl l i;have h:=w v _ _ l i a b;have e:=u v _ _ l i a b;rw[e]at h;refine(?_:List.map _ _=List.map _ _)▸h;refine bX λk H=>?_;obtain⟨A,D,E⟩:=(bB g R l i).mp H;rw[st k A.1 A.2 D,E]
 .show(XZ F d c z f (j r) r).1=z;rw[y]
 .show(XZ F d c z f (j r) r).2.2=f;rw[y]
theorem De(f:fz):∀l:List Int,(l.map λk=>(f k:Int)).sum=((l.map f).sum:Nat)
 | []=>rfl
 | a::l=>by rw[az,az,aW,aW,De f l];rfl
theorem C2{c i:Nat}(h:1<=c):((υ c i:Nat):Int)=((i:Int)+1)*c-1:=by
 unfold υ;have:1<=(i+1)*c:=bR (show 1<=i+1 by lia) h;rw[jP this,iB]
 rfl
theorem ϭ.spr{a e:fz}{f:fc}(N:ϭ m o r d j fr be c a e f)(g:Good m o)(R:ε m o r d j)(b:∀k,0<=k->k<m->k≠r->(c k:Int)=tup o d k)(h:∀k,0<=k->k<m->k≠r->fr k=true\/be k=true->ν m o r d j k*tup o d k=ν m o r d j (d k))(i:∀v,0<=v->v<m->kd m o r d v≠[]->∃k∈kd m o r d v,fr k=false/\be k=true):Zj m o r d j (a r+1) (λv=>(a v:Int)) λv=>(e v:Int) where
 rt:=by lia
 up v h0 h1 vr:=by
  refine⟨?_,λz=>h v h0 h1 vr ?_⟩
  .rw[N.up v h0 h1 vr,C2 (by have:=b v h0 h1 vr;have:=(gP g R h0 h1 vr).1;lia),b v h0 h1 vr]
  .have q:=(N.kid g R h0 h1 vr).2.2;cases ef:fr v with
   | true=>exact .inl rfl
   | false=>
     cases eb:be v with
     | true=>exact .inr rfl
     | false=>exact absurd (q ef eb) (by lia)
 su v h0 h1 kn:=by
  have s:=(N.at_ v h0 h1).sum.2 (i v h0 h1 kn);rw[kT]at s;rw[De,<-s]
  rfl
theorem ϭ.ajZ{l w:fz}{C:fc}(N:ϭ m o r d j fr be c l w C)(g:Good m o)(R:ε m o r d j){a:eu}(O:Order m r d a)(u:∀k,fr k=(decide (ν m o r d j k*tup o d k=ν m o r d j (d k))&&decide (oK m o r d j a (d k)≠some k)))(y:∀k,be k=decide (oK m o r d j a (d k)=some k))(z:∀k,c k=(tup o d k).toNat):Zj m o r d j (l r+1) (λv=>(l v:Int)) λv=>(w v:Int):=by
 have B:=VY g R O;refine N.spr g R (λk s f q=>?_) (λk s f q h=>?_) λv n i A=>?_
 .rw[z k];exact bn (by have:=(gP g R s f q).1;lia)
 .have p:=(R.up k s f q).1;rcases h with h|h
  .rw[u k,b5]at h;exact bZ h.1
  .rw[y k]at h;exact(B.hv _ _ p.1 p.2 (bZ h)).2
 .cases e:oK m o r d j a v with
  | none=>exact absurd (B.no v n i e) A
  | some b=>
    have x:=(B.hv v b n i e).1;have t:=((bB g R n i).mp x).2.2;refine⟨b,x,?_,?_⟩
    .rw[u b,t,e];simp
    .rw[y b,t,e];simp
theorem JE{w:Int}(e:0<=r)(b:r<m){t:eu}(O:Order m r d t):ϡ m o r d (cJ m o r d j) w=(t.map (hol m o r d j)).sum+ν m o r d j r*(w-1):=by
 unfold ϡ;rw[<-O.sums,show(cJ m o r d j).getD r.toNat 0=ν m o r d j r from fD e b,nR];refine congrArg (·+_) (oQ λu a=>?_);unfold Y5 hol upT;rw[show(cJ m o r d j).getD u.toNat 0=ν m o r d j u from fD (O.Λ u a).1 (O.Λ u a).2]
end
end Pb
namespace PySem.SeqAt
open AutoSeq1 (wpAny_loadPart')
open MeetsSeq MeetsSeq2 MeetsSeq3 SeqRoads2
def ϐ:List Int->List Int->Bool
 | a::as,b::bs=>if a=b then ϐ as bs else decide (a<b)
 | _,_=>false
theorem LP(l b:Addr)(a p:Array Value)(n Q:Nat)(T y:Option Addr)(G C:Array (Option Value))(x:a.size=p.size)(c f:eu)(V:c.length=a.size)(U:f.length=a.size)(H:∀j (N:j<a.size),∃t,a[j]=.int (c.getD j 0) t)(M:∀j (N:j<p.size),∃t,p[j]=.int (f.getD j 0) t)(k:Nat):∀i:Nat,a.size-i=k->Meets (Builtin.«list.__eq__.loop» ⟨[.ref l,.ref b,rawInt i,rawInt 0],[]⟩)
 (λA R s=>s.heap.get? l=some { cls:=.type "list",dict:=T,data:=.seq a n,slots:=G }/\s.heap.get? b=some { cls:=.type "list",dict:=y,data:=.seq p Q,slots:=C }/\R (.ok (.ret (.bool (ϐ (c.drop i) (f.drop i))))) s):=by
 induction k with
 | zero=>
   intro i O e w A R s h;obtain⟨I,g,d,S,os⟩:=s;obtain⟨q,r,h⟩:=h
   wp_walk using wpAny_loadPart' q,hW r
   have m:a[((i:Nat):Int).toNat]?=none:=by simp;lia
   have o:p[((i:Nat):Int).toNat]?=none:=by simp;lia
   have P:c.drop i=[]:=by simp;lia
   rw[P]at h;rw[m,o]
   wp_walk using wpAny_loadPart' q,hW r
   show R (.ok (.ret (.bool (decide (a.size<p.size))))) _;rw[x,bw (c7 _)];exact h
 | succ k ih=>
   intro i O e w A R s h;obtain⟨I,g,d,S,os⟩:=s;obtain⟨q,r,h⟩:=h
   wp_walk using wpAny_loadPart' q,hW r
   have F:i<a.size:=by lia
   have u:i<p.size:=by lia
   obtain⟨E,K⟩:=H i F;obtain⟨D,J⟩:=M i u;have m:a[((i:Nat):Int).toNat]?=some (.int (c.getD i 0) E):=by simp[F,K]
   have o:p[((i:Nat):Int).toNat]?=some (.int (f.getD i 0) D):=by simp[u,J]
   have B:c.drop i=c.getD i 0::c.drop (i+1):=by rw[cq (by lia),bH,ao (by lia)];rfl
   have z:f.drop i=f.getD i 0::f.drop (i+1):=by rw[cq (by lia),bH,ao (by lia)];rfl
   have L:((i:Int)+1)=((i+1:Nat):Int):=by push_cast;rfl
   rw[B,z,ϐ]at h;rw[m,o];refine ak (EqAt.int_int (c.getD i 0) E (f.getD i 0) D e w _ _ ?_);by_cases v:c.getD i 0=f.getD i 0
   .rw[aj v]at h;rw[show(c.getD i 0==f.getD i 0)=true from jZ.mpr v]
    wp_walk
    rw[L];exact⟨plainId_quiet plain_eq_loop _,codeAny_builtin entry_eq_loop (by
     rw[Around.under_plainId plain_eq_loop _];exact ih (i+1) (by lia) e w A R _ ⟨q,r,h⟩)⟩
   .rw[ah v]at h;rw[show(c.getD i 0==f.getD i 0)=false from beq_eq_false_iff_ne.mpr v]
    wp_walk using wpAny_loadPart' q,hW r
    rw[m,o];refine ak (show wpAny _ _ (compareOp .Lt _ _) _ _ _ from wpAny_lt_int ?_)
    wp_walk
    exact h
theorem ZL(l b:Addr)(a f:Array Value)(n r:Nat)(v e:Option Addr)(p i:Array (Option Value))(o:a.size=f.size)(k m:eu)(z:k.length=a.size)(y:m.length=a.size)(x:∀j (C:j<a.size),∃t,a[j]=.int (k.getD j 0) t)(B:∀j (C:j<f.size),∃t,f[j]=.int (m.getD j 0) t):Meets (Builtin.«list.__lt__» ⟨[.ref l,.ref b],[]⟩)
 (λA R s=>s.heap.get? l=some { cls:=.type "list",dict:=v,data:=.seq a n,slots:=p }/\s.heap.get? b=some { cls:=.type "list",dict:=e,data:=.seq f r,slots:=i }/\R (.ok (.ret (.bool (ϐ k m)))) s):=by
 intro c w A R s h;obtain⟨D,g,d,F,os⟩:=s;obtain⟨q,u,h⟩:=h;have E:=AutoSeq1.sub_list_list
 wp_walk using wpAny_loadPart' q,hW u
 exact⟨plainId_quiet plain_eq_loop _,codeAny_builtin entry_eq_loop (by
  rw[Around.under_plainId plain_eq_loop _];exact LP l b a f n r v e p i o k m z y x B _ 0 rfl c w A R _ ⟨q,u,by simpa using h⟩)⟩
end PySem.SeqAt
namespace L2
open PySem PySem.W NumText
section
variable{X:Cx}
def WW(K:gh):R2:=λx y H Q=>∃(a b:Addr)(d c:eu),x=.ref a/\y=.ref b/\μ K H a (d.map V.int)/\μ K H b (c.map V.int)/\d.length=c.length/\Q (.bl (PySem.SeqAt.ϐ d c)) H
theorem zM:∀{b:eu}{a:hD},Vals (b.map V.int) a->∀j (h:j<a.length),∃t,a[j]=.int (b.getD j 0) t
 | [],_,.nil,j,h=>absurd h (jD _)
 | x::b,_,.cons r rs,0,_=>by obtain⟨t,e⟩:=(show ∃t,_=Value.int x t from r);exact⟨t,e⟩
 | x::b,_,.cons r rs,j+1,h=>zM rs j (Nat.lt_of_succ_lt_succ h)
theorem TM(Y:X.A.units+64<cLine):Ϻ X (compareOp .Lt) (WW X.K):=by
 intro r s T H x y v u Q I E J h;obtain⟨a,b,i,k,rfl,rfl,L,N,W,q⟩:=h;cases(show v=Value.ref a from E);cases(show u=Value.ref b from J);obtain⟨e,C,⟨⟨M,P,w,D⟩,n,p,t,_,B⟩,V⟩:=I.list L;obtain⟨z,g,⟨⟨R,m,l,o⟩,O,f,c,_,d⟩,G⟩:=I.list N;simp only at t B c d;subst t B c d;have U:i.length=e.length:=by rw[<-C.length,aa]
 have S:k.length=z.length:=by rw[<-g.length,aa]
 refine richCompare_meets_room (op:=.Lt) ⟨_,p,rfl⟩ ⟨_,f,rfl⟩ F.slot_list_lt F.entry_list_lt (F.args_list_lt_2 _ _) (SeqAt.ZL a b e.toArray z.toArray n O P m D o (by simp;lia) i k (by simp;lia) (by simp;lia) (λj h=>?_) λj h=>?_)
  ⟨p,f,show Value.bool (SeqAt.ϐ i k)≠Value.notImplemented/\_ from⟨(λx=>nomatch x),⟨.bl _,H,I,rfl,q⟩⟩⟩ (by lia)
 .simpa using zM C j (by simpa using h)
 .simpa using zM g j (by simpa using h)
theorem Sf{K:gh}{H:Hp}{a b:Addr}{c ys:eu}{Q:VK}(e:H a=some (.lst (c.map V.int)))(d:H b=some (.lst (ys.map V.int)))(q:Q (.bl (!decide (c=ys))) H):PF K (.ref a) (.ref b) H Q:=⟨_,_,Eh e,Eh d,KJ c,by rw[Sb];exact q⟩
theorem Pa{K:gh}{H:Hp}{a b:Addr}{c d:eu}{Q:VK}(f:H a=some (.tup (c.map V.int)))(e:H b=some (.tup (d.map V.int)))(q:Q (.bl (!decide (c=d))) H):PF K (.ref a) (.ref b) H Q:=⟨_,_,Pb.iS f,Pb.iS e,by have:=Pb.XW c;lia,by rw[Rx];exact q⟩
end
end L2
namespace Pb
open L2 PySem PySem.W NumText PySem.SeqAt
section
variable{j m:Int->Bool}{d:Int->Nat->Int}
theorem Rk.mk{gv:fz}{nb:fc}:∀{ks:eu}{left:Nat},(∀k∈ks,0<=nb k/\nb k<d k (gv k))->(∀k∈ks,j k=false->m k=false->gv k=0)->(∀g k c,ks=g++k::c->j k=false->m k=true->∀b∈c,gv b=0)->(ks.map gv).sum<=left->((∃k∈ks,j k=false/\m k=true)->(ks.map gv).sum=left)->∃n,Rk j m d ks left (ks.map λk=>(k,gv k,nb k)) n
 | [],left,_,_,_,_,_=>⟨0,.nil _⟩
 | k::ks,left,h1,h2,h3,h4,h5=>by
   rw[az,aW]at h4 h5;obtain⟨n,h⟩:=Rk.mk (ks:=ks) (left:=left-gv k) (λx i=>h1 x (.tail _ i)) (λx i=>h2 x (.tail _ i)) (λg x c e=>h3 (k::g) x c (by rw[e];rfl)) (by lia) λ⟨x,i,e⟩=>by
    have:=h5 ⟨x,.tail _ i,e⟩
    lia
   refine⟨_,.cons (by lia) (λf b=>?_) (h2 k (.head _)) (h1 k (.head _)).1 (h1 k (.head _)).2 h⟩;have e:=h5 ⟨k,.head _,f,b⟩;have z:(ks.map gv).sum=0:=by
    have o:=h3 [] k ks rfl f b;clear h h1 h2 h3 h4 h5 e n
    induction ks with
    | nil=>rfl
    | cons a l ih=>rw[az,aW,o a (.head _),ih λb p=>o b (.tail _ p)]
   lia
theorem Rk.cmp{k:Int}{ks:eu}{a g f:Nat}{n o w v:Int}{A B:hP}(z:∀x∈k::ks,∀i,1<=d x i)(h:Rk j m d (k::ks) a ((k,g,n)::A) w)(y:Rk j m d (k::ks) a ((k,f,o)::B) v):(g<f->w<v)/\(g=f->n<o->w<v):=by
 have b:∀x∈ks,∀i,1<=d x i:=λx q=>z x (.tail _ q);have r:=z k (.head _);have l:=q9 (fr:=j) (be:=m) (ws:=d) (ks:=ks) (λx q i=>b x q i);cases h with
 | @cons _ _ _ _ _ nu1 _ hg hb he n0 n1 h=>
   cases y with
   | @cons _ _ _ _ _ nu2 _ hg' ZT he' m0 m1 y=>
     have C:∀i,0<=d k i*ξ j m d ks (a-i):=λi=>dU (by have:=r i;lia) (by have:=l (a-i);lia);have D:=h.lt b;have E:=y.lt b;refine⟨λlt=>?_,λe lt=>?_⟩
     .have c:j k=true:=by
       cases ef:j k with
       | true=>rfl
       | false=>
         cases eb:m k with
         | true=>have:=hb ef eb;have:=ZT ef eb;lia
         | false=>have:=he ef eb;have:=he' ef eb;lia
      unfold lE;rw[aj c,aj c];have u:=BK C (show g+1<=f by lia);have s:Κ (g+1) (λi=>d k i*ξ j m d ks (a-i))=Κ g (λi=>d k i*ξ j m d ks (a-i))+d k g*ξ j m d ks (a-g):=rfl;rw[s]at u;have t:(n+1)*ξ j m d ks (a-g)<=d k g*ξ j m d ks (a-g):=ce (by lia) (by have:=l (a-g);lia);rw[eR,f8]at t;have p:=dU m0 (show 0<=ξ j m d ks (a-f) by have:=l (a-f);lia)
      lia
     .subst e;have t:(n+1)*ξ j m d ks (a-g)<=o*ξ j m d ks (a-g):=ce (by lia) (by have:=l (a-g);lia);rw[eR,f8]at t
      lia
end
theorem QS{A A' B B':eu}(e:A.length=A'.length):(ϐ A A'=true->ϐ (A++B) (A'++B')=true)/\(A=A'->ϐ (A++B) (A'++B')=ϐ B B'):=by
 induction A generalizing A' with
 | nil=>
   cases A' with
   | nil=>exact⟨λh=>(by cases h),λ_=>rfl⟩
   | cons a A'=>cases e
 | cons a A ih=>
   cases A' with
   | nil=>cases e
   | cons a' A'=>
     obtain⟨d,b⟩:=ih (A':=A') (by simpa using e);refine⟨λh=>?_,λh=>?_⟩
     .rw[ϐ]at h;rw[ft,ft,ϐ];split
      .rename_i c
       rw[aj c]at h;exact d h
      .rename_i c
       rw[ah c]at h;exact h
     .injection h with h1 h2
      rw[ft,ft,ϐ,aj h1];exact b h2
theorem DW:∀{A B:eu},ϐ A B=true->ϐ B A=false
 | [],_,h=>by cases h
 | _::_,[],h=>by cases h
 | a::A,b::B,h=>by
   rw[ϐ]at h ⊢;by_cases c:a=b
   .rw[aj c]at h;rw[aj c.symm];exact DW h
   .rw[ah c]at h;rw[ah λz=>c z.symm];have:=bZ h;exact bw (by lia)
theorem uK:∀A:List Int,ϐ A A=false
 | []=>rfl
 | a::A=>by rw[ϐ,aj rfl];exact uK A
section
variable{m r:Int}{o:hT}{d:fc}{j:fz}{fr be:Int->Bool}{c:fz}
theorem ϭ.acT(g:Good m o)(R:ε m o r d j)(U:0<=r)(V:r<m){J:eu}(W:bO m o r d j r=r::J)(O:Order m r d J)(Z:∀k,fr k=(decide (ν m o r d j k*tup o d k=ν m o r d j (d k))&&decide (oK m o r d j J (d k)≠some k)))(T:∀k,be k=decide (oK m o r d j J (d k)=some k))(K:∀k,c k=(tup o d k).toNat){w:Int}{D gv:fc}(S:Zj m o r d j w D gv)(Y:∀v,0<=v->v<m->0<=D v):∃nb,ϭ m o r d j fr be c (λv=>(D v).toNat) (λv=>(gv v).toNat) nb:=by
 have H:∀v,0<=v->v<m->v≠r->0<=gv v:=λv A u G=>by
  have a:=Y v A u;have t:=(gP g R A u G).1;rw[(S.up v A u G).1]at a;by_cases z:0<=gv v
  .exact z
  .have:(gv v+1)*tup o d v<=0*tup o d v:=ce (by lia) (by lia);rw[Int.zero_mul]at this
   lia
 have up:∀v,0<=v->v<m->v≠r->(D v).toNat=υ (c v) (gv v).toNat:=λv A u G=>by
  have t:=(gP g R A u G).1;have e:=C2 (c:=c v) (i:=(gv v).toNat) (by rw[K];lia);rw[K,bn (H v A u G),show(((tup o d v).toNat:Nat):Int)=tup o d v from bn (by lia),<-(S.up v A u G).1]at e;rw[K,<-e,bu]
 let F:Nat->Int->Int:=Nat.rec (motive:=λ_=>Int->Int) (λ_=>0) λ_ f v=>Classical.epsilon λnu=>Rk fr be (λk g=>wy m o r d j fr be c k (υ (c k) g)) (kd m o r d v) (D v).toNat ((kd m o r d v).map λk=>(k,(gv k).toNat,f k)) nu
 have L:∀(n:Nat)(v:Int),0<=v->v<m->m.toNat-j v=n->Rk fr be (λk g=>wy m o r d j fr be c k (υ (c k) g)) (kd m o r d v) (D v).toNat ((kd m o r d v).map λk=>(k,(gv k).toNat,F (m.toNat-j k) k)) (F n v):=λn=>by
  induction n with
  | zero=>
    intro v A u e;have:=lC R A u
    lia
  | succ n ih=>
    intro v A u e;have C:∀k∈kd m o r d v,((0<=k/\k<m)/\k≠r/\d k=v)/\m.toNat-j k=n:=λk p=>by
     obtain⟨q,E,I⟩:=(bB g R A u).mp p;have pd:=R.pos q.1 q.2 E;rw[I]at pd;exact⟨⟨q,E,I⟩,by lia⟩
    rw[show((kd m o r d v).map λk=>(k,(gv k).toNat,F (m.toNat-j k) k))=(kd m o r d v).map λk=>(k,(gv k).toNat,F n k)from bX λk p=>by rw[(C k p).2]];have B:∀k∈kd m o r d v,(gv k).toNat≠0->ν m o r d j k*tup o d k=ν m o r d j v:=λk p z=>by
     obtain⟨⟨q,E,I⟩,_⟩:=C k p;have:=(S.up k q.1 q.2 E).2 (by lia);rw[I]at this;exact this
    have Q:kd m o r d v≠[]->((kd m o r d v).map λk=>(gv k).toNat).sum=(D v).toNat:=λz=>by
     have s:=S.su v A u z;rw[oQ (h:=λk=>(((gv k).toNat:Nat):Int)) λk p=>(bn (H k (C k p).1.1.1 (C k p).1.1.2 (C k p).1.2.1)).symm,De]at s
     lia
    exact Classical.epsilon_spec (Rk.mk (gv:=λk=>(gv k).toNat) (nb:=F n) (λk p=>by
     obtain⟨⟨q,E,I⟩,k4⟩:=C k p;have l:=(ih k q.1 q.2 k4).lt (vb g R q.1 q.2);rw[<-ms g R q.1 q.2,up k q.1 q.2 E]at l;exact l) (λk p f b=>Classical.byContradiction λz=>by
     have h:=B k p z;rw[Z,(C k p).1.2.2,ba h,jb]at f;rw[T,(C k p).1.2.2]at b;exact(of_decide_eq_false f) λy=>of_decide_eq_false b y) (λac k M e _ b x P=>Classical.byContradiction λz=>by
     have km:k∈kd m o r d v:=(by rw[e];exact aR _ (.head _));have X:x∈kd m o r d v:=(by rw[e];exact aR _ (.tail _ P));rw[T,(C k km).1.2.2]at b;have N:=(QQ g R U V W O A u e).mp (bZ b);rw[b5,fX]at N;have:=List.any_eq_false.mp N.2 x P;exact this (ba (B x X z))) (by
     by_cases z:kd m o r d v=[]
     .rw[z];exact bx _
     .exact kU (Q z)) λ⟨k,p,_⟩=>Q λz=>by rw[z]at p;cases p)
 exact⟨λv=>F (m.toNat-j v) v,up,λv A u=>L _ v A u rfl⟩
abbrev Xx(m:Int)(o:hT)(r:Int)(d:fc)(j:fz)(a:fz)(v:Int):List Int:=(bO m o r d j v).map λu=>(a u:Int)
theorem vX(g:Good m o)(R:ε m o r d j){v:Int}(b:0<=v)(e:v<m)(a:fz):Xx m o r d j a v=(a v:Int)::(kd m o r d v).flatMap (Xx m o r d j a):=by
 unfold Xx;rw[fM g R b e,az,List.map_flatMap]
theorem ϭ.lex{s C q t:fz}{E G:fc}(N:ϭ m o r d j fr be c s C E)(H:ϭ m o r d j fr be c q t G)(g:Good m o)(R:ε m o r d j)(O:∀k,0<=k->k<m->k≠r->1<=c k):∀(n:Nat)(v:Int),m.toNat-j v=n->0<=v->v<m->s v=q v->(E v<G v->ϐ (Xx m o r d j s v) (Xx m o r d j q v)=true)/\(E v=G v->Xx m o r d j s v=Xx m o r d j q v)
 | 0,v,e,h0,h1=>by
   have:=lC R h0 h1
   lia
 | n+1,v,e,h0,h1=>λV=>by
   have Z:∀k∈kd m o r d v,((0<=k/\k<m)/\k≠r)/\m.toNat-j k=n:=λk A=>by
    obtain⟨f,w,J⟩:=(bB g R h0 h1).mp A;have pd:=R.pos f.1 f.2 w;rw[J]at pd;exact⟨⟨f,w⟩,by lia⟩
   have X:∀(h:eu)(p:Nat)(F D:Int),(∀k∈h,k∈kd m o r d v)->Rk fr be (λk g=>wy m o r d j fr be c k (υ (c k) g)) h p (h.map λk=>(k,C k,E k)) F->Rk fr be (λk g=>wy m o r d j fr be c k (υ (c k) g)) h p (h.map λk=>(k,t k,G k)) D->(F<D->ϐ (h.flatMap (Xx m o r d j s)) (h.flatMap (Xx m o r d j q))=true)/\(F=D->h.flatMap (Xx m o r d j s)=h.flatMap (Xx m o r d j q)):=λh=>by
    induction h with
    | nil=>
      intro p F D _ a b;rw[a.bV,b.bV];exact⟨λz=>absurd z (by lia),λ_=>rfl⟩
    | cons k h ih=>
      intro p F D A a b;rw[az]at a b;obtain⟨⟨f,w⟩,J⟩:=Z k (A k (.head _));have M:∀x∈k::h,∀i,1<=(λk g=>wy m o r d j fr be c k (υ (c k) g)) x i:=λx K=>vb g R h0 h1 x (A x K);have S:=Rk.cmp M a b;have P:=Rk.cmp M b a;obtain⟨_,u,U,T⟩:=a.Y8;obtain⟨_,u',W,ab⟩:=b.Y8;have ln:(Xx m o r d j s k).length=(Xx m o r d j q k).length:=(by unfold Xx;rw[aa,aa]);obtain⟨Q,Y⟩:=QS (B:=h.flatMap (Xx m o r d j s)) (B':=h.flatMap (Xx m o r d j q)) ln;rw[bD,bD];rcases iT (C k) (t k)with l|l|l
      .refine⟨λ_=>Q ?_,λz=>absurd (S.1 l) (by lia)⟩;have hl:s k<q k:=by
        rw[N.up k f.1 f.2 w,H.up k f.1 f.2 w];unfold υ;have:=dA (c k) (show C k+1+1<=t k+1 by lia);rw[fm (C k+1),lO]at this;have:=O k f.1 f.2 w;have:1<=(C k+1)*c k:=bR (show 1<=C k+1 by lia) this
        lia
       rw[vX g R f.1 f.2,vX g R f.1 f.2,ϐ,ah (by lia)];exact ba (by lia)
      .have ek:s k=q k:=(by rw[N.up k f.1 f.2 w,H.up k f.1 f.2 w,l]);obtain⟨L,I⟩:=ϭ.lex N H g R O n k J f.1 f.2 ek;rw[l]at U T;rcases Int.lt_trichotomy (E k) (G k)with y|y|y
       .exact⟨λ_=>Q (L y),λz=>absurd (S.2 l y) (by lia)⟩
       .rw[y]at T;obtain⟨i1,i2⟩:=ih _ u u' (λx K=>A x (.tail _ K)) U W;rw[Y (I y)];refine⟨λz=>i1 (by lia),λz=>?_⟩;rw[I y,i2 (by lia)]
       .have:=P.2 l.symm y;exact⟨λz=>absurd z (by lia),λz=>absurd z (by lia)⟩
      .have:=P.1 l;exact⟨λz=>absurd z (by lia),λz=>absurd z (by lia)⟩
   have a:=N.at_ v h0 h1;rw[V]at a;obtain⟨L,I⟩:=X _ _ _ _ (λk A=>A) a (H.at_ v h0 h1);rw[vX g R h0 h1,vX g R h0 h1,V];refine⟨λz=>?_,λz=>by rw[I z]⟩;rw[ϐ,aj rfl];exact L z
theorem ϭ.order{h u b i:fz}{a f:fc}(N:ϭ m o r d j fr be c h u a)(q:ϭ m o r d j fr be c b i f)(g:Good m o)(R:ε m o r d j)(s:∀k,0<=k->k<m->k≠r->1<=c k)(l:0<=r)(p:r<m)(e:h r=b r):ϐ (Xx m o r d j h r) (Xx m o r d j b r)=decide (a r<f r)/\(Xx m o r d j h r=Xx m o r d j b r↔a r=f r):=by
 obtain⟨t,v⟩:=ϭ.lex N q g R s _ r rfl l p e;obtain⟨n,w⟩:=ϭ.lex q N g R s _ r rfl l p e.symm;rcases Int.lt_trichotomy (a r) (f r)with y|y|y
 .rw[t y];refine⟨(ba y).symm,λz=>?_,λz=>absurd z (by lia)⟩;have:=t y;rw[z,uK]at this;cases this
 .rw[v y,uK];exact⟨(bw (by lia)).symm,λ_=>y,λ_=>rfl⟩
 .rw[DW (n y)];refine⟨(bw (by lia)).symm,λz=>?_,λz=>absurd z (by lia)⟩;have:=n y;rw[z,uK]at this;cases this
end
end Pb
set_option maxHeartbeats 4000000
namespace Pk
open PySem L2 Pb
seal L2.YS L2.PS L2.PE L2.PT L2.PW L2.PA L2.PG L2.PGs L2.PI L2.PTs L2.PC L2.PPs L2.PO
abbrev top(i:Nat):Stmt:=Hd.top i
local macro_rules|`(tactic| walk_at "") => `(tactic| ((try dsimp only [acE, Lp, D5, JA, GY, JH, DU, Q8, Ly, OY, Kz, LF, Kx, PB, Od, Nv, Ec, NZ, KC, Z1, CL, ww, Kq, Lk, aco, NY, Kp, NH, ipI, OD, K4, B6, tB, Bd, tC, xZ, tOp, tUn, rI0, rI, rU, rEq, rNe, rF, Kk, Ld, acr, NL, QI, tCB, tBM, PQ, OW, Oj, OQ, Dv, LA, Kg, Fj, xP, Y0, Y1, OX, tOr, OI, Lu, Lj, List.nil_append, List.append_nil, List.set_cons_zero, List.set_cons_succ, List.getElem?_cons_zero, List.getElem?_cons_succ]);(try simp only [acE, Lp, D5, JA, GY, JH, DU, Q8, Ly, OY, Kz, LF, Kx, PB, Od, Nv, Ec, NZ, KC, Z1, CL, ww, Kq, Lk, aco, NY, Kp, NH, ipI, OD, K4, B6, tB, Bd, tC, xZ, tOp, tUn, rI0, rI, rU, rEq, rNe, SE, SH, Sv, RR, R8, RK, rF, Kk, Ld, acr, NL, QI, tCB, tBM, PQ, OW, Oj, OQ, Dv, LA, Kg, Fj, xP, Y0, Y1, OX, tOr, OI, Lu, Lj, List.nil_append, List.append_nil, List.set_cons_zero, List.set_cons_succ, List.getElem?_cons_zero, List.getElem?_cons_succ, Option.some.injEq, V.int.injEq, V.bl.injEq, V.ref.injEq, List.cons.injEq, exists_eq_left, exists_eq_left', exists_and_left, exists_const, and_true, true_and, decide_eq_true_eq, Bool.not_eq_true', decide_eq_false_iff_not, Bool.true_eq_false, Bool.false_eq_true, if_true, if_false])))
local macro_rules|`(tactic| walk_at "v") => `(tactic| (intro _ _ _ _ h;first|(cases h;(have q := ‹_ = _ /\ _›);rw [q.1];rfl)|((repeat (obtain ⟨_, h⟩ := h));subst_vars;rfl)))
local macro_rules|`(tactic| walk_at "s") => `(tactic| simp only [L2.start, List.map_cons, List.map_nil, List.length_cons, List.length_nil, Nat.reduceAdd, Nat.reduceSub, List.replicate_succ, List.replicate_zero, List.cons_append, List.nil_append])
set_option genSizeOf false in
set_option genInjectivity false in
structure Txt(K:gh)(mg:hH) where
 TollError:Addr
 Wb:mg "TollError"=some (.ref TollError)
 BadWeb:Addr
 WY:mg "BadWeb"=some (.ref BadWeb)
 NoPlace:Addr
 Mi:mg "NoPlace"=some (.ref NoPlace)
 NoRoad:Addr
 Qs:mg "NoRoad"=some (.ref NoRoad)
 BadLaying:Addr
 Ia:mg "BadLaying"=some (.ref BadLaying)
 BadWish:Addr
 Ni:mg "BadWish"=some (.ref BadWish)
 TooMany:Addr
 MB:mg "TooMany"=some (.ref TooMany)
 NoNumber:Addr
 wI:mg "NoNumber"=some (.ref NoNumber)
 Web:Addr
 Wp:mg "Web"=some (.ref Web)
 Tally:Addr
 C7:mg "Tally"=some (.ref Tally)
 za:acL K TollError
 Fu:aT K TollError BadWeb
 Em:aT K TollError NoPlace
 xX:p9 K NoPlace
 FA:aT K TollError NoRoad
 zW:p9 K NoRoad
 zg:aT K TollError BadLaying
 uN:p9 K BadLaying
 D1:aT K TollError BadWish
 ya:p9 K BadWish
 DX:aT K TollError TooMany
 xp:p9 K TooMany
 sG:aT K TollError NoNumber
 sJ:p9 K NoNumber
 ndx:[TollError,BadWeb,NoPlace,NoRoad,BadLaying,BadWish,TooMany,NoNumber].Nodup
 range:mg "range"=none
 zip:mg "zip"=none
 len:mg "len"=none
 isinstance:mg "isinstance"=none
 all:mg "all"=none
 int:mg "int"=none
 bool:mg "bool"=none
 tuple:mg "tuple"=none
 list:mg "list"=none
 reversed:mg "reversed"=none
 sorted:mg "sorted"=none
 min:mg "min"=none
 max:mg "max"=none
 enumerate:mg "enumerate"=none
 sum:mg "sum"=none
 str:mg "str"=none
 set:mg "set"=none
 XF:∃t,mg "MOST_PLACES"=some (.int 24 t)
 Yd:∃t,mg "LEAST_TOLL"=some (.int 2 t)
 YG:∃t,mg "MOST_TOLL"=some (.int 1000000 t)
 Xs:∃t,mg "MOST_PEBBLES"=some (.int 1000000000000 t)
 lM:Cls K Web
 ϑ:Ο K Web "many"
 Ye:Ο K Web "roads"
 cZ:Cls K Tally
 Ge:Ο K Tally "web"
 vd:Ο K Tally "down"
 X0:Ο K Tally "weights"
 uw:Ο K Tally "bearers"
 rX:Ο K Tally "kids"
 Ϯ:Ο K Tally "rests"
section
variable{P:Program}{w:World}{K:gh}{U:hH}{base:Heap}{CX:W7}
def uE(T:Txt K U):Sp:=λb H Q _=>E3 λ(m:Int)(t:Addr)(a:List V)=>b=[.int m,.ref t]/\Ι K H t a/\1<=m/\m<=24/\(a.length:Int)=m-1/\Q .π H
abbrev mH:Stmt:=top 18
theorem Co:ζ ["many","roads"] ["many","roads"] (aG mH):=.of
theorem mP:Ϙ (aG mH) "MOST_PLACES":=.of (by kernel_rfl)
theorem BD(T:Txt K U)(f:b6 (Β P w)):Ok P w K U base "check_counts" mH ["many","roads"] 1 (uE T):=λ_ _ D=>by
 refine D.F.ό Co (by walk_at "v") λi A a s H l Q E j h=>?_;obtain⟨m,t,b,rfl,e,c,o,n,k⟩:=h;refine⟨_,(ap (dG (kK (zC wC wC aL (γ 0) (wm mP.g T.XF (hd:=mP.d)))) (aM rj) cN) (aM (dG (Ϫ pL (BV gI T.len (ag (γ 1) ay)) (aZ fU (γ 0) aL)) (aM rj) cN))),?_⟩;walk_at "s";walk_at "";rw[aj c,ah (by lia)];exact⟨b,.inr e,by rw[ah (by lia)];exact k⟩
def uT(T:Txt K U):Sp:=λa H Q _=>∃m n:Int,a=[.int m,.int n]/\Q (.bl (decide (0<=n)&&decide (n<m))) H
abbrev qJ:Stmt:=top 17
theorem HJ:ζ ["many","number"] ["many","number"] (aG qJ):=.of
theorem IB(T:Txt K U)(f:b6 (Β P w)):Ok P w K U base "is_place" qJ ["many","number"] 1 (uT T):=λ_ _ D=>by
 refine D.F.ό HJ (by walk_at "v") λd A a s H b Q E e h=>?_;obtain⟨m,n,rfl,k⟩:=h;refine⟨_,(aM (bL (PX wC rJ aL (γ 1) (γ 0)))),?_⟩;walk_at "s";walk_at "";by_cases c:0<=n
 .simpa[c]using k
 .simpa[c]using k
def wV(T:Txt K U):Sp:=λc H Q _=>E3 λ(m:Int)(p:Addr)(r:Road)=>c=[.int m,.ref p]/\H p=some (.tup (qa r))/\0<=r.a/\r.a<m/\0<=r.b/\r.b<m/\r.a≠r.b/\Q .π H
abbrev qr:Stmt:=top 19
theorem Ff:ζ ["many","road"] ["many","road"] (aG qr):=.of
theorem EG(T:Txt K U)(e:b6 (Β P w))(g:Cb P w K U base "is_place" qJ ["many","number"] 1 (uT T)):Ok P w K U base "check_ends" qr ["many","road"] 2 (wV T):=λ_ _ D=>by
 refine D.F.ό Ff (by walk_at "v") λo A d s H q Q E f h=>?_;obtain⟨m,p,r,rfl,c,l,n,j,i,ne,k⟩:=h;refine⟨_,(ap (dG (PW.pt (wK (kK (mE (Ζ g f e (ag (γ 0) (ag (Ε ia (γ 1) aL) ay))))) (ye (kK (mE (Ζ g f e (ag (γ 0) (ag (Ε ia (γ 1) aL) ay)))))))) (aM rj) cN) (aM (dG (Ϫ iH (Ε ia (γ 1) aL) (Ε ia (γ 1) aL)) (aM rj) cN))),?_⟩;walk_at "s";walk_at "";refine Xa c rfl ⟨m,r.a,rfl,_,rfl,?_⟩;rw[ah (by simp[l,n])];refine Xa c rfl ⟨m,r.b,rfl,_,rfl,?_⟩;rw[ah (by simp[j,i])];refine Xa c rfl (Xa c rfl ⟨rfl,?_⟩);rw[ah (by simpa using ne)];exact k
def si(T:Txt K U):Sp:=λd H Q _=>E4 λ(t:Addr)(c:g8)(a:hT)(n:Int)=>d=[.ref t,.int n]/\Ι K H t (c.map V.ref)/\ρ H c a/\a.length<=1000/\∀l b,H l=none->δ H b->b l=some (.lst ((gi a n).map V.int))->Q (.ref l) b
abbrev oC:Stmt:=top 22
theorem Ez:ζ ["roads","place","ends","road"] ["roads","place"] (aG oC):=.of
theorem EB(T:Txt K U)(R:b6 (Β P w)):Ok P w K U base "other_ends" oC ["roads","place"] 1 (si T):=λ_ _ D=>by
 refine D.F.ό Ez (by walk_at "v") λS A G s H Z Q E W h=>?_;obtain⟨t,L,c,n,rfl,M,I,hl,k⟩:=h;refine⟨_,(ap (ψ 2 (eI ay)) (ap (fq PassesOwn.never rfl (vF (γ 0)) (ϓ 3) (ap (dG (Ϫ iH (Ε ia (γ 3) aL) (γ 1)) (aM (dI (j4 PySem.F.plainAttrs_list PySem.F.slot_list_append PySem.F.type_list_append f6 (γ 2) (ag (Ε ia (γ 3) aL) ay)))) cN) (aM (dG (Ϫ iH (Ε ia (γ 3) aL) (γ 1)) (aM (dI (j4 PySem.F.plainAttrs_list PySem.F.slot_list_append PySem.F.type_list_append f6 (γ 2) (ag (Ε ia (γ 3) aL) ay)))) cN)))) (aM (bL (γ 2))))),?_⟩;walk_at "s";walk_at "";refine⟨by decide,λl j=>?_⟩;have m:L.length=c.length:=Paired.length I;refine⟨⟨_,δ.tup (δ.new _ j) M⟩,CY (xs:=L.map V.ref) (λi u B=>B=upd H l (.lst ((gi (c.take i) n).map V.int))/\∃v,u=[some (.ref t),some (.int n),some (.ref l),v]) ⟨rfl,_,rfl⟩ (λi u B _ z=>by rw[z.1];exact δ.tup (δ.new _ j) M) ?_ ?_⟩
 .rintro i x u B hi ⟨rfl,v,rfl⟩;obtain⟨p,r,rfl,Y,N,J⟩:=I.get hi;have O:p≠l:=b9 J j;have X:i<c.length:=(ar.mp N).1;have y:c.take (i+1)=c.take i++[r]:=by rw[bQ,N];rfl
  have hb:(gi (c.take i) n).length<=2000:=aN (FZ _ _) (by rw[bg];lia);have f:∀o,upd H l o p=some (.tup (qa r)):=λo=>by rw[aP O];exact J
  walk_at "";refine Xa (f _) rfl ?_;walk_at "";have d:∀(C:eu),(gi (c.take i) n++C)=gi (c.take (i+1)) n->upd H l (.lst ((gi (c.take i) n).map V.int++C.map V.int))=upd H l (.lst ((gi (c.take (i+1)) n).map V.int)):=λC e=>by
   rw[<-aB,e]
  have q:uG n r=(if r.a=n then[r.b]else[])++(if r.b=n then[r.a]else[]):=rfl;by_cases g:r.a=n
  .rw[aj g];refine⟨Xj aw,Xa (f _) rfl (qN aw (eJ (by rw[aa];lia)) ?_)⟩;rw[sW];refine Xa (f _) rfl ?_;walk_at "";by_cases cb:r.b=n
   .rw[aj cb];refine⟨Xj aw,Xa (f _) rfl (qN aw (eJ (by rw[aO,aa];simp;lia)) ?_)⟩;rw[sW,bW];exact⟨d [r.b,r.a] (by rw[y,uv,q,aj g,aj cb];rfl),_,rfl⟩
   .rw[ah cb];exact⟨d [r.b] (by rw[y,uv,q,aj g,ah cb];rfl),_,rfl⟩
  .rw[ah g];refine Xa (f _) rfl ?_;walk_at "";by_cases cb:r.b=n
   .rw[aj cb];refine⟨Xj aw,Xa (f _) rfl (qN aw (eJ (by rw[aa];lia)) ?_)⟩;rw[sW];exact⟨d [r.a] (by rw[y,uv,q,ah g,aj cb];rfl),_,rfl⟩
   .rw[ah cb];have:=d [] (by rw[y,uv,q,ah g,ah cb];rfl);rw[dQ,bJ]at this;exact⟨this,_,rfl⟩
 .rintro u B ⟨rfl,v,rfl⟩;rw[aa,m,bo];exact⟨_,rfl,k l _ j (δ.new _ j) aw⟩
def oW(a:eu):List (Key×V):=a.map λk=>((Sum.inl k:Key),V.bl true)
theorem Eg(a:eu):(oW a).length=a.length:=by unfold oW;rw[aa]
theorem Ho(a:eu)(e:Int):gj (oW a) (Sum.inl e:Key)=if e∈a then some (V.bl true)else none:=by
 unfold oW
 induction a with
 | nil=>rfl
 | cons k a ih=>
   rw[az];by_cases c:k=e
   .rw[ju (by rw[c]),aj (by rw[c];exact aK)]
   .rw[jk (λz=>c (Sum.inl.inj z)),ih];by_cases d:e∈a
    .rw[aj d,aj (aF _ d)]
    .rw[ah d,ah (λz=>by rcases aq.mp z with z|z;exact c z.symm;exact d z)]
theorem Qr{a:eu}{e:Int}(h:e∉a):iK (oW a) (Sum.inl e:Key) (V.bl true)=oW (a++[e]):=by
 rw[Gm _ (by rw[Ho,ah h])];unfold oW;rw[aB]
 rfl
def uF(T:Txt K U):Sp:=λd H Q _=>E4 λ(m:Int)(t:Addr)(c:g8)(a:hT)=>d=[.int m,.ref t]/\Ι K H t (c.map V.ref)/\ρ H c a/\Good m a/\∀b,δ H b->Q .π b
abbrev oF:Stmt:=top 21
theorem Bb:ζ ["many","roads","reached","waiting","place","end"] ["many","roads"] (aG oF):=.of
theorem Bj(T:Txt K U)(hq:b6 (Β P w))(mj:Cb P w K U base "other_ends" oC ["roads","place"] 1 (si T)):Ok P w K U base "check_joined" oF ["many","roads"] 2 (uF T):=λ_ _ D=>by
 refine D.F.ό Bb (by walk_at "v") λτ A ae s H vs Q E hr h=>?_;obtain⟨m,t,ps,r,rfl,ht,hp,g,k⟩:=h;have hu:=oS hr;refine⟨_,(ap (ψ 2 (Jm (FF aL qz JB) rfl rfl (List.cons_ne_nil _ _) (by decide))) (ap (ψ 3 (eI (ag aL ay))) (ap (pQ PassesOwn.never (ui (γ 3) (λ_=>rfl)) (ap (ψ 4 (Bq PySem.F.plainAttrs_list PySem.F.slot_list_pop PySem.F.type_list_pop Cg (γ 3))) (aM (fq PassesOwn.never rfl (gQ (Ζ mj hr hq (ag (γ 1) (ag (γ 4) ay)))) (ϓ 5) (aM (dG (Ce (MR hu (γ 5) (γ 2))) (ap (yx hu (γ 2) (γ 5) qz rfl) (aM (dI (j4 PySem.F.plainAttrs_list PySem.F.slot_list_append PySem.F.type_list_append f6 (γ 3) (ag (γ 5) ay))))) cN)))))) (aM (dG (Ϫ pL (BV MN T.len (ag (γ 2) ay)) (γ 0)) (aM rj) cN))))),?_⟩;walk_at "s";have m1:=g.m1;have Θ:=g.Θ;have bk:=g.len;walk_at "";intro d hd;refine⟨aw,[(Sum.inl 0,.bl true)],rfl,by decide,?_⟩;rw[sW];refine⟨by decide,λu W=>?_⟩;have ed:j1 [] [((Sum.inl 0:Key),V.bl true)]=oW [0]:=rfl;rw[ed];have v:u≠d:=λz=>by rw[z,aw]at W;cases W
 have X:H u=none:=by rw[aP v]at W;exact W
 refine vy (λn I R=>E4 λ(C N:eu)(v4 G:Option V)=>n=2*(m.toNat-C.length)+N.length/\I=[some (.int m),some (.ref t),some (.ref d),some (.ref u),v4,G]/\δ H R/\R d=some (.dK (oW C))/\R u=some (.lst (N.map V.int))/\Yx m r C N) _ ⟨[0],[0],none,none,rfl,rfl,?_,?_,aw,Yx.start m1⟩ ?_
 .exact δ.trans (δ.new _ hd) (δ.new _ W)
 .rw[aP v.symm,aw]
 rintro n I R NW hN XD ⟨C,N,v4,G,rfl,rfl,sm,Y,S,J⟩;have kl:=fj (by lia) J.nd J.Λ;refine⟨_,rfl,!(N.map V.int).isEmpty,.inl ⟨_,μ.of S,rfl⟩,?_⟩;rcases gZ N with rfl|⟨j,p,rfl⟩
 .-- nothing aeQ: all places have bi reached
  have ai:=J.all m1 g.jn;refine UH ?_;walk_at "";refine⟨oW C,Y,?_⟩;rw[Eg,ah (by lia)];exact k _ sm
 .rw[gY]at J S hN XD ⊢;have e1:(!(List.map V.int (j++[p])).isEmpty)=true:=by simp
  rw[e1];refine Vs ⟨NW,XD,?_⟩;walk_at "";rw[aB,az,dQ]at S;refine⟨Xj S,KP S ?_⟩;have L:d≠u:=v.symm;have y:δ H (upd R u (.lst (j.map V.int))):=λb o e=>by rw[aP (b9 e X)];exact sm b o e
  refine⟨t,ps,r,p,rfl,δ.tup y ht,ρ.same y hp,by lia,λl H3 Z s3 hl=>?_⟩;have af:u≠l:=b9 (o:=.lst (j.map V.int)) aw Z;have ad:d≠l:=b9 (o:=.dK (oW C)) (by rw[aP L];exact Y) Z;have bs:H l=none:=y.free Z;refine⟨l,rfl,⟨_,μ.of hl⟩,uy (K:=K) (xs:=(gi r p).map V.int) (λi I B=>∃(G:Option V),I=[some (.int m),some (.ref t),some (.ref d),some (.ref u),some (.int p),G]/\δ H B/\B l=some (.lst ((gi r p).map V.int))/\∃a f:List Int,B d=some (.dK (oW a))/\B u=some (.lst (f.map V.int))/\X9 m r p ((gi r p).take i) a f C j.length) ?_ (λi I B _ z=>by obtain⟨_,_,_,z,_⟩:=z;exact μ.of z) ?_ ?_⟩
  .refine⟨_,rfl,y.trans s3,hl,C,j,?_,?_,?_⟩
   .exact s3 _ _ (by rw[aP L];exact Y)
   .exact s3 _ _ aw
   .rw[d7];exact X9.start J
  .rintro i x I B NI hI hi ⟨G,rfl,s4,hl4,a,f,hd4,hw4,M⟩;rw[aH]at hi;obtain⟨e,he,rfl⟩:∃e,(gi r p)[i]?=some e/\V.int e=x:=by
    cases q:(gi r p)[i]? with
    | none=>rw[q]at hi;cases hi
    | some e=>rw[q]at hi;exact⟨e,rfl,br hi⟩
   have er:=Qk g.ok (aJ he);have et:(gi r p).take (i+1)=(gi r p).take i++[e]:=(by rw[bQ,he];rfl);have st:=M.step er.1 er.2;have k4:=fj (by lia) M.nd M.Λ;have ac:=M.mu;walk_at "";refine⟨_,ϔ.k (k:=Sum.inl e) hd4,?_⟩;rw[Ho];by_cases c:e∈a
   .rw[aj c];rw[ah (by simp)];refine hI _ _ ⟨_,rfl,s4,hl4,a,f,hd4,hw4,?_⟩;rw[et];unfold Bt at st;rw[aj c]at st;exact st
   .rw[ah c];rw[aj (by simp)];refine⟨_,XB.k (k:=Sum.inl e) hd4 (eJ (by rw[Eg];lia)),?_⟩;rw[Qr c];have O:upd B d (.dK (oW (a++[e]))) u=some (.lst (f.map V.int)):=(by rw[aP v];exact hw4);refine⟨Xj O,qN O (eJ (by rw[aa];have:=M.wl;lia)) ?_⟩;have a8:=M.mu;refine hI _ _ ⟨_,rfl,λb o z=>?_,?_,a++[e],f++[e],?_,?_,?_⟩
    .rw[aP (b9 z X),aP (b9 z hd)];exact s4 b o z
    .rw[aP af.symm,aP ad.symm];exact hl4
    .rw[aP L,aw]
    .rw[aw,aB];rfl
    .rw[et];unfold Bt at st;rw[ah c]at st;exact st
  .rintro I B ⟨G,rfl,s4,hl4,a,f,hd4,hw4,M⟩;rw[aa,bo]at M;have k4:=fj (by lia) M.nd M.Λ;have ac:=M.mu;have a7:=M.up;refine hN _ _ _ ?_ ⟨a,f,some (.int p),G,rfl,rfl,s4,hd4,hw4,M.done⟩;rw[aO];simp only[aD,dY]
   lia
def vH(T:Txt K U):Sp:=λb H Q _=>∃(p:Addr)(r:Road),b=[.ref p]/\H p=some (.tup (qa r))/\2<=r.t/\r.t<=1000000/\2<=r.u/\r.u<=1000000/\∀a,δ H a->Q .π a
abbrev kY:Stmt:=top 20
theorem Dn:ζ ["road","number"] ["road"] (aG kY):=.of
theorem nL:Ϙ (aG kY) "LEAST_TOLL":=.of (by kernel_rfl)
theorem nY:Ϙ (aG kY) "MOST_TOLL":=.of (by kernel_rfl)
theorem Dj(T:Txt K U)(G:b6 (Β P w)):Ok P w K U base "check_tolls" kY ["road"] 1 (vH T):=λ_ _ D=>by
 refine D.F.ό Dn (by walk_at "v") λI A c s H L Q E J h=>?_;obtain⟨p,r,rfl,f,B,j,l,m,k⟩:=h;refine⟨_,(aM (fq PassesOwn.never rfl (vF (jd (ag (Ε ia (γ 0) aL) (ag (Ε ia (γ 0) aL) ay)))) (ϓ 1) (aM (dG (kK (zC wC wC (wm nL.g T.Yd (hd:=nL.d)) (γ 1) (wm nY.g T.YG (hd:=nY.d)))) (aM rj) cN)))),?_⟩;walk_at "s";walk_at "";refine Xa f rfl (Xa f rfl ⟨cg (by simp),λq C=>?_⟩);have e:upd H q (.tup [.int r.t,.int r.u]) q=some (.tup [.int r.t,.int r.u]):=aw;refine⟨⟨_,Ι.of e⟩,CY (K:=K) (xs:=[.int r.t,.int r.u]) (λi a b=>b=upd H q (.tup [.int r.t,.int r.u])/\∃v,a=[some (.ref p),v]) ⟨rfl,_,rfl⟩ (λi a b _ z=>by rw[z.1];exact Ι.of e) ?_ ?_⟩
 .rintro i x a b hi ⟨rfl,v,rfl⟩;have o:∃n:Int,x=.int n/\2<=n/\n<=1000000:=by
   match i,hi with
   | 0,hi=>exact⟨r.t,by simpa using hi.symm,B,j⟩
   | 1,hi=>exact⟨r.u,by simpa using hi.symm,l,m⟩
  obtain⟨n,rfl,y,M⟩:=o;walk_at "";rw[aj y,ah (by lia)];exact⟨_,rfl⟩
 .rintro a b ⟨rfl,v,rfl⟩;exact k _ (δ.new _ C)
def AX(m:Int)(t:Addr):List (Str×V):=bA "roads" (.ref t) (bA "many" (.int m) [])
theorem Wd:¬(("many":Str)="roads"):=by decide +kernel
theorem kt(m:Int)(t:Addr):(AX m t).lookup ("many":Str)=some (.int m):=by
 unfold AX;rw[cQ,ah Wd,cQ,aj rfl]
theorem zx(m:Int)(t:Addr):(AX m t).lookup ("roads":Str)=some (.ref t):=by
 unfold AX;rw[cQ,aj rfl]
structure ο(C:Addr)(H:Hp)(p:Addr)(m:Int)(t:Addr)(ps:g8)(rs:hT):Prop where
 ob:∃dx,H p=some (.ins C dx (AX m t))
 tu:H t=some (.tup (ps.map V.ref))
 ro:ρ H ps rs
 go:Good m rs
theorem ο.same{C:Addr}{H a:Hp}{p:Addr}{m:Int}{t:Addr}{c:g8}{b:hT}(e:δ H a)(h:ο C H p m t c b):ο C a p m t c b:=⟨let ⟨dx,q⟩:=h.ob;⟨dx,e _ _ q⟩,e _ _ h.tu,ρ.same e h.ro,h.go⟩
def qb(T:Txt K U):Sp:=λg H Q _=>E7 λ(p h:Addr)(m:Int)(c:Bool)(a:Addr)(d:g8)(e:hT)=>g=[.ref p,.int m,.ref a]/\H p=some (.ins T.Web h [])/\ϣ K c H a (d.map V.ref)/\ρ H d e/\Good m e/\∀t f,H t=none->ο T.Web f p m t d e->(∀b o,H b=some o->b≠p->f b=some o)->Q .π f
abbrev jw:Stmt:=Ju (top 13) 0
theorem Bw:ζ ["self","many","roads","kept","road"] ["self","many","roads"] (aG jw):=.of
theorem Cd(T:Txt K U)(B:b6 (Β P w)){f:Addr}{fd:FuncData}(F:Y2 K "__init__" "Web.__init__" jw f fd)(qV:Cb P w K U base "check_counts" mH ["many","roads"] 1 (uE T))(ud:Cb P w K U base "check_ends" qr ["many","road"] 2 (wV T))(rd:Cb P w K U base "check_joined" oF ["many","roads"] 2 (uF T))(ss:Cb P w K U base "check_tolls" kY ["road"] 1 (vH T)):Ψ P w K U base (Β P w) 3 f fd ["self","many","roads"] (qb T):=by
 refine F.ό Bw (by walk_at "v") λτ A X s H vs Q E J h=>?_;obtain⟨p,Y,m,c,a,d,rs,rfl,W,ha,n,g,k⟩:=h;refine⟨_,(ap (ψ 3 (pct kZ T.tuple (ag (jv rfl (vW (Nc:=["road"]) 1 (by decide +kernel) (by decide +kernel) rfl (by decide +kernel) rfl) (M7 c (γ 2)) (λ_ _ _ _=>(fe (i:=0) (show(["road"]:hL).Nodup from by decide +kernel) rfl (Or.inl rfl))) (λ_ _ _ _=>lu) (λ_ _ _ _=>(DR (Dk K rfl) (by rfl) T.tuple Gb (ag (pv 0) ay)))) ay))) (ap (dI (Ζ qV J B (ag (γ 1) (ag (γ 3) ay)))) (ap (fq PassesOwn.never rfl (vF (γ 3)) (ϓ 4) (ap (dI (Ζ ud J B (ag (γ 1) (ag (γ 4) ay)))) (aM (dI (Ζ ss J B (ag (γ 4) ay)))))) (ap (dI (Ζ rd J B (ag (γ 1) (ag (γ 3) ay)))) (ap (r9 (γ 0) (γ 1) rfl) (aM (r9 (γ 0) (γ 3) rfl))))))),?_⟩;walk_at "s";walk_at "";refine⟨⟨_,ha⟩,λl M=>?_⟩;have au:d.length=rs.length:=Paired.length n;have aC:=g.len;have Θ:=g.Θ;have a6:δ H (upd H l (.lst [])):=δ.new _ M;refine lW (K:=K) (xs:=d.map V.ref) (λi I u R=>R=upd H l (.lst ((d.take i).map V.ref))/\I=(d.take i).map V.ref/\∃v,u=[v]) ⟨rfl,rfl,_,rfl⟩ (λi I u R _ ⟨z,_⟩=>by rw[z];exact δ.XR (δ.new _ M) ha) ?_ ?_
 .rintro i x I u R N hN hi ⟨rfl,rfl,v,rfl⟩;obtain⟨q,r,rfl,Z,h2,G⟩:=n.get hi;have nq:q≠l:=b9 G M;have Zf:i<d.length:=(ar.mp Z).1;have et:d.take (i+1)=d.take i++[q]:=by rw[bQ,Z];rfl
  walk_at "";refine⟨qa r,.inr ⟨Ι.of (by rw[aP nq];exact G),aw,eJ (by rw[aa,bg];lia),hN _ _ _ ⟨?_,?_,_,rfl⟩⟩⟩
  .rw[sW,et,aB];rfl
  .rw[et,aB];rfl
 .rintro I u R ⟨rfl,rfl,v,rfl⟩;rw[aa,bo];refine⟨l,rfl,d.map V.ref,.inl ⟨μ.of aw,λt ht=>?_⟩⟩;have S:δ H (upd H l (.lst (d.map V.ref))):=δ.new _ M;have s2:δ (upd H l (.lst (d.map V.ref))) (upd (upd H l (.lst (d.map V.ref))) t (.tup (d.map V.ref))):=δ.new _ ht;have y:H t=none:=S.free ht;have D:∀{H':Hp},δ (upd (upd H l (.lst (d.map V.ref))) t (.tup (d.map V.ref))) H'->H' t=some (.tup (d.map V.ref)):=λe=>e _ _ aw;refine⟨m,t,d.map V.ref,rfl,Ι.of aw,g.m1,g.Θ,by rw[aa];lia,⟨_,Ι.of aw⟩,?_⟩;refine FK (K:=K) (xs:=d.map V.ref) (λi u O=>δ (upd (upd H l (.lst (d.map V.ref))) t (.tup (d.map V.ref))) O/\∃v,u=[some (.ref p),some (.int m),some (.ref a),some (.ref t),v]) ⟨δ.refl _,_,rfl⟩ (λi u O _ ⟨z,_⟩=>Ι.of (D z)) ?_ ?_
  .rintro i x u O N hN hi ⟨s3,v,rfl⟩;have j:=S.trans (s2.trans s3);obtain⟨q,r,rfl,Z,h2,G⟩:=n.get hi;have ok:=g.ok r (aJ h2);walk_at "";refine⟨m,q,r,rfl,j _ _ G,ok.a0,ok.a1,ok.b0,ok.b1,ok.ne,?_⟩;exact⟨q,r,rfl,j _ _ G,ok.t0,ok.t1,ok.u0,ok.u1,λH4 L=>hN _ _ ⟨s3.trans L,_,rfl⟩⟩
  .rintro u O ⟨s3,v,rfl⟩;have j:=S.trans (s2.trans s3);walk_at "";refine⟨m,t,d,rs,rfl,Ι.of (D s3),ρ.same j n,g,λH4 L=>?_⟩;have C:=j.trans L;have ab:t≠p:=λz=>by rw[z,W]at y;cases y
   refine⟨T.Web,Y,[],C _ _ W,T.lM,T.ϑ,by decide,?_⟩;refine⟨T.Web,Y,_,aw,T.lM,T.Ye,by show 1<1000;decide,?_⟩;rw[sW];refine k t _ y ⟨⟨Y,aw⟩,?_,?_,g⟩ λb o hb nb=>?_
   .rw[aP ab];exact D (s3.trans L)
   .refine Paired.imp' (λq r B=>?_) n;rw[aP (iR B W (by intro z;cases z))];exact C _ _ B
   .rw[aP nb];exact C _ _ hb
theorem UZ(T:Txt K U){H:Hp}{m:Int}{c:Bool}{a:Addr}{h:g8}{i:hT}{Q:Addr->Hp->Prop}(s:ϣ K c H a (h.map V.ref))(r:ρ H h i)(g:Good m i)(k:∀x t f,H x=none->H t=none->δ H f->ο T.Web f x m t h i->Q x f):∀x d,H x=none->H d=none->d≠x->qb T [.ref x,.int m,.ref a] (upd (upd H d (.own x)) x (.ins T.Web d [])) (λv u=>v=.π/\Q x u) E0:=by
 intro x d n l ne;have p:upd H d (.own x) x=none:=by rw[aP ne.symm];exact n
 have j:δ H (upd (upd H d (.own x)) x (.ins T.Web d [])):=(δ.new _ l).trans (δ.new _ p);exact⟨x,d,m,c,a,h,i,rfl,aw,δ.XR j s,ρ.same j r,g,λt f y W q=>⟨rfl,k x t f n (j.free y) (λb o e=>q b o (j b o e) (b9 e n)) W⟩⟩
def RE(H:Hp)(d:Addr)(e:hT)(n:Nat):Prop:=∃c,H d=some (.dT c)/\(c.length<=2*n/\∀p∈c,∃a b:Int,p.1=[.inl a,.inl b])/\∀a b:Int,(∀i x,i<n->e[i]?=some x->sH x a b->gj c [.inl a,.inl b]=(jE a b x).map V.int)/\((∀i x,i<n->e[i]?=some x->¬sH x a b)->gj c [.inl a,.inl b]=none)
structure Μ(H:Hp)(d:Addr)(rs:hT):Prop where
 ex:∃η,H d=some (.dT η)/\∀a b:Int,gj η [.inl a,.inl b]=(c9 rs a b).map V.int
 ks:∃η,H d=some (.dT η)/\η.length<=2*rs.length/\∀p∈η,∃a b:Int,p.1=[.inl a,.inl b]
theorem Μ.same{H b:Hp}{d:Addr}{c:hT}(e:δ H b)(h:Μ H d c):Μ b d c:=by
 obtain⟨f,k,j⟩:=h.ex;obtain⟨a,g,i⟩:=h.ks;exact⟨⟨f,e _ _ k,j⟩,⟨a,e _ _ g,i⟩⟩
def yg(T:Txt K U):Sp:=λe H Q _=>E4 λ(l:Addr)(c:g8)(m:Int)(a:hT)=>e=[.ref l]/\H l=some (.lst (c.map V.ref))/\ρ H c a/\Good m a/\∀d b,H d=none->δ H b->Μ b d a->Q (.ref d) b
abbrev rH:Stmt:=top 77
theorem GH:ζ ["roads","tolls","one","other","there","back"] ["roads"] (aG rH):=.of
theorem F5(T:Txt K U)(hq:b6 (Β P w)):Ok P w K U base "_law_tolls" rH ["roads"] 1 (yg T):=λ_ _ D=>by
 refine D.F.ό GH (by walk_at "v") λτ A S s H vs Q E hr h=>?_;obtain⟨l,ps,m,J,rfl,hl,ro,g,k⟩:=h;have hu:=oS hr;refine⟨_,(ap (ψ 1 Qu) (ap (fq PassesOwn.never rfl (gQ (γ 0)) (j0 (n:=4) rfl (cG (ϓ 2) (cG (ϓ 3) (cG (ϓ 4) (cG (ϓ 5) iA))))) (ap (yx hu (γ 1) (jd (ag (γ 2) (ag (γ 3) ay))) (γ 4) rfl) (aM (yx hu (γ 1) (jd (ag (γ 3) (ag (γ 2) ay))) (γ 5) rfl)))) (aM (bL (γ 1))))),?_⟩;walk_at "s";walk_at "";intro d Y;have s0:=δ.new (.dT []) Y;have v:ps.length=J.length:=Paired.length ro;have a1:=g.len;have Θ:=g.Θ;refine⟨⟨_,μ.of (s0 _ _ hl)⟩,?_⟩;refine uy (K:=K) (xs:=ps.map V.ref) (λi I y=>δ H y/\RE y d J i/\∃Z G X R,I=[some (V.ref l),some (V.ref d),Z,G,X,R]) ⟨s0,⟨[],aw,⟨by simp,λp M=>nomatch M⟩,λa b=>⟨λi x c=>absurd c (jD _),λ_=>rfl⟩⟩,_,_,_,_,rfl⟩ (λi I y _ z=>μ.of (z.1 _ _ hl)) ?_ ?_
 .rintro i x I y N hN B ⟨s2,⟨η,hk,⟨hkl,hks⟩,X1⟩,Z,G,X,R,rfl⟩;obtain⟨q,r,rfl,h1,C,h3⟩:=ro.get B;have Zf:i<J.length:=(ar.mp C).1;have ok:=g.ok r (aJ C);walk_at "";refine⟨_,Ι.of (s2 _ _ h3),rfl,_,_,rfl,_,_,rfl,_,_,rfl,_,_,rfl,rfl,?_⟩;refine⟨cg (by simp),λp1 n1=>⟨_,XB.t (k:=[.inl r.a,.inl r.b]) (δ.new (.tup [V.int r.a,V.int r.b]) n1 _ _ hk) aw (eJ (by lia)),cg (by simp),λp2 n2=>?_⟩⟩;have l1:=pi η [Sum.inl r.a,Sum.inl r.b] (V.int r.t);have L:d≠p2:=λz=>by rw[<-z,aw]at n2;cases n2
  refine⟨_,XB.t (k:=[.inl r.b,.inl r.a]) (by rw[aP L];exact aw) aw (eJ (by lia)),hN _ _ ⟨?_,⟨_,aw,?_,?_⟩,_,_,_,_,rfl⟩⟩
  .intro b o hb;have nd:b≠d:=b9 hb Y;have b2:=s2 _ _ hb;have O:b≠p1:=b9 b2 n1;have b3:upd (upd y p1 (.tup [V.int r.a,V.int r.b])) d (.dT (iK η [Sum.inl r.a,Sum.inl r.b] (V.int r.t))) b=some o:=(by rw[aP nd,aP O];exact b2);rw[aP nd,aP (b9 b3 n2)];exact b3
  .have l2:=pi (iK η [Sum.inl r.a,Sum.inl r.b] (V.int r.t)) [Sum.inl r.b,Sum.inl r.a] (V.int r.u);refine⟨by lia,λp M=>?_⟩;rcases GA M with e|⟨q,hq,e⟩
   .exact⟨_,_,e⟩
   rcases GA hq with W|⟨q',W8,W⟩
   .exact⟨_,_,e.trans W⟩
   .obtain⟨a',b',e2⟩:=hks q' W8;exact⟨a',b',e.trans (W.trans e2)⟩
  .intro a' b';have G:gj (iK (iK η [Sum.inl r.a,Sum.inl r.b] (V.int r.t)) [Sum.inl r.b,Sum.inl r.a] (V.int r.u)) [Sum.inl a',Sum.inl b']=if a'=r.b/\b'=r.a then some (V.int r.u)else if a'=r.a/\b'=r.b then some (V.int r.t)else gj η [Sum.inl a',Sum.inl b']:=by
    rw[zT,zT];simp
   rw[G];have f:¬sH r a' b'->(if a'=r.b/\b'=r.a then some (V.int r.u)else if a'=r.a/\b'=r.b then some (V.int r.t)else gj η [Sum.inl a',Sum.inl b'])=gj η [Sum.inl a',Sum.inl b']:=λz=>by
    rw[ah (λw=>z (.inr ⟨w.1.symm,w.2.symm⟩)),ah (λw=>z (.inl ⟨w.1.symm,w.2.symm⟩))]
   constructor
   .intro j x hj hy jx;by_cases e:j=i
    .subst e;rw[C]at hy;cases hy;rcases jx with⟨w1,w2⟩|⟨w1,w2⟩
     .subst w1 w2;rw[ah (λz=>ok.ne z.1),aj ⟨rfl,rfl⟩,Pp ok.ne]
      rfl
     .subst w1 w2;rw[aj ⟨rfl,rfl⟩,PJ ok.ne]
      rfl
    .rw[f λw=>e (D3 g hy C jx w)];exact(X1 a' b').1 j x (by lia) hy jx
   .intro z;rw[f (z i r (by lia) C)];exact(X1 a' b').2 λj x hj B=>z j x (by lia) B
 .rintro I y ⟨s2,⟨η,hk,⟨hkl,hks⟩,X1⟩,Z,G,X,R,rfl⟩;rw[aa,v]at X1;walk_at "";refine k d y Y s2 ⟨⟨η,hk,λa b=>?_⟩,⟨η,hk,by rw[aa,v]at hkl;exact hkl,hks⟩⟩;by_cases z:∃(i:Nat)(x:Road),J[i]?=some x/\sH x a b
  .obtain⟨i,x,c,j⟩:=z;rw[(X1 a b).1 i x (ar.mp c).1 c j,xR g c j]
  .rw[(X1 a b).2 λi x _ c j=>z ⟨i,x,c,j⟩,L9]
   .rfl
   .rintro⟨x,B,j⟩;obtain⟨i,c⟩:=cR B;exact z ⟨i,x,c,j⟩
def mD(T:Txt K U):Sp:=λa H Q E=>E6 λ(p t:Addr)(m:Int)(c:g8)(b:hT)(n:Int)=>a=[.ref p,.int n]/\ο T.Web H p m t c b/\(0<=n->n<m->Q .π H)/\(¬(0<=n/\n<m)->E (.ref T.NoPlace) none H)
abbrev iW:Stmt:=top 16
theorem Dc:ζ ["web","number"] ["web","number"] (aG iW):=.of
theorem pB:Ϙ (aG iW) "NoPlace":=.of (by kernel_rfl)
theorem Dt(T:Txt K U)(l:b6 (Β P w))(i:Cb P w K U base "is_place" qJ ["many","number"] 1 (uT T)):Ok P w K U base "check_place" iW ["web","number"] 2 (mD T):=λ_ _ D=>by
 refine D.F.XU Dc (by walk_at "v") λq A a s H r Q E f h=>?_;obtain⟨p,t,m,j,o,n,rfl,W,k,e⟩:=h;obtain⟨b,ob⟩:=W.ob;refine⟨_,(aM (dG (kK (mE (ϛ i f dW (ag (dz (γ 0) rfl) (ag (γ 1) ay))))) (aM (pP T.xX rfl qY pB.g T.Mi (ag nO ay) (hdb:=pB.d))) cN)),?_⟩;walk_at "s";walk_at "";refine⟨T.Web,b,_,ob,T.lM,T.ϑ,_,kt m t,m,n,rfl,_,rfl,?_⟩;by_cases c:0<=n/\n<m
 .rw[ah (by simp[c.1,c.2])];exact k c.1 c.2
 .rw[aj (by simpa[b5]using c)];exact⟨by decide,e c⟩
def wL(T:Txt K U):Sp:=λd H Q E=>E6 λ(p t:Addr)(m:Int)(e:g8)(c:hT)(a:Int)=>d=[.ref p,.int a]/\ο T.Web H p m t e c/\(∀l b,0<=a->a<m->H l=none->δ H b->b l=some (.lst ((mG m c a).map V.int))->Q (.ref l) b)/\(¬(0<=a/\a<m)->E (.ref T.NoPlace) none H)
abbrev qd:Stmt:=top 15
theorem Et:ζ ["web","a"] ["web","a"] (aG qd):=.of
abbrev iy(P w base)(T:Txt K U):=Cb P w K U base "check_place" iW ["web","number"] 2 (mD T)
theorem EU(T:Txt K U)(C:b6 (Β P w))(y:iy P w base T)(r:Cb P w K U base "other_ends" oC ["roads","place"] 1 (si T)):Ok P w K U base "neighbours" qd ["web","a"] 3 (wL T):=λ_ _ D=>by
 refine D.F.XU Et (by walk_at "v") λG A c s H I Q E g h=>?_;obtain⟨p,t,m,f,b,a,rfl,W,k,e⟩:=h;obtain⟨u,ob⟩:=W.ob;refine⟨_,(ap (dI (ϛ y g dW (ag (γ 0) (ag (γ 1) ay)))) (aM (bL (BV zf T.sorted (ag (ϛ r g dW (ag (dz (γ 0) rfl) (ag (γ 1) ay))) ay))))),?_⟩;walk_at "s";walk_at "";refine⟨p,t,m,f,b,a,rfl,W,λi l=>?_,e⟩;have n:(b.length:Int)=m-1:=W.go.len;have Θ:=W.go.Θ;refine⟨T.Web,u,_,ob,T.lM,T.Ye,_,zx m t,t,f,b,a,rfl,Ι.of W.tu,W.ro,by lia,λq B L d o=>?_⟩;refine⟨q,rfl,gi b a,μ.of o,by have:=FZ b a;lia,λz J j x v=>?_⟩;rw[RO W.go i l x v];exact k z _ i l (d.free j) (d.trans (δ.new _ j)) aw
def yE(T:Txt K U):Sp:=λe H Q _=>E7 λ(p t:Addr)(m:Int)(f:g8)(d:hT)(a:Int)(b:V)=>e=[.ref p,.int a,b]/\ο T.Web H p m t f d/\0<=a/\a<m/\(b=.π\/∃i,b=.int i)/\∀l c,H l=none->δ H c->c l=some (.lst ((bT m d b a).map V.int))->Q (.ref l) c
abbrev vG:Stmt:=top 30
theorem Sm:ζ ["web","place","front"] ["web","place","front"] (aG vG):=.of
theorem RG(T:Txt K U)(J:b6 (Β P w))(L:Cb P w K U base "neighbours" qd ["web","a"] 3 (wL T)):Ok P w K U base "kids" vG ["web","place","front"] 4 (yE T):=λ_ _ D=>by
 refine D.F.ό Sm (by walk_at "v") λτ A n s H vs Q E O h=>?_;obtain⟨p,t,m,I,d,a,e,rfl,W,X,Y,R,k⟩:=h;have Θ:=W.go.Θ;refine⟨_,(aM (bL (jv rfl (Zn ["near","front"] 1 [2]) (gQ (Ζ L O J (ag (γ 0) (ag (γ 1) ay)))) (λ_ _ _ _=>(fe (i:=0) (show(["near","front"]:hL).Nodup from by decide +kernel) rfl (Or.inl rfl))) (λ_ _ _ _=>(sV (Ϫ pL (pv 0) (pv 1)))) (λ_ _ _ _=>(pv 0))))),?_⟩;walk_at "s";walk_at "";have nl:(mG m d a).length<=24:=by
  have:=b8 (λq=>decide (q∈gi d a)) (cY m.toNat);rw[cX]at this;unfold mG
  lia
 refine⟨p,t,m,I,d,a,rfl,W,λB G _ _ n1 x y=>⟨B,rfl,⟨_,μ.of y⟩,λu o=>?_⟩,λz=>absurd ⟨X,Y⟩ z⟩;have r:H u=none:=x.free o;refine lW (c:=true) (K:=K) (a:=B) (xs:=(mG m d a).map V.int) (λj g l f=>δ G f/\f u=some (.lst g)/\g=(((mG m d a).take j).filter λv=>decide (V.int v≠e)).map V.int/\∃v,l=[v,some e]) ⟨δ.new _ o,aw,rfl,_,rfl⟩ (λj g l f _ z=>μ.of (z.1 _ _ y)) ?_ ?_
 .rintro j xj g l f N hN hj ⟨s2,h2,rfl,v,rfl⟩;rw[aH]at hj;obtain⟨b,Z,rfl⟩:=eB.mp hj;have C:(mG m d a).take (j+1)=(mG m d a).take j++[b]:=by rw[bQ,Z];rfl
  have ll:(((mG m d a).take j).filter λv=>decide (V.int v≠e)).length<=24:=by
   have S:=b8 (λv=>decide (V.int v≠e)) ((mG m d a).take j);rw[bg]at S
   lia
  walk_at "";have M:nW (V.int b) e=true:=by
   rcases R with rfl|⟨i,rfl⟩<;>rfl
  refine⟨M,?_⟩;by_cases c:V.int b=e
  .rw[ah (λz=>z c)];refine hN _ _ _ ⟨s2,h2,?_,_,rfl⟩;rw[C,cH];simp[c]
  .rw[aj c];refine⟨h2,eJ (by rw[aa];lia),hN _ _ _ ⟨s2.put o _,aw,?_,_,rfl⟩⟩;rw[C,cH];simp[c]
 .rintro g l f ⟨s2,h2,rfl,v,rfl⟩;rw[aa,bo]at h2;exact k u f r (x.trans s2) h2
def wF(T:Txt K U):Sp:=λe H Q E=>E6 λ(p t:Addr)(m:Int)(f:g8)(d:hT)(r:Int)=>e=[.ref p,.int r]/\ο T.Web H p m t f d/\(0<=r->r<m->∃a b,ε m d r a b/\∀l c,H l=none->δ H c->c l=some (.lst (qI m r a))->Q (.ref l) c)/\(¬(0<=r/\r<m)->E (.ref T.NoPlace) none H)
abbrev tm:Stmt:=top 28
theorem PY:ζ ["web","r","nearer","waiting","place","front","kid"] ["web","r"] (aG tm):=.of
abbrev i5(P w base)(T:Txt K U):=Cb P w K U base "kids" vG ["web","place","front"] 4 (yE T)
theorem Qm(T:Txt K U)(hq:b6 (Β P w))(ff:iy P w base T)(ng:i5 P w base T):Ok P w K U base "ahead" tm ["web","r"] 5 (wF T):=λ_ _ D=>by
 refine D.F.XU PY (by walk_at "v") λτ A a2 s H vs Q E hr h=>?_;obtain⟨p,t,m,ps,rs,r,rfl,W,k,e⟩:=h;obtain⟨dx,ob⟩:=W.ob;have g:=W.go;have Θ:=g.Θ;refine⟨_,(ap (dI (ϛ ff hr dW (ag (γ 0) (ag (γ 1) ay)))) (ap (ψ 2 (aZ qA (eI (ag B9 ay)) (dz (γ 0) rfl))) (ap (ψ 3 (eI (ag (γ 1) ay))) (ap (pQ PassesOwn.leaving (ui (γ 3) (λ_=>rfl)) (ap (ψ 4 (Bq PySem.F.plainAttrs_list PySem.F.slot_list_pop PySem.F.type_list_pop Cg (γ 3))) (ap (ψ 5 (Ε bF (γ 2) (γ 4))) (aM (fq PassesOwn.leaving rfl (gQ (ϛ ng hr dW (ag (γ 0) (ag (γ 4) (ag (γ 5) ay))))) (ϓ 6) (ap (mw (γ 4) (ow (γ 2) (γ 6) jT)) (aM (dI (j4 PySem.F.plainAttrs_list PySem.F.slot_list_append PySem.F.type_list_append f6 (γ 3) (ag (γ 6) ay)))))))))) (aM (bL (γ 2))))))),?_⟩;walk_at "s";walk_at "";refine⟨p,t,m,ps,rs,r,rfl,W,λr0 r1=>?_,e⟩;obtain⟨par,b1,R,k⟩:=k r0 r1;refine⟨by decide,λl1 n1=>?_⟩;have s1:=δ.new (.lst [V.π]) n1;refine⟨T.Web,dx,_,s1 _ _ ob,T.lM,T.ϑ,_,rfl,?_⟩;refine⟨l1,m,[V.π],rfl,rfl,aw,by lia,by lia,cg (by simp;lia),λb n2=>?_⟩;have ab:H b=none:=s1.free n2;rw[Ha,<-VI (par:=par)];have s2:=s1.trans (δ.new (.lst (nl m par [])) n2);refine⟨cg (by simp),λa n3=>?_⟩;have Y:H a=none:=s2.free n3;have j:a≠b:=λz=>by rw[z,aw]at n3;cases n3
 have s3:=s2.trans (δ.new (.lst [V.int r]) n3);have M:upd (upd (upd H l1 (.lst [V.π])) b (.lst (nl m par []))) a (.lst [V.int r]) b=some (.lst (nl m par [])):=by rw[aP j.symm,aw]
 have S:upd (upd (upd H l1 (.lst [V.π])) b (.lst (nl m par []))) a (.lst [V.int r]) a=some (.lst [V.int r]):=aw;generalize upd (upd (upd H l1 (.lst [V.π])) b (.lst (nl m par []))) a (.lst [V.int r])=H3 at s3 M S ⊢;refine C9 (λn u f=>E5 λ(y N:eu)(v4 v5 I:Option V)=>n=2*(m.toNat-y.length)+N.length/\u=[some (.ref p),some (.int r),some (.ref b),some (.ref a),v4,v5,I]/\δ H f/\f b=some (.lst (nl m par y))/\f a=some (.lst (N.map V.int))/\Φ m rs r par y N) (2*m.toNat+1) ⟨[],[r],_,_,_,rfl,rfl,s3,M,S,Φ.start⟩ ?_;rintro n u f NW BB X hN XD ⟨y,N,v4,v5,I,rfl,rfl,s4,h2,L,J⟩;refine X _ _ _ ?_;have kl:=fj (by lia) J.nd J.Λ;walk_at "";refine⟨_,.inl ⟨_,μ.of L,rfl⟩,?_⟩;rcases gZ N with rfl|⟨ws',q,rfl⟩
 .rw[ah (by simp)];rw[J.done R]at h2;exact k b f ab s4 h2
 .rw[gY]at J L hN XD ⊢;rw[aj (by simp)];have hq:q∈ws'++[q]:=aR _ (aE.mpr rfl);have B:=J.at_ r0 r1 hq;have G:=J.step g R r0 r1 (p:=q) (ws':=ws') (ic q ws');refine⟨NW,λci H' z=>?_,?_⟩
  .obtain⟨m',lt,YT,YH,a4,a5,a6,e1,M,S⟩:=XD _ _ z
   first|exact⟨m',lt,YT,YH,a4,a5,a6,e1,M,S⟩|exact⟨m',lt,YT,YH,e1,a4,a5,a6,M,S⟩
  rw[aB,az,dQ]at L;refine⟨Xj L,KP L ?_⟩;have s5:δ H (upd f a (.lst (ws'.map V.int))):=s4.put Y _;have l:upd f a (.lst (ws'.map V.int)) b=some (.lst (nl m par y)):=by rw[aP j.symm];exact h2
  have C:upd f a (.lst (ws'.map V.int)) a=some (.lst (ws'.map V.int)):=aw;generalize upd f a (.lst (ws'.map V.int))=H5 at s5 l C ⊢;refine Η l (cB B.1 (MA B.1 B.2)) ?_;rw[J.front hq];have a3:Pb.front r par q=.π\/∃i,Pb.front r par q=.int i:=by
   unfold Pb.front;by_cases c:q=r
   .rw[aj c];exact .inl rfl
   .rw[ah c];exact .inr ⟨_,rfl⟩
  have mk:∀v,v∈bT m rs (Pb.front r par q) q->(0<=v/\v<m)/\v≠r/\par v=q:=λv=>(bB g R B.1 B.2).mp;refine⟨p,t,m,ps,rs,q,_,rfl,W.same s5,B.1,B.2,a3,λl6 H6 Z s6 e6=>⟨l6,rfl,⟨_,μ.of e6⟩,?_⟩⟩;generalize bT m rs (Pb.front r par q) q=d at mk e6 G ⊢;have ca:H l6=none:=s5.free Z;have aC:l6≠b:=λz=>by rw[z,l]at Z;cases Z
  have a1:l6≠a:=λz=>by rw[z,C]at Z;cases Z
  have a7:=fj (by lia) G.nd G.Λ;rw[aO]at a7;have an:=fj (by lia) G.wnd λw hw=>G.at_ r0 r1 hw;rw[aO]at an;refine mL (K:=K) (xs:=d.map V.int) (λi u o=>∃I,u=[some (.ref p),some (.int r),some (.ref b),some (.ref a),some (.int q),some (Pb.front r par q),I]/\δ H o/\o l6=some (.lst (d.map V.int))/\o b=some (.lst (nl m par (y++d.take i)))/\o a=some (.lst ((ws'++d.take i).map V.int))) ⟨_,rfl,s5.trans s6,e6,by rw[d7,bJ];exact s6 _ _ l,by rw[d7,bJ];exact s6 _ _ C⟩ (λi u o _ z=>by obtain⟨_,_,_,z,_⟩:=z;exact μ.of z) ?_ ?_
  .rintro i x u o NI BB X hI hi ⟨I,rfl,s7,e7,h27,h37⟩;refine X _ _ ?_;rw[aH]at hi;obtain⟨v,hv,rfl⟩:=eB.mp hi;obtain⟨vr,_,vp⟩:=mk v (aJ hv);have et:d.take (i+1)=d.take i++[v]:=(by rw[bQ,hv];rfl);walk_at "";refine⟨b,_,v,v.toNat,rfl,rfl,h27,by unfold ZC;rw[aj vr.1,aj (by rw[uA];lia)],?_⟩;rw[<-vp,Ug vr.1 vr.2,vp,bW,<-et];have O:upd o b (.lst (nl m par (y++d.take (i+1)))) a=some (.lst ((ws'++d.take i).map V.int)):=(by rw[aP j];exact h37);have XG:(ws'++d.take i).length<=100:=by
    rw[aO,bg]
    lia
   refine⟨Xj O,qN O (eJ (by rw[aa];lia)) (hI _ _ ⟨_,rfl,(s7.put ab _).put Y _,?_,?_,?_⟩)⟩
   .rw[aP a1,aP aC];exact e7
   .rw[aP j.symm,aw]
   .rw[aw,et,<-bW,aB (l₁:=ws'++d.take i)];rfl
  .rintro BB u o X ⟨I,rfl,s7,e7,h27,h37⟩;refine X _ _ ?_;rw[aa,bo]at h27 h37;refine hN _ _ _ ?_ ⟨_,_,_,_,_,rfl,rfl,s7,h27,h37,G⟩;rw[aO,aO,aO];simp only[aD,dY]
   lia
def DG(T:Txt K U):Sp:=λe H Q E=>E6 λ(p t:Addr)(m:Int)(f:g8)(c:hT)(r:Int)=>e=[.ref p,.int r]/\ο T.Web H p m t f c/\(0<=r->r<m->∃b a,ε m c r b a/\∀l d,H l=none->δ H d->d l=some (.lst ((bO m c r b a r).map V.int))->(bO m c r b a r).Nodup->(∀v,v∈bO m c r b a r↔0<=v/\v<m)->Q (.ref l) d)/\(¬(0<=r/\r<m)->E (.ref T.NoPlace) none H)
abbrev vN:Stmt:=top 29
theorem So:ζ ["web","r","nearer","places","waiting","place","kid"] ["web","r"] (aG vN):=.of
theorem zD:Ϙ (aG vN) "reversed":=.of (by kernel_rfl)
abbrev i6(P w base)(T:Txt K U):=Cb P w K U base "ahead" tm ["web","r"] 5 (wF T)
theorem RS(T:Txt K U)(hq:b6 (Β P w))(oU:i6 P w base T)(ng:i5 P w base T):Ok P w K U base "down" vN ["web","r"] 6 (DG T):=λ_ _ D=>by
 refine D.F.XU So (by walk_at "v") λτ A bl s H vs Q E hr h=>?_;obtain⟨p,t,m,ps,rs,r,rfl,W,k,e⟩:=h;have g:=W.go;have Θ:=g.Θ;refine⟨_,(ap (ψ 2 (ϛ oU hr dW (ag (γ 0) (ag (γ 1) ay)))) (ap (ψ 3 (eI ay)) (ap (ψ 4 (eI (ag (γ 1) ay))) (ap (pQ PassesOwn.leaving (ui (γ 4) (λ_=>rfl)) (ap (ψ 5 (Bq PySem.F.plainAttrs_list PySem.F.slot_list_pop PySem.F.type_list_pop Cg (γ 4))) (ap (dI (j4 PySem.F.plainAttrs_list PySem.F.slot_list_append PySem.F.type_list_append f6 (γ 3) (ag (γ 5) ay))) (aM (fq PassesOwn.leaving rfl (rN zD.g T.reversed (ϛ ng hr dW (ag (γ 0) (ag (γ 5) (ag (Ε bF (γ 2) (γ 5)) ay))))) (ϓ 6) (aM (dI (j4 PySem.F.plainAttrs_list PySem.F.slot_list_append PySem.F.type_list_append f6 (γ 4) (ag (γ 6) ay))))))))) (aM (bL (γ 3))))))),?_⟩;walk_at "s";walk_at "";refine⟨p,t,m,ps,rs,r,rfl,W,λr0 r1=>?_,e⟩;obtain⟨a,G,R,k⟩:=k r0 r1;refine⟨a,G,R,λu H1 n1 s1 e1=>⟨by decide,λb n3=>⟨cg (by simp),λd O=>?_⟩⟩⟩;have aS:H b=none:=s1.free n3;have s3:=s1.trans (δ.new (.lst []) n3);have a2:H d=none:=s3.free O;have a9:u≠b:=λz=>by rw[<-z,e1]at n3;cases n3
 have y:b≠d:=λz=>by rw[<-z,aw]at O;cases O
 have ai:=δ.new (.lst []) n3 _ _ e1;have a3:u≠d:=λz=>by rw[<-z,ai]at O;cases O
 have s4:=s3.trans (δ.new (.lst [V.int r]) O);have au:=δ.new (.lst [V.int r]) O _ _ ai;have a1:upd (upd H1 b (.lst [])) d (.lst [V.int r]) b=some (.lst []):=by rw[aP y,aw]
 have am:upd (upd H1 b (.lst [])) d (.lst [V.int r]) d=some (.lst [V.int r]):=aw;generalize upd (upd H1 b (.lst [])) d (.lst [V.int r])=H4 at s4 au a1 am ⊢;refine C9 (λn N l=>E5 λ(S L f:eu)(v5 v6:Option V)=>n=2*(m.toNat-S.length)+L.length/\N=[some (.ref p),some (.int r),some (.ref u),some (.ref b),some (.ref d),v5,v6]/\δ H l/\l u=some (.lst (qI m r a))/\l b=some (.lst (f.map V.int))/\l d=some (.lst (L.map V.int))/\Φ m rs r a S L/\(f++L).Perm (r::S)/\f++L.reverse.flatMap (bO m rs r a G)=bO m rs r a G r) (2*m.toNat+1) ⟨[],[r],[],_,_,rfl,rfl,s4,au,a1,am,Φ.start,List.Perm.refl _,by simp⟩ ?_;rintro n N l NW BB Ϥ hN XD ⟨S,L,f,v5,v6,rfl,rfl,s5,h1,h3,h4,J,I,ep⟩;refine Ϥ _ _ _ ?_;have rk:∀w∈r::S,0<=w/\w<m:=λw hw=>by
  rcases aq.mp hw with rfl|z
  .exact⟨r0,r1⟩
  .exact J.Λ w z
 have nk:(r::S).Nodup:=bf.mpr ⟨J.nr,J.nd⟩;have kl:=fj (m:=m) (by lia) nk rk;have cu:=fj (m:=m) (by lia) J.nd J.Λ;have X:=I.length_eq;rw[aO]at X;rw[aD]at kl X;walk_at "";refine⟨_,.inl ⟨_,μ.of h4,rfl⟩,?_⟩;rcases gZ L with rfl|⟨ws',q,rfl⟩
 .rw[ah (by simp)];rw[List.reverse_nil,List.flatMap_nil,bJ]at ep;rw[bJ]at I;subst ep;refine k b l aS s5 h3 (I.nodup_iff.mpr nk) λv=>⟨λz=>rk v (I.mem_iff.mp z),λz=>I.mem_iff.mpr ?_⟩;by_cases c:v=r
  .rw[c];exact aK
  .exact aF _ (J.all R v z.1 z.2 c)
 .rw[gY]at J h4 hN XD I ep X ⊢;rw[aj (by simp)];have hq:q∈ws'++[q]:=aR _ (aE.mpr rfl);have Y:=J.at_ r0 r1 hq;have J2:=J.step g R r0 r1 (p:=q) (ws':=ws') (ic q ws');refine⟨NW,λcz H' z=>?_,?_⟩
  .obtain⟨m',lt,YT,YH,pl',a5,a6,z1,z2⟩:=XD _ _ z
   first|exact⟨m',lt,YT,YH,pl',a5,a6,z1,z2⟩|exact⟨m',lt,YT,YH,z1,pl',a5,a6,z2⟩
  rw[aB,az,dQ]at h4;refine⟨Xj h4,KP h4 ?_⟩;have s6:δ H (upd l d (.lst (ws'.map V.int))):=s5.put a2 _;have Z:upd l d (.lst (ws'.map V.int)) b=some (.lst (f.map V.int)):=by rw[aP y];exact h3
  have aC:upd l d (.lst (ws'.map V.int)) u=some (.lst (qI m r a)):=by rw[aP a3];exact h1
  have an:upd l d (.lst (ws'.map V.int)) d=some (.lst (ws'.map V.int)):=aw;generalize upd l d (.lst (ws'.map V.int))=H6 at s6 Z aC an ⊢;refine⟨Xj Z,qN Z (eJ (by rw[aa];lia)) ?_⟩;have s7:δ H (upd H6 b (.lst (f.map V.int++[V.int q]))):=s6.put aS _;have M:upd H6 b (.lst (f.map V.int++[V.int q])) b=some (.lst ((f++[q]).map V.int)):=by rw[aw,aB];rfl
  have o:upd H6 b (.lst (f.map V.int++[V.int q])) u=some (.lst (qI m r a)):=by rw[aP a9];exact aC
  have C:upd H6 b (.lst (f.map V.int++[V.int q])) d=some (.lst (ws'.map V.int)):=by rw[aP y.symm];exact an
  generalize upd H6 b (.lst (f.map V.int++[V.int q]))=H7 at s7 M o C ⊢;refine Η o (cB Y.1 (z9 Y.1 Y.2)) ?_;have bm:Pb.front r a q=.π\/∃i,Pb.front r a q=.int i:=by
   unfold Pb.front;by_cases c:q=r
   .rw[aj c];exact .inl rfl
   .rw[ah c];exact .inr ⟨_,rfl⟩
  have pq:=fM g R Y.1 Y.2;refine⟨p,t,m,ps,rs,q,_,rfl,W.same s7,Y.1,Y.2,bm,λl8 H8 n8 s8 e8=>⟨l8,rfl,_,μ.of e8,?_⟩⟩;generalize bT m rs (Pb.front r a q) q=j at e8 J2 pq ⊢;have cx:u≠l8:=λz=>by rw[<-z,o]at n8;cases n8
  have cy:b≠l8:=λz=>by rw[<-z,M]at n8;cases n8
  have bs:d≠l8:=λz=>by rw[<-z,C]at n8;cases n8
  have bt:=fj (m:=m) (by lia) J2.nd J2.Λ;rw[aO]at bt;have be:=fj (m:=m) (by lia) J2.wnd λw hw=>J2.at_ r0 r1 hw;rw[aO]at be;refine pN (K:=K) (xs:=j.map V.int) (λi N B=>∃v6,N=[some (.ref p),some (.int r),some (.ref u),some (.ref b),some (.ref d),some (.int q),v6]/\δ H B/\B l8=some (.lst (j.map V.int))/\B u=some (.lst (qI m r a))/\B b=some (.lst ((f++[q]).map V.int))/\B d=some (.lst ((ws'++j.reverse.take i).map V.int))) ⟨_,rfl,s7.trans s8,e8,s8 _ _ o,s8 _ _ M,by rw[d7,bJ];exact s8 _ _ C⟩ (λi N B _ z=>by obtain⟨_,_,_,z,_⟩:=z;exact μ.of z) ?_ ?_
  .rintro i x N B NI hI hi ⟨v6,rfl,s9,e9,h19,h39,h49⟩;rw[<-d9,aH]at hi;obtain⟨v,hv,rfl⟩:=eB.mp hi;have et:j.reverse.take (i+1)=j.reverse.take i++[v]:=(by rw[bQ,hv];rfl);have XG:(ws'++j.reverse.take i).length<=100:=by
    rw[aO,bg,aU]
    lia
   walk_at "";refine⟨Xj h49,qN h49 (eJ (by rw[aa];lia)) (hI _ _ ⟨_,rfl,s9.put a2 _,?_,?_,?_,?_⟩)⟩
   .rw[aP bs.symm];exact e9
   .rw[aP a3];exact h19
   .rw[aP y];exact h39
   .rw[aw,et,<-bW,aB (l₁:=ws'++j.reverse.take i)];rfl
  .rintro N B ⟨v6,rfl,s9,e9,h19,h39,h49⟩;rw[aa,show j.length=j.reverse.length by rw[aU],bo]at h49;refine hN _ _ _ ?_ ⟨S++j,ws'++j.reverse,f++[q],_,_,rfl,rfl,s9,h19,h39,h49,J2.perm (g6 _ j.reverse_perm.symm),?_,?_⟩
   .rw[aO,aO,aO,aU];simp only[aD,dY]
    lia
   .have p1:(f++[q]++(ws'++j.reverse)).Perm (f++(ws'++[q])++j):=by
     rw[bW,bW];refine g6 _ ?_;rw[<-bW];exact List.Perm.append (mn) j.reverse_perm
    exact p1.trans (mF _ I)
   .rw[<-ep,ij,ij,jK,l9,mI,bD,pq,j9];simp
def Lg(a:fc)(v:Int):List V:=[.int v,.int (a v)]
abbrev Δ(H:Hp)(a:fc):List Addr->List Int->Prop:=Paired λq v=>H q=some (.tup (Lg a v))
theorem Δ.same{H c:Hp}{a:fc}{d:g8}{b:eu}(e:δ H c)(h:Δ H a d b):Δ c a d b:=Paired.imp' (λq v x=>e q _ x) h
theorem Δ.get{H:Hp}{c:fc}:∀{d:g8}{f:eu}{i:Nat}{x:V},Δ H c d f->(d.map V.ref)[i]?=some x->∃p r,x=.ref p/\d[i]?=some p/\f[i]?=some r/\H p=some (.tup (Lg c r))
 | _,_,i,x,.nil,e=>by simp at e
 | _,_,0,x,.cons (a:=p) (b:=r) h hs,e=>⟨p,r,by simpa using e.symm,by simp,by simp,h⟩
 | a::l1,_,i+1,x,.cons h hs,e=>by
   have j:(List.map V.ref l1)[i]?=some x:=by simpa using e
   obtain⟨p,r,m,g,k,l⟩:=Δ.get hs j;exact⟨p,r,m,by simpa using g,by simpa using k,l⟩
theorem Δ.snoc{H:Hp}{a:fc}{q:Addr}{v:Int}(e:H q=some (.tup (Lg a v))):∀{c:g8}{b:eu},Δ H a c b->Δ H a (c++[q]) (b++[v])
 | _,_,.nil=>.cons e .nil
 | _,_,.cons x xs=>.cons x (Δ.snoc e xs)
def rQ(T:Txt K U):Sp:=λg H Q E=>E6 λ(p t:Addr)(m:Int)(h:g8)(d:hT)(r:Int)=>g=[.ref p,.int r]/\ο T.Web H p m t h d/\(0<=r->r<m->∃a b,ε m d r a b/\∀l f e c,bO m d r a b r=r::e->H l=none->δ H c->c l=some (.lst (f.map V.ref))->Δ c a f e.reverse->Order m r a e->Q (.ref l) c)/\(¬(0<=r/\r<m)->E (.ref T.NoPlace) none H)
abbrev m3:Stmt:=top 31
theorem D4:ζ ["web","r","nearer"] ["web","r"] (aG m3):=.of
theorem Ag:Zi (aG m3) "nearer":=.of (by kernel_rfl)
theorem xY:Ϙ (aG m3) "reversed":=.of (by kernel_rfl)
theorem Nr(T:Txt K U)(hq:b6 (Β P w))(oU:i6 P w base T)(vE:Cb P w K U base "down" vN ["web","r"] 6 (DG T)):Ok P w K U base "inward" m3 ["web","r"] 7 (rQ T):=λ_ _ D=>by
 refine D.F.XU D4 (by walk_at "v") λτ A Y s H vs Q E hr h=>?_;obtain⟨p,t,m,ps,rs,r,rfl,W,k,e⟩:=h;have g:=W.go;have Θ:=g.Θ;refine⟨_,(ap (t7 (i:=2) D4.nd rfl (Or.inr Ag.l) (ϛ oU hr dW (ag (γ 0) (ag (Ϭ 1) ay)))) (aM (bL (jv rfl (Zn ["place","nearer","r"] 1 [2,1]) (rN xY.g T.reversed (ϛ vE hr dW (ag (γ 0) (ag (Ϭ 1) ay)))) (λ_ _ _ _=>(fe (i:=0) (show(["place","nearer","r"]:hL).Nodup from by decide +kernel) rfl (Or.inl rfl))) (λ_ _ _ _=>(sV (Ϫ pL (pv 0) (pv 2)))) (λ_ _ _ _=>(jd (ag (pv 0) (ag (Ε (mQ K rfl) (pv 1) (pv 0)) ay)))))))),?_⟩;walk_at "s";walk_at "";refine⟨p,t,m,ps,rs,r,?_⟩;refine an4 rfl W (λC G=>?_) e;obtain⟨d,u,R,k⟩:=k C G;refine⟨d,u,R,λl1 H1 n1 s1 e1=>?_⟩;refine⟨p,t,m,ps,rs,r,?_⟩;refine an4 rfl (W.same s1) (λ_ _=>⟨d,u,R,λl2 H2 n2 s2 Z nd al=>?_⟩) (λz=>absurd ⟨C,G⟩ z);obtain⟨j,et,O⟩:=AQ g R C G nd al;have ll:=zJ g R C G;rw[et]at Z ll;rw[aD]at ll;refine⟨l2,rfl,_,μ.of Z,λX S=>?_⟩;have M:=s2 _ _ e1;have bY:=s1.trans s2;have L:=bY.free S;refine Rb (K:=K) (xs:=(r::j).map V.int) (λi B I n=>δ H2 n/\n X=some (.lst B)/\(∃f:List Addr,B=f.map V.ref/\Δ n d f (j.reverse.take i))/\∃v,I=[v,some (V.ref l1),some (V.int r)]) ⟨δ.new _ S,aw,⟨[],rfl,.nil⟩,_,rfl⟩ (λi B I n _ z=>μ.of (z.1 _ _ Z)) ?_ ?_
 .rintro i x B I n N hN hx ⟨s3,e3,⟨f,rfl,pa⟩,v,rfl⟩;rw[<-d9,dD,aH]at hx;obtain⟨y,o,rfl⟩:=eB.mp hx;have il:=(ar.mp o).1;rw[aO,aU]at il;have ql:f.length=(j.reverse.take i).length:=Paired.length pa;rw[bg,aU]at ql;walk_at "";by_cases c:i<j.length
  .rw[c8 (by rw[aU];exact c)]at o;have ym:y∈j:=dM.mp (aJ o);have yr:=O.Λ y ym;rw[aj (O.ne ym)];have gp:ϥ (qI m r d) y=some (V.int (d y)):=by
    have ef:Pb.front r d y=V.int (d y):=(by unfold Pb.front;rw[ah (O.ne ym)]);rw[<-ef];exact cB yr.1 (z9 yr.1 yr.2)
   refine Η (s3 _ _ M) gp ⟨cg (by simp),λq J=>?_⟩;have s4:=δ.new (.tup [V.int y,V.int (d y)]) J;have ab:q≠X:=λz=>by rw[z,e3]at J;cases J
   refine⟨s4 _ _ e3,eJ (by rw[aa];lia),hN _ _ _ ⟨(s3.trans s4).put S _,aw,⟨f++[q],by rw[aB];rfl,?_⟩,_,rfl⟩⟩;rw[bQ,o];refine Δ.snoc (by rw[aP ab,aw];rfl) ?_;exact Paired.imp' (λa b h=>by
    rw[aP (iR h e3 (by intro z;cases z)),aP (b9 h J)];exact h) pa
  .have ei:i=j.reverse.length:=(by rw[aU];simp at il;lia);rw[ei,cT (ax _),dP]at o;cases o;rw[ah (λz=>z rfl)];refine hN _ _ _ ⟨s3,e3,⟨f,rfl,?_⟩,_,rfl⟩;rw[df (by lia)]at pa ⊢;exact pa
 .rintro B I n ⟨s3,e3,⟨f,rfl,pa⟩,v,rfl⟩;rw[df (by rw[aa,aU,aD];lia)]at pa;exact k X f j n et L (bY.trans s3) e3 pa O
def tj(T:Txt K U):Sp:=λd H Q E=>E7 λ(p t:Addr)(m:Int)(e:g8)(c:hT)(a b:Int)=>d=[.ref p,.int a,.int b]/\ο T.Web H p m t e c/\(∀k,0<=a->a<m->0<=b->b<m->c9 c a b=some k->Q (.int k) H)/\(¬((0<=a/\a<m)/\(0<=b/\b<m))->E (.ref T.NoPlace) none H)/\(0<=a->a<m->0<=b->b<m->c9 c a b=none->E (.ref T.NoRoad) none H)
abbrev qH:Stmt:=top 14
theorem Sr:ζ ["web","a","b","one","other","there","back"] ["web","a","b"] (aG qH):=.of
theorem vw:Ϙ (aG qH) "NoRoad":=.of (by kernel_rfl)
theorem Sd(T:Txt K U)(hq:b6 (Β P w))(ff:iy P w base T):Ok P w K U base "toll" qH ["web","a","b"] 3 (tj T):=λ_ _ D=>by
 refine D.F.XU Sr (by walk_at "v") λτ A O s H vs Q E Z h=>?_;obtain⟨p,t,m,B,f,a,b,rfl,W,k,Y,e2⟩:=h;obtain⟨dx,ob⟩:=W.ob;refine⟨_,(ap (dI (ϛ ff Z dW (ag (γ 0) (ag (γ 1) ay)))) (ap (dI (ϛ ff Z dW (ag (γ 0) (ag (γ 2) ay)))) (ap (fq PassesOwn.leaving rfl (vF (dz (γ 0) rfl)) (j0 (n:=4) rfl (cG (ϓ 3) (cG (ϓ 4) (cG (ϓ 5) (cG (ϓ 6) iA))))) (ap (dG (PW.pt (GN (Ϫ iH (γ 3) (γ 1)) (Dq (Ϫ iH (γ 4) (γ 2))))) (aM (bL (γ 5))) cN) (aM (dG (PW.pt (GN (Ϫ iH (γ 3) (γ 2)) (Dq (Ϫ iH (γ 4) (γ 1))))) (aM (bL (γ 6))) cN)))) (aM (pP T.zW rfl qY vw.g T.Qs (ag nO ay) (hdb:=vw.d)))))),?_⟩;walk_at "s";walk_at "";refine⟨p,t,m,B,f,a,rfl,W,λI L=>?_,λz=>Y λw=>z w.1⟩;refine⟨p,t,m,B,f,b,rfl,W,λG y=>?_,λz=>Y λw=>z w.2⟩;refine⟨T.Web,dx,_,ob,T.lM,T.Ye,_,zx m t,t,rfl,⟨_,Ι.of W.tu⟩,?_⟩;have o:B.length=f.length:=Paired.length W.ro;refine FK (K:=K) (xs:=B.map V.ref) (λi C l=>l=H/\c9 (f.take i) a b=none/\∃S X R M,C=[some (V.ref p),some (V.int a),some (V.int b),S,X,R,M]) ⟨rfl,rfl,_,_,_,_,rfl⟩ (λi C l _ z=>by rw[z.1];exact Ι.of W.tu) ?_ ?_
 .rintro i x C l N hN hx ⟨rfl,hno,S,X,R,M,rfl⟩;obtain⟨q,r,rfl,h1,J,h3⟩:=W.ro.get hx;have et:f.take (i+1)=f.take i++[r]:=by rw[bQ,J];rfl
  have split:c9 f a b=(c9 (f.take i) a b).or ((jE a b r).or (c9 (f.drop (i+1)) a b)):=by
   have:f=f.take i++r::f.drop (i+1):=by
    have Zf:i<f.length:=(ar.mp J).1;have e:f[i]=r:=(by rw[ao Zf]at J;exact br J);rw[<-e,lZ,cw]
   conv=>lhs;rw[this]
   unfold c9;rw[jH,ku];cases jE a b r<;>rfl
  rw[hno,Option.none_or]at split;walk_at "";refine⟨_,Ι.of h3,rfl,_,_,rfl,_,_,rfl,_,_,rfl,_,_,rfl,rfl,?_⟩;walk_at "";have c:jE a b r=none->N [some (V.ref p),some (V.int a),some (V.int b),some (V.int r.a),some (V.int r.b),some (V.int r.t),some (V.int r.u)] l:=λz=>hN _ _ ⟨rfl,by
   rw[et];unfold c9 at hno ⊢;rw[jH,hno,ku,z]
   rfl,_,_,_,_,rfl⟩
  have j:∀v,jE a b r=some v->c9 f a b=some v:=λv z=>by rw[split,z];rfl
  unfold jE at c j;split
  .rename_i c1
   split
   .rename_i c2
    exact k _ I L G y (j _ (by rw[aj ⟨c1,c2⟩]))
   .rename_i c2
    split
    .rename_i c3
     split
     .rename_i c4
      exact k _ I L G y (j _ (by rw[ah (λz=>c2 z.2),aj ⟨c3,c4⟩]))
     .rename_i c4
      exact c (by rw[ah (λz=>c2 z.2),ah (λz=>c4 z.2)])
    .rename_i c3
     exact c (by rw[ah (λz=>c2 z.2),ah (λz=>c3 z.1)])
  .rename_i c1
   split
   .rename_i c3
    split
    .rename_i c4
     exact k _ I L G y (j _ (by rw[ah (λz=>c1 z.1),aj ⟨c3,c4⟩]))
    .rename_i c4
     exact c (by rw[ah (λz=>c1 z.1),ah (λz=>c4 z.2)])
   .rename_i c3
    exact c (by rw[ah (λz=>c1 z.1),ah (λz=>c3 z.1)])
 .rintro C l ⟨rfl,hno,S,X,R,M,rfl⟩;rw[aa,o,bo]at hno;walk_at "";exact⟨by decide,e2 I L G y hno⟩
def Aw(T:Txt K U):Sp:=λe H Q _=>E11 λ(p b t:Addr)(c:Bool)(m:Int)(f:g8)(d:hT)(a:eu)(v u k:Int)=>e=[.ref p,.ref b,.int v,.int u]/\ο T.Web H p m t f d/\ϣ K c H b (a.map V.int)/\(0<=v/\v<m/\v<a.length)/\(0<=u/\u<m)/\c9 d v u=some k/\k<=1000000/\2<=k/\Q (.int (a.getD v.toNat 0*k)) H
abbrev vC:Stmt:=top 36
theorem Rl:ζ ["web","weights","place","front"] ["web","weights","place","front"] (aG vC):=.of
abbrev jm(P w base)(T:Txt K U):=Cb P w K U base "toll" qH ["web","a","b"] 3 (tj T)
theorem Rf(T:Txt K U)(x:b6 (Β P w))(g:jm P w base T):Ok P w K U base "borne" vC ["web","weights","place","front"] 4 (Aw T):=λ_ _ D=>by
 refine D.F.XU Rl (by walk_at "v") λy A d s H C Q E j h=>?_;obtain⟨p,b,t,c,m,f,i,q,v,u,r,rfl,W,l,a,n,e,B,o,k⟩:=h;refine⟨_,(aM (bL (aZ kO (Ε (Hj c) (γ 1) (γ 2)) (ϛ g j dW (ag (γ 0) (ag (γ 2) (ag (γ 3) ay))))))),?_⟩;walk_at "s";walk_at "";refine ixX l (eQ a.1 a.2.2) ?_;refine⟨p,t,m,f,i,v,u,rfl,W,λG _ _ _ _ h=>?_,λz=>absurd ⟨⟨a.1,a.2.1⟩,n⟩ z,λ_ _ _ _ z=>by rw[e]at z;cases z⟩;rw[e]at h;cases h;exact⟨_,rfl,_,rfl,.inr ⟨by lia,by lia⟩,k⟩
def uO(T:Txt K U):Sp:=λd H Q _=>E10 λ(p b t:Addr)(m:Int)(e:g8)(c:hT)(a:eu)(v u k:Int)=>d=[.ref p,.ref b,.int v,.int u]/\ο T.Web H p m t e c/\μ K H b (a.map V.int)/\(a.length:Int)=m/\(0<=v/\v<m)/\(0<=u/\u<m)/\c9 c v u=some k/\k<=1000000/\2<=k/\Q (.bl (decide (a.getD v.toNat 0*k=a.getD u.toNat 0))) H
abbrev qy:Stmt:=top 42
theorem IG:ζ ["web","weights","place","front"] ["web","weights","place","front"] (aG qy):=.of
abbrev jo(P w base)(T:Txt K U):=Cb P w K U base "borne" vC ["web","weights","place","front"] 4 (Aw T)
theorem IC(T:Txt K U)(y:b6 (Β P w))(x:jo P w base T):Ok P w K U base "is_heavy" qy ["web","weights","place","front"] 5 (uO T):=λ_ _ D=>by
 refine D.F.XU IG (by walk_at "v") λB A d s H C Q E q h=>?_;obtain⟨p,b,t,m,l,n,a,v,u,c,rfl,W,g,z,f,i,r,o,j,k⟩:=h;refine⟨_,(aM (bL (kH iH (ϛ x q dW (ag (γ 0) (ag (γ 1) (ag (γ 2) (ag (γ 3) ay))))) (Ε bF (γ 1) (γ 3)) (gV _)))),?_⟩;walk_at "s";walk_at "";refine⟨p,b,t,true,m,l,n,a,v,u,c,rfl,W,g,⟨f.1,f.2,by lia⟩,i,r,o,j,?_⟩;refine ixS g (eQ i.1 (by lia)) ?_;have e:decide (V.int (a.getD v.toNat 0*c)=V.int (a.getD u.toNat 0))=decide (a.getD v.toNat 0*c=a.getD u.toNat 0):=by simp
 rw[e];exact⟨rfl,k⟩
def mS(T:Txt K U):Sp:=λe H Q E=>E6 λ(p t:Addr)(m:Int)(f:g8)(d:hT)(r:Int)=>e=[.ref p,.int r]/\ο T.Web H p m t f d/\(0<=r->r<m->∃c b,ε m d r c b/\∀l a,H l=none->δ H a->a l=some (.lst ((cJ m d r c b).map V.int))->Q (.ref l) a)/\(¬(0<=r/\r<m)->∀a,δ H a->E (.ref T.NoPlace) none a)
abbrev jS:Stmt:=top 39
theorem Al:ζ ["web","r","weights","place","front"] ["web","r"] (aG jS):=.of
abbrev jy(P w base)(T:Txt K U):=Cb P w K U base "inward" m3 ["web","r"] 7 (rQ T)
theorem zL(T:Txt K U)(hq:b6 (Β P w))(tz:jo P w base T)(jW:jy P w base T):Ok P w K U base "least_weights" jS ["web","r"] 8 (mS T):=λ_ _ D=>by
 refine D.F.XU Al (by walk_at "v") λτ A Y s H vs Q E hr h=>?_;obtain⟨p,t,m,ps,j,r,rfl,W,k,e⟩:=h;have g:=W.go;have m1:=g.m1;have Θ:=g.Θ;obtain⟨dx,ob⟩:=W.ob;refine⟨_,(ap (ψ 2 (aZ qA (eI (ag aL ay)) (dz (γ 0) rfl))) (ap (fq PassesOwn.leaving rfl (gQ (ϛ jW hr dW (ag (γ 0) (ag (γ 1) ay)))) (j0 (n:=2) rfl (cG (ϓ 3) (cG (ϓ 4) iA))) (aM (mw (BV (Ek rfl) T.max (ag (Ε bF (γ 2) (γ 4)) (ag (ϛ tz hr dW (ag (γ 0) (ag (γ 2) (ag (γ 3) (ag (γ 4) ay))))) ay))) (ow (γ 2) (γ 4) jT)))) (aM (bL (γ 2))))),?_⟩;walk_at "s";walk_at "";refine⟨cg (by simp),λl0 n0=>?_⟩;have Z:=δ.new (.lst [V.int 1]) n0;refine⟨T.Web,dx,_,Z _ _ ob,T.lM,T.ϑ,_,kt m t,?_⟩;refine⟨l0,m,_,rfl,rfl,aw,by lia,by lia,cg (by simp;lia),λl n1=>?_⟩;rw[BL];have C:=Z.trans (δ.new (.lst (List.replicate m.toNat (V.int 1))) n1);have nl:=Z.free n1;have S:upd (upd H l0 (.lst [V.int 1])) l (.lst (List.replicate m.toNat (V.int 1))) l=some (.lst ((List.replicate m.toNat (1:Int)).map V.int)):=by rw[aw,gq]
 generalize upd (upd H l0 (.lst [V.int 1])) l (.lst (List.replicate m.toNat (V.int 1)))=H1 at C S ⊢;refine⟨p,t,m,ps,j,r,?_⟩;refine an4 rfl (W.same C) (λr0 r1=>?_) (λz=>e z H1 C);obtain⟨c,f,R,k⟩:=k r0 r1;refine⟨c,f,R,λL I B H2 _ n2 s2 e2 pa O=>?_⟩;have X:L≠l:=λz=>by rw[z,S]at n2;cases n2
 refine⟨L,rfl,⟨_,μ.of e2⟩,?_⟩;have ql:I.length=B.reverse.length:=Paired.length pa;have st:ϳ mx m j r c f (λ_=>1) (bor j c) [] (List.replicate m.toNat (1:Int)):=ϳ.nil (by rw[bU];lia) λv v0 v1=>by
  rw[List.getD,jI (by lia)];rfl
 refine mL (K:=K) (xs:=I.map V.ref) (λi G d=>δ H d/\d L=some (.lst (I.map V.ref))/\Δ d c I B.reverse/\E3 λ(o:eu)(M J:Option V)=>d l=some (.lst (o.map V.int))/\ϳ mx m j r c f (λ_=>1) (bor j c) (B.drop (B.length-i)) o/\G=[some (V.ref p),some (V.int r),some (V.ref l),M,J]) ⟨C.trans s2,e2,pa,_,_,_,s2 _ _ S,by rw[gm,fA];exact st,rfl⟩ (λi G d _ z=>μ.of z.2.1) ?_ ?_
 .rintro i x G d N BB Ϥ hN hx ⟨s3,e3,ZU,o,M,J,c3,so,rfl⟩;refine Ϥ _ _ ?_;obtain⟨q,v,rfl,hq,hv,eq⟩:=ZU.get hx;obtain⟨⟨y,vn⟩,ev,ab⟩:=O.acb yt g R so hv;have u:=R.up v y.1 y.2 vn;obtain⟨kk,hk,k0,k1⟩:=lm g R y.1 y.2 vn;have cl:=so.len;walk_at "";refine⟨_,Ι.of eq,rfl,_,_,rfl,_,_,rfl,rfl,?_⟩;refine Η c3 (eQ u.1.1 (by lia)) ?_;refine⟨p,l,t,true,m,ps,j,o,v,c v,kk,rfl,W.same s3,μ.of c3,⟨y.1,y.2,by lia⟩,u.1,hk,k1,k0,?_⟩;refine⟨_,_,⟨rfl,rfl⟩,tY c3 u.1.1 (by rw[aa];lia) (hN _ _ ⟨s3.put nl _,?_,?_,uo mx c (bor j c) o v,_,_,?_,ab,rfl⟩)⟩
  .rw[aP X];exact e3
  .exact Paired.imp' (λa b h=>by rw[aP (iR h c3 (by intro z;cases z))];exact h) ZU
  .rw[aw,<-eM];unfold uo bor mx;rw[hk]
   rfl
 .rintro BB G d Ϥ ⟨s3,e3,ZU,o,M,J,c3,so,rfl⟩;refine Ϥ _ _ ?_;rw[aa,ql,aU,dP,gS]at so;rw[O.doneF yt g R so]at c3;walk_at "";exact k l d nl s3 c3
def Cy(T:Txt K U):Sp:=λf H Q E=>E6 λ(p t:Addr)(m:Int)(g:g8)(d:hT)(r:Int)=>f=[.ref p,.int r]/\ο T.Web H p m t g d/\(0<=r->r<m->∃a b,ε m d r a b/\∀e l c,bO m d r a b r=r::e->Order m r a e->H l=none->δ H c->c l=some (.lst (ZR m (oK m d r a b e)))->Q (.ref l) c)/\(¬(0<=r/\r<m)->∀c,δ H c->E (.ref T.NoPlace) none c)
abbrev rT:Stmt:=top 41
theorem KM:ζ ["web","r","weights","chosen","place","front"] ["web","r"] (aG rT):=.of
theorem xc:Ϙ (aG rT) "reversed":=.of (by kernel_rfl)
abbrev jz(P w base)(T:Txt K U):=Cb P w K U base "is_heavy" qy ["web","weights","place","front"] 5 (uO T)
abbrev ka(P w base)(T:Txt K U):=Cb P w K U base "least_weights" jS ["web","r"] 8 (mS T)
theorem Lf(T:Txt K U)(hq:b6 (Β P w))(jW:jy P w base T)(oO:jz P w base T)(gA:ka P w base T):Ok P w K U base "bearers" rT ["web","r"] 9 (Cy T):=λ_ _ D=>by
 refine D.F.XU KM (by walk_at "v") λτ A au s H vs Q E hr h=>?_;obtain⟨p,t,m,S,f,r,rfl,W,k,e⟩:=h;have g:=W.go;have m1:=g.m1;have Θ:=g.Θ;obtain⟨dx,ob⟩:=W.ob;refine⟨_,(ap (ψ 2 (ϛ gA hr dW (ag (γ 0) (ag (γ 1) ay)))) (ap (ψ 3 (aZ qA (eI (ag B9 ay)) (dz (γ 0) rfl))) (ap (fq PassesOwn.leaving rfl (rN xc.g T.reversed (ϛ jW hr dW (ag (γ 0) (ag (γ 1) ay)))) (j0 (n:=2) rfl (cG (ϓ 4) (cG (ϓ 5) iA))) (aM (dG (mE (ϛ oO hr dW (ag (γ 0) (ag (γ 2) (ag (γ 4) (ag (γ 5) ay)))))) (aM (mw (γ 4) (ow (γ 3) (γ 5) jT))) cN))) (aM (bL (γ 3)))))),?_⟩;walk_at "s";walk_at "";refine⟨p,t,m,S,f,r,?_⟩;refine an4 rfl W (λr0 r1=>?_) e;obtain⟨c,d,R,k⟩:=k r0 r1;refine⟨c,d,R,λL H0 nw s0 ew=>⟨cg (by simp),λl0 n0=>?_⟩⟩;have G:=δ.new (.lst [V.π]) n0;refine⟨T.Web,dx,_,G _ _ (s0 _ _ ob),T.lM,T.ϑ,_,kt m t,?_⟩;refine⟨l0,m,_,rfl,rfl,aw,by lia,by lia,cg (by simp;lia),λl J=>?_⟩;rw[BL];have s2:=G.trans (δ.new (.lst (List.replicate m.toNat V.π)) J);have nl:=(s0.trans G).free J;have Y:L≠l:=λz=>by rw[<-z,G _ _ ew]at J;cases J
 have el:ZR m (λ_=>none)=List.replicate m.toNat V.π:=by
  unfold ZR;rw[List.map_const',cX]
  rfl
 have e1:upd (upd H0 l0 (.lst [V.π])) l (.lst (List.replicate m.toNat V.π)) l=some (.lst (ZR m (oK m f r c d []))):=by rw[aw,<-el];rfl
 generalize upd (upd H0 l0 (.lst [V.π])) l (.lst (List.replicate m.toNat V.π))=H1 at s2 e1 ⊢;have Zo:=s0.trans s2;have am:=s2 _ _ ew;refine⟨p,t,m,S,f,r,?_⟩;refine an4 rfl (W.same Zo) (λ_ _=>⟨c,d,R,λZ B o H2 ab n2 s3 e2 pa O=>?_⟩) (λz=>absurd ⟨r0,r1⟩ z);have an:Z≠l:=λz=>by rw[z,e1]at n2;cases n2
 refine⟨Z,rfl,_,μ.of e2,?_⟩;have ql:B.length=o.reverse.length:=Paired.length pa;have ll:((cJ m f r c d).length:Int)=m:=by rw[mC];lia
 refine pN (K:=K) (xs:=B.map V.ref) (λi I j=>δ H j/\j L=some (.lst ((cJ m f r c d).map V.int))/\j Z=some (.lst (B.map V.ref))/\Δ j c B o.reverse/\∃(v4 X:Option V),j l=some (.lst (ZR m (oK m f r c d (o.take i))))/\I=[some (V.ref p),some (V.int r),some (V.ref L),some (V.ref l),v4,X]) ⟨Zo.trans s3,s3 _ _ am,e2,pa,_,_,s3 _ _ e1,rfl⟩ (λi I j _ z=>μ.of z.2.2.1) ?_ ?_
 .rintro i x I j N hN hx ⟨s4,w3,e3,ZU,v4,X,c3,rfl⟩;have il:=(ar.mp hx).1;rw[aU,aa]at il;rw[aU]at ql;rw[b7 (by rw[aa];exact il),aa]at hx;obtain⟨q,v,rfl,W8,hv,eq⟩:=ZU.get hx;rw[b7 (by lia),show o.length-1-(B.length-1-i)=i by lia]at hv;have vm:=aJ hv;have y:=O.Λ v vm;have vn:=O.ne vm;have u:=R.up v y.1 y.2 vn;obtain⟨kk,hk,k0,k1⟩:=lm g R y.1 y.2 vn;have ek:tup f c v=kk:=by unfold tup;rw[hk];rfl
  walk_at "";refine⟨_,Ι.of eq,rfl,_,_,rfl,_,_,rfl,rfl,?_⟩;refine⟨p,L,t,m,S,f,cJ m f r c d,v,c v,kk,rfl,W.same s4,μ.of w3,ll,y,u.1,hk,k1,k0,_,rfl,?_⟩;rw[fD y.1 y.2,fD u.1.1 u.1.2];have C:o.take (i+1)=o.take i++[v]:=by rw[bQ,hv];rfl
  by_cases M:ν m f r c d v*kk=ν m f r c d (c v)
  .rw[aj (ba M)];refine tY c3 u.1.1 (by unfold ZR;rw[aa,cX];lia) ?_;rw[RP u.1.1 u.1.2];exact hN _ _ ⟨s4.put nl _,by rw[aP Y];exact w3,by rw[aP an];exact e3,Paired.imp' (λa b h=>by rw[aP (iR h c3 (by intro z;cases z))];exact h) ZU,_,_,by rw[aw,C,Mz (by rw[ek];exact M)],rfl⟩
  .rw[ah (by rw[bw M];decide)];exact hN _ _ ⟨s4,w3,e3,ZU,_,_,by rw[C,MO (by rw[ek];exact M)];exact c3,rfl⟩
 .rintro I j ⟨s4,w3,e3,ZU,v4,X,c3,rfl⟩;rw[aU]at ql;rw[aa,ql,bo]at c3;walk_at "";exact k o l j ab O nl s4 c3
def qS(T:Txt K U):Sp:=λd H Q _=>∃(a:Addr)(c:eu),d=[.ref a]/\μ K H a (c.map V.int)/\c.length<=1000/\∀l b,H l=none->δ H b->b l=some (.lst ((Ϣ c).map V.int))->Q (.ref l) b
abbrev jX:Stmt:=top 44
theorem vV:ζ ["values","found","row"] ["values"] (aG jX):=.of
theorem yf:ZE (aG jX) "row":=.of (by kernel_rfl)
theorem xz:Ϙ (aG jX) "zip":=.of (by kernel_rfl)
theorem C1(T:Txt K U)(hq:b6 (Β P w)):Ok P w K U base "differences" jX ["values"] 1 (qS T):=λ_ _ D=>by
 refine D.F.ό vV (by walk_at "v") λτ A al s H vs Q E hr h=>?_;obtain⟨a,xs,rfl,ha,xl,k⟩:=h;refine⟨_,(ap (ψ 1 (eI ay)) (ap (ψ 2 (pct ou T.list (ag (γ 0) ay))) (ap (pQ PassesOwn.never (ui (γ 2) (λ_=>rfl)) (ap (dI (j4 PySem.F.plainAttrs_list PySem.F.slot_list_append PySem.F.type_list_append f6 (γ 1) (ag (Ε bF (γ 2) aL) ay))) (aM (wH (i:=2) vV.nd rfl yf.l rfl (vW (Nc:=["earlier","later"]) 2 (by decide +kernel) (by decide +kernel) rfl (by decide +kernel) rfl) (VX true true xz.g T.zip (ag (γ 2) (ag (vZ yz (γ 2) (vR aL) Du) ay))) (λ_ _ _ _=>(Js K rfl (n:=2) rfl (cG (fe (i:=0) (show(["earlier","later"]:hL).Nodup from by decide +kernel) rfl (Or.inl rfl)) (cG (fe (i:=1) (show(["earlier","later"]:hL).Nodup from by decide +kernel) rfl (Or.inl rfl)) iA)))) (λ_ _ _ _=>lu) (λ_ _ _ _=>(aZ fU (pv 1) (pv 0))))))) (aM (bL (γ 1)))))),?_⟩;walk_at "s";unfold tSl BH Xi;refine cU λN0 h0=>?_;walk_at "";refine⟨cg (by simp),λl nl=>h0 _ _ (cU λN1 S=>?_)⟩;have X:=δ.new (HO.lst []) nl;have e1:upd H l (HO.lst []) l=some (.lst (([]:eu).map V.int)):=aw;generalize upd H l (HO.lst [])=H1 at X e1 ⊢;walk_at "";refine⟨_,.inl (X.seq ha),λq nq=>S _ _ (cU λN2 h2=>?_)⟩;have s2:=δ.new (HO.lst (xs.map V.int)) nq;have e2:upd H1 q (HO.lst (xs.map V.int)) q=some (.lst (xs.map V.int)):=aw;have I:=s2 _ _ e1;have bY:=X.trans s2;have B:q≠l:=λz=>by rw[z,e1]at nq;cases nq
 generalize upd H1 q (HO.lst (xs.map V.int))=H2 at bY e2 I ⊢;refine vy (λn y j=>E3 λ(f Y:eu)(q:Addr)=>n=f.length/\Y++Ϣ f=Ϣ xs/\Y.length+f.length=xs.length/\q≠l/\j q=some (.lst (f.map V.int))/\j l=some (.lst (Y.map V.int))/\δ H j/\y=[some (V.ref a),some (V.ref l),some (V.ref q)]) _ ⟨xs,[],q,rfl,rfl,by simp,B,e2,I,bY,rfl⟩ ?_;rintro n y j NW hN XD ⟨f,m,q,rfl,O,hl,B,Z,u,s3,rfl⟩;refine⟨_,rfl,!(f.map V.int).isEmpty,.inl ⟨_,μ.of Z,rfl⟩,?_⟩;cases f with
 | nil=>
   refine UH (h2 _ _ ?_);walk_at "";have O:m=Ϣ xs:=by
    have:m++[]=Ϣ xs:=O;rw[bJ]at this;exact this
   exact k l j nl s3 (by rw[u,O])
 | cons x r=>
   refine Vs ⟨NW,XD,?_⟩;rw[aD]at hl;refine cU λM1 k1=>?_;walk_at "";refine⟨Xj u,Η Z (v:=V.int x) (cB (bC 0) rfl) (qN u (eJ (by rw[aa];lia)) (k1 _ _ ?_))⟩;have e4:upd j l (HO.lst (m.map V.int++[V.int x])) l=some (.lst ((m++[x]).map V.int)):=by rw[aw,aB];rfl
   have t:upd j l (HO.lst (m.map V.int++[V.int x])) q=some (.lst ((x::r).map V.int)):=by rw[aP B];exact Z
   have s4:δ H (upd j l (HO.lst (m.map V.int++[V.int x]))):=λb o e=>by rw[aP (b9 e nl)];exact s3 _ _ e
   generalize upd j l (HO.lst (m.map V.int++[V.int x]))=H4 at e4 t s4 ⊢;walk_at "";refine slI (μ.of t) λp np=>?_;have R:=δ.new (HO.lst ((nU (x::r) (some 1) none).map V.int)) np;have e5:upd H4 p (HO.lst ((nU (x::r) (some 1) none).map V.int)) p=some (.lst (((x::r).drop 1).map V.int)):=by
    rw[aw,<-Ak,GD _ (by decide),j8]
    rfl
   generalize upd H4 p (HO.lst ((nU (x::r) (some 1) none).map V.int))=H5 at R e5 ⊢;have L:=R _ _ t;have J:=R _ _ e4;have af:=s4.trans R;refine⟨q,p,⟨rfl,rfl⟩,⟨_,μ.of L⟩,⟨_,μ.of e5⟩,λpc Yo=>?_⟩;refine NK (K:=K) (c:=true) (d:=true) (a:=q) (b:=p) (xs:=(x::r).map V.int) (zs:=((x::r).drop 1).map V.int) (λi G y M=>δ H5 M/\M pc=some (.lst G)/\G=((((x::r).zip ((x::r).drop 1)).take i).map λq=>q.2-q.1).map V.int/\∃v w,y=[v,w]) ⟨δ.new _ Yo,aw,rfl,_,_,rfl⟩ (λi G y M z=>⟨μ.of (z.1 _ _ L),μ.of (z.1 _ _ e5)⟩) ?_ ?_
   .rintro i y1 y2 G y M qt N hN6 S h2 ⟨s6,e6,rfl,v,w,rfl⟩ nqt;obtain⟨W,C,rfl⟩:=List.θ S;obtain⟨a2,ai,rfl⟩:=List.θ h2;have ez:((x::r).zip ((x::r).drop 1))[i]?=some (W,a2):=by
     rw[List.getElem?_zip_eq_some];exact⟨C,ai⟩
    have il:=(ar.mp C).1;have et:((x::r).zip ((x::r).drop 1)).take (i+1)=((x::r).zip ((x::r).drop 1)).take i++[(W,a2)]:=(by rw[bQ,ez];rfl);rw[aD]at il;walk_at "";have s7:=δ.new (HO.tup [V.int W,V.int a2]) nqt;refine⟨_,Ι.of aw,rfl,_,_,rfl,_,_,rfl,rfl,?_⟩;walk_at "";refine⟨s7 _ _ e6,eJ (by rw[aa,aa,bg];lia),hN6 _ _ _ ⟨?_,aw,?_,_,_,rfl⟩⟩
    .exact λb o e=>by rw[aP (b9 e Yo)];exact s7 _ _ (s6 _ _ e)
    .rw[et,aB,aB]
     rfl
   .rintro G y M ⟨s6,e6,rfl,v,w,rfl⟩;have en:((((x::r).zip ((x::r).drop 1)).take (min ((x::r).map V.int).length (((x::r).drop 1).map V.int).length)).map λq=>q.2-q.1)=nxr (x::r):=by
     unfold nxr;rw[df];rw[lP,aa,aa];exact ax _
    rw[en]at e6;have am:H5 l≠none:=(by rw[J];intro z;cases z);exact hN _ _ _ (by rw[yw];simp) ⟨nxr (x::r),m++[x],pc,rfl,by rw[bW,<-O,Gj];rfl,by rw[aO,yw];simp;lia,λz=>am (by rw[<-z];exact Yo),e6,s6 _ _ J,af.trans s6,rfl⟩
def kE(T:Txt K U):Sp:=λe H Q _=>E3 λ(a:Addr)(b:eu)(n:Int)=>e=[.ref a,.int n]/\μ K H a (b.map V.int)/\b.length<=100/\-100<=n/\n.natAbs<Ϧ/\(∀c∈b,c.natAbs<Ϧ)/\(∀k,k<b.length->(Y6 n k).natAbs<Ϧ)/\∀d,δ H d->Q (.int (gE b n 0)) d
abbrev iq:Stmt:=top 45
theorem zb:ζ ["found","at","value","choices","k","difference"] ["found","at"] (aG iq):=.of
theorem yK:ZE (aG iq) "value":=.of (by kernel_rfl)
theorem vx:Ϙ (aG iq) "enumerate":=.of (by kernel_rfl)
theorem Hq(T:Txt K U)(I:b6 (Β P w)):Ok P w K U base "value_at" iq ["found","at"] 1 (kE T):=λ_ _ D=>by
 refine D.F.ό zb (by walk_at "v") λJ A p s H O Q E L h=>?_;obtain⟨a,e,n,rfl,r,M,y,R,cb,G,k⟩:=h;refine⟨_,(ap (ψ 2 aL) (ap (ψ 3 aL) (ap (fq PassesOwn.never rfl (yq true vx.g T.enumerate (γ 0)) (j0 (n:=2) rfl (cG (ϓ 4) (cG (ϓ 5) iA))) (ap (tH (i:=2) zb.nd rfl (Or.inl yK.l) (aZ nj (γ 5) (γ 3)) xU) (aM (ψ 3 (aZ fN (aZ nj (γ 3) (aZ fU (γ 1) (γ 4))) (aZ dR (γ 4) aL)))))) (aM (bL (γ 2)))))),?_⟩;walk_at "s";walk_at "";refine⟨⟨_,r⟩,?_⟩;refine Ax (K:=K) (c:=true) (xs:=e.map V.int) (λi f d=>δ H d/\∃m j,f=[some (V.ref a),some (V.int n),some (V.int (gE (e.take i) n 0)),some (V.int (Y6 n i)),m,j]) ⟨δ.refl _,_,_,by rw[tT,d7,oY]⟩ (λi f d z=>z.1.seq r) ?_ ?_
 .rintro i x f d q N hN hx ⟨s2,m,j,rfl⟩ nq;obtain⟨c,o,rfl⟩:=List.θ hx;have v:=(ar.mp o).1;have u:e.take (i+1)=e.take i++[c]:=by rw[bQ,o];rfl
  have B:=δ.new (HO.tup [V.int (i:Int),V.int c]) nq;have C:=cb c (aJ o);have b:=G i v;have t:(n-(i:Int)).natAbs<Ϧ:=by
   have:(200:Nat)<Ϧ:=hZ (k:=8) (by decide) (by decide)
   lia
  walk_at "";refine⟨_,Ι.of aw,rfl,_,_,rfl,_,_,rfl,rfl,c,rfl,qR C b,(i:Int),rfl,qR b t,(i:Int),rfl,⟨by lia,by lia⟩,hN _ _ ⟨s2.trans B,some (V.int (i:Int)),some (V.int c),?_⟩⟩;rw[<-OL,Int.mul_ediv_cancel _ (show(i:Int)+1≠0 by lia),u,Oo,bg,Nat.min_eq_left (by lia),kP]
 .rintro f d ⟨s2,m,j,rfl⟩;rw[aa,bo];walk_at "";exact k d s2
def uL(T:Txt K U):Sp:=λe H Q _=>E3 λ(a:Addr)(b:eu)(n:Nat)=>e=[.ref a,.int n]/\μ K H a (b.map V.int)/\b.length<=100/\n<=100/\(∀c∈b,c.natAbs<Ϧ)/\∀l d,H l=none->δ H d->d l=some (.lst (((List.range n).map λi=>Ξ b i 0).map V.int))->Q (.ref l) d
abbrev mi:Stmt:=top 46
theorem BI:ζ ["found","many"] ["found","many"] (aG mi):=.of
theorem vq:Ϙ (aG mi) "range":=.of (by kernel_rfl)
abbrev ke(P w base)(T:Txt K U):=Cb P w K U base "value_at" iq ["found","at"] 1 (kE T)
theorem Cr(T:Txt K U)(u:b6 (Β P w))(f:ke P w base T):Ok P w K U base "first_values" mi ["found","many"] 2 (uL T):=λ_ _ D=>by
 refine D.F.ό BI (by walk_at "v") λB A l s H C Q E x h=>?_;obtain⟨a,r,n,rfl,z,y,I,cb,k⟩:=h;refine⟨_,(aM (bL (jv rfl (Zn ["at","found"] 1 [0]) (mM vq.g T.range (ag (γ 1) ay)) (λ_ _ _ _=>(fe (i:=0) (show(["at","found"]:hL).Nodup from by decide +kernel) rfl (Or.inl rfl))) (λ_ _ _ _=>lu) (λ_ _ _ _=>(qX f.G (x.mono (by decide)) (by rfl) f.D.m f.D.F.kp f.D.b .nil (uz u) (ag (pv 1) (ag (pv 0) ay))))))),?_⟩;walk_at "s";walk_at "";refine⟨by lia,by lia,λp q=>?_⟩;rw[bu];refine qE (lo:=0) (n:=n) (λi d j c=>δ H c/\c p=some (.lst d)/\d=((List.range i).map λi=>Ξ r i 0).map V.int/\∃v,j=[v,some (V.ref a)]) ⟨δ.new _ q,aw,rfl,_,rfl⟩ ?_ ?_
 .rintro i d j c N hN hi ⟨s2,e2,rfl,v,rfl⟩;walk_at "";refine⟨a,r,(i:Nat),by rw[cW],s2.seq z,y,by lia,?_,cb,λk _=>(show ch i k<Ϧ from Tk (by lia)),λJ t=>⟨t _ _ e2,eJ (by rw[aa,aa,bI];lia),hN _ _ _ ⟨?_,aw,?_,_,rfl⟩⟩⟩
  .exact(show i<Ϧ from hZ (k:=7) (by lia) (by decide))
  .exact λb o e=>by rw[aP (b9 e q)];exact t _ _ (s2 _ _ e)
  .rw[da,aB,aB]
   rfl
 .rintro d j c ⟨s2,e2,rfl,v,rfl⟩;exact k p c q s2 e2
def sQ(T:Txt K U):Sp:=λn H Q _=>E16 λ(t l w j d h:Addr)(b:List (Str×V))(m:Int)(i:g8)(e:hT)(a:eu)(f:List V)(p k c:Int)(g:Option Int)=>n=[.ref t,.int p,.int k]/\H t=some (.ins T.Tally l b)/\b.lookup ("web":Str)=some (.ref w)/\b.lookup ("weights":Str)=some (.ref d)/\b.lookup ("bearers":Str)=some (.ref h)/\ο T.Web H w m j i e/\H d=some (.lst (a.map V.int))/\(a.length:Int)=m/\H h=some (.lst f)/\(0<=p/\p<m)/\(0<=k/\k<m)/\f[p.toNat]?=some (ZH g)/\c9 e k p=some c/\2<=c/\c<=1000000/\Q (.bl (decide (a.getD k.toNat 0*c=a.getD p.toNat 0)&&decide (g≠some k))) H
abbrev pY:Stmt:=top 58
theorem Kb:ζ ["tally","place","kid"] ["tally","place","kid"] (aG pY):=.of
theorem KZ(T:Txt K U)(y:b6 (Β P w))(C:jz P w base T):Ok P w K U base "is_free" pY ["tally","place","kid"] 6 (sQ T):=λ_ _ D=>by
 refine D.F.ό Kb (by walk_at "v") λY A g s H Z Q E L h=>?_;obtain⟨t,i,w,v,r,lb,f,m,u,J,a,cv,p,k,c,d,rfl,l,X,x,o,W,M,R,S,n,N,B,O,G,I,q⟩:=h;refine⟨_,(aM (bL (vo (Ζ C L y (ag (dz (γ 0) rfl) (ag (dz (γ 0) rfl) (ag (γ 2) (ag (γ 1) ay))))) (vg (kH pL (γ 2) (Ε bF (dz (γ 0) rfl) (γ 1)) (gV _)))))),?_⟩;walk_at "s";walk_at "";refine⟨T.Tally,i,f,l,T.cZ,T.Ge,_,X,T.Tally,i,f,l,T.cZ,T.X0,_,x,w,r,v,m,u,J,a,k,p,c,rfl,W,μ.of M,R,N,n,O,I,G,⟨_,rfl,?_⟩⟩;by_cases b:a.getD k.toNat 0*c=a.getD p.toNat 0
 .rw[aj (ba b)];refine⟨T.Tally,i,f,l,T.cZ,T.uw,_,o,Η S (cB n.1 B) ⟨?_,?_⟩⟩
  .cases d<;>rfl
  .have e:(!decide (V.int k=ZH d))=(decide (a.getD k.toNat 0*c=a.getD p.toNat 0)&&decide (d≠some k)):=by
    rw[ba b,jb];cases d with
    | none=>simp[ZH]
    | some j=>
      by_cases z:j=k
      .subst z;simp[ZH]
      .simp[ZH,z,Ne.symm z]
   rw[e];exact q
 .rw[ah (by rw[b4];exact b)];rw[bw b,jg]at q;exact q
def xA(T:Txt K U):Sp:=λg H Q _=>E5 λ(a b:Addr)(e d:eu)(n:Nat)=>g=[.ref a,.ref b,.int n]/\μ K H a (e.map V.int)/\μ K H b (d.map V.int)/\n<e.length/\n<d.length/\n<=100/\(∀c∈e,c.natAbs<Ϧ)/\(∀c∈d,c.natAbs<Ϧ)/\∀f,δ H f->Q (.int (XX (λi=>e.getD i 0) (λi=>d.getD i 0) n)) f
abbrev pC:Stmt:=top 48
theorem FR:ζ ["one","other","at"] ["one","other","at"] (aG pC):=.of
theorem xQ:Ϙ (aG pC) "range":=.of (by kernel_rfl)
theorem Fv(T:Txt K U)(G:b6 (Β P w)):Ok P w K U base "parted_at" pC ["one","other","at"] 1 (xA T):=λ_ _ D=>by
 refine D.F.ό FR (by walk_at "v") λI A q s H L Q E J h=>?_;obtain⟨a,b,c,d,n,rfl,B,C,M,R,O,z,y,k⟩:=h;refine⟨_,(aM (bL (BV (Av rfl) T.sum (ag (jv rfl (Zn ["k","one","other","at"] 1 [0,1,2]) (mM xQ.g T.range (ag (aZ dR (Ϭ 2) aL) ay)) (λ_ _ _ _=>(fe (i:=0) (show(["k","one","other","at"]:hL).Nodup from by decide +kernel) rfl (Or.inl rfl))) (λ_ _ _ _=>lu) (λ_ _ _ _=>(aZ nj (Ε (mQ K rfl) (pv 1) (pv 0)) (Ε (mQ K rfl) (pv 2) (aZ fU (pv 3) (pv 0)))))) ay)))),?_⟩;walk_at "s";walk_at "";refine⟨by lia,by lia,λp x=>?_⟩;rw[show((n:Int)+1).toNat=n+1 by lia];refine qE (lo:=0) (n:=n+1) (λi j m f=>δ H f/\f p=some (.lst j)/\j=((List.range i).map λk=>c.getD k 0*d.getD (n-k) 0).map V.int/\∃v,m=[v,some (V.ref a),some (V.ref b),some (V.int n)]) ⟨δ.new _ x,aw,rfl,_,rfl⟩ ?_ ?_
 .rintro i j m f N hN hi ⟨s2,e2,rfl,v,rfl⟩;walk_at "";have l:i<c.length:=by lia
  have r:n-i<d.length:=by lia
  have t:c.getD i 0=c[i]:=by rw[bH,ao l];rfl
  have u:d.getD (n-i) 0=d[n-i]:=by rw[bH,ao r];rfl
  refine⟨a,_,_,_,rfl,rfl,s2.seq B,cB (v:=V.int (c.getD i 0)) (by lia) (by rw[show((0:Int)+(i:Int)).toNat=i by lia,aH,ao l,t];rfl),b,_,_,_,rfl,rfl,s2.seq C,cB (v:=V.int (d.getD (n-i) 0)) (by lia) (by rw[show((n:Int)-(0+(i:Int))).toNat=n-i by lia,aH,ao r,u];rfl),c.getD i 0,rfl,d.getD (n-i) 0,rfl,qR (by rw[t];exact z _ (eW l)) (by rw[u];exact y _ (eW r)),e2,eJ (by rw[aa,aa,bI];lia),hN _ _ _ ⟨?_,aw,?_,_,rfl⟩⟩
  .exact λb o e=>by rw[aP (b9 e x)];exact s2 _ _ e
  .rw[da,aB,aB]
   rfl
 .rintro j m f ⟨s2,e2,rfl,v,rfl⟩;refine⟨p,rfl,_,.inl (μ.of e2),?_⟩;rw[JG];exact k f s2
def D0(T:Txt K U):Sp:=λg H Q _=>E4 λ(a b:Addr)(d e:eu)=>g=[.ref a,.ref b]/\μ K H a (d.map V.int)/\μ K H b (e.map V.int)/\d.length<=e.length/\d.length<=100/\(∀c∈d,c.natAbs<Ϧ)/\(∀c∈e,c.natAbs<Ϧ)/\∀l f,H l=none->δ H f->f l=some (.lst (((List.range d.length).map λn=>XX (λi=>d.getD i 0) (λi=>e.getD i 0) n).map V.int))->Q (.ref l) f
abbrev tD:Stmt:=top 47
theorem Mb:ζ ["one","other"] ["one","other"] (aG tD):=.of
theorem BO:Ϙ (aG tD) "range":=.of (by kernel_rfl)
theorem LX(T:Txt K U)(y:b6 (Β P w))(d:Cb P w K U base "parted_at" pC ["one","other","at"] 1 (xA T)):Ok P w K U base "parted" tD ["one","other"] 2 (D0 T):=λ_ _ D=>by
 refine D.F.ό Mb (by walk_at "v") λM A q s H O Q E C h=>?_;obtain⟨a,b,j,t,rfl,u,I,J,L,B,z,k⟩:=h;refine⟨_,(aM (bL (jv rfl (Zn ["at","one","other"] 1 [0,1]) (mM BO.g T.range (ag (BV gI T.len (ag (Ϭ 0) ay)) ay)) (λ_ _ _ _=>(fe (i:=0) (show(["at","one","other"]:hL).Nodup from by decide +kernel) rfl (Or.inl rfl))) (λ_ _ _ _=>lu) (λ_ _ _ _=>(qX d.G (C.mono (by decide)) (by rfl) d.D.m d.D.F.kp d.D.b .nil (uz y) (ag (pv 1) (ag (pv 2) (ag (pv 0) ay)))))))),?_⟩;walk_at "s";walk_at "";refine⟨_,.inl u,?_⟩;rw[aa];refine⟨by lia,by lia,λp r=>?_⟩;rw[bu];refine qE (lo:=0) (n:=j.length) (λi f l c=>δ H c/\c p=some (.lst f)/\f=((List.range i).map λn=>XX (λi=>j.getD i 0) (λi=>t.getD i 0) n).map V.int/\∃v,l=[v,some (V.ref a),some (V.ref b)]) ⟨δ.new _ r,aw,rfl,_,rfl⟩ ?_ ?_
 .rintro i f l c N hN hi ⟨s2,e2,rfl,v,rfl⟩;walk_at "";refine⟨a,b,j,t,i,by rw[cW],s2.seq u,s2.seq I,hi,by lia,by lia,B,z,λR x=>⟨x _ _ e2,eJ (by rw[aa,aa,bI];lia),hN _ _ _ ⟨?_,aw,?_,_,rfl⟩⟩⟩
  .exact λb o e=>by rw[aP (b9 e r)];exact x _ _ (s2 _ _ e)
  .rw[da,aB,aB]
   rfl
 .rintro f l c ⟨s2,e2,rfl,v,rfl⟩;exact k p c r s2 e2
def rq(T:Txt K U):Sp:=λd H Q _=>E12 λ(t e w g:Addr)(a:List (Str×V))(m:Int)(f:g8)(b:hT)(p k c:Int)(n:Nat)=>d=[.ref t,.int p,.int k,.int n]/\H t=some (.ins T.Tally e a)/\a.lookup ("web":Str)=some (.ref w)/\ο T.Web H w m g f b/\(0<=p/\p<m)/\(0<=k/\k<m)/\c9 b k p=some c/\2<=c/\c<=1000000/\Q (.int (((n:Int)+1)*c-1)) H
abbrev p7:Stmt:=top 61
theorem Im:ζ ["tally","place","kid","given"] ["tally","place","kid","given"] (aG p7):=.of
theorem HD(T:Txt K U)(l:b6 (Β P w))(i:jm P w base T):Ok P w K U base "held_for" p7 ["tally","place","kid","given"] 4 (rq T):=λ_ _ D=>by
 refine D.F.ό Im (by walk_at "v") λJ A b s H L Q E v h=>?_;obtain⟨t,u,w,j,o,m,g,r,p,k,c,n,rfl,y,C,W,f,x,d,G,I,q⟩:=h;refine⟨_,(aM (bL (aZ fU (aZ kO (aZ dR (γ 3) aL) (Ζ i v l (ag (dz (γ 0) rfl) (ag (γ 2) (ag (γ 1) ay))))) aL))),?_⟩;walk_at "s";walk_at "";refine⟨T.Tally,u,o,y,T.cZ,T.Ge,_,C,w,j,m,g,r,k,p,rfl,W,λe _ _ _ _ a=>?_,λB=>absurd ⟨x,f⟩ B,λ_ _ _ _ a=>absurd (d.symm.trans a) (by intro z;cases z)⟩;have:e=c:=br (a.symm.trans d);subst this;exact⟨e,rfl,.inr ⟨by lia,by lia⟩,q⟩
def sN(T:Txt K U):Sp:=λh H Q _=>E11 λ(t i e g ld:Addr)(b:List (Str×V))(d pv:List V)(p:Int)(a:eu)(n:Nat)=>h=[.ref t,.int p,.int n]/\H t=some (.ins T.Tally i b)/\b.lookup ("rests":Str)=some (.ref e)/\H e=some (.lst d)/\0<=p/\d[p.toNat]?=some (.ref g)/\H g=some (.lst (.ref ld::pv))/\H ld=some (.lst (a.map V.int))/\a.length<=100/\n<Ϧ/\(∀c∈a,c.natAbs<Ϧ)/\(∀k,k<a.length->ch n k<Ϧ)/\∀f,δ H f->Q (.int (Ξ a n 0)) f
abbrev pS:Stmt:=top 59
theorem Kd:ζ ["tally","place","held"] ["tally","place","held"] (aG pS):=.of
theorem Km(T:Txt K U)(f:b6 (Β P w))(r:ke P w base T):Ok P w K U base "ways_of" pS ["tally","place","held"] 2 (sN T):=λ_ _ D=>by
 refine D.F.ό Kd (by walk_at "v") λy A a s H B Q E j h=>?_;obtain⟨t,i,G,z,ld,g,C,pv,p,b,n,rfl,q,d,o,x,c,e,v,l,m,cb,u,k⟩:=h;refine⟨_,(aM (bL (Ζ r j f (ag (Ε bF (iM bF (dz (γ 0) rfl) (γ 1) (λ_ _=>rfl)) aL) (ag (γ 2) ay))))),?_⟩;walk_at "s";walk_at "";refine⟨T.Tally,i,g,q,T.cZ,T.Ϯ,_,d,Η o (cB x c) (Η e (cB (bC 0) rfl) ?_)⟩;exact⟨ld,b,n,rfl,μ.of v,l,by lia,m,cb,u,k⟩
def sh(T:Txt K U):Sp:=λo H Q _=>E18 λ(t l w j g e ld:Addr)(b:List (Str×V))(m:Int)(i:g8)(d:hT)(f pv:List V)(p k:Int)(c n:Nat)(a:eu)=>o=[.ref t,.int p,.int k,.int n]/\H t=some (.ins T.Tally l b)/\b.lookup ("web":Str)=some (.ref w)/\b.lookup ("rests":Str)=some (.ref g)/\ο T.Web H w m j i d/\(0<=p/\p<m)/\(0<=k/\k<m)/\c9 d k p=some (c:Int)/\2<=c/\c<=1000000/\H g=some (.lst f)/\f[k.toNat]?=some (.ref e)/\H e=some (.lst (.ref ld::pv))/\H ld=some (.lst (a.map V.int))/\a.length<=24/\n<=24/\(∀c∈a,c.natAbs<Ϧ)/\∀h,δ H h->Q (.int (Ξ a (υ c n) 0)) h
abbrev nX:Stmt:=top 60
theorem EH:ζ ["tally","place","kid","given"] ["tally","place","kid","given"] (aG nX):=.of
abbrev kx(P w base)(T:Txt K U):=Cb P w K U base "held_for" p7 ["tally","place","kid","given"] 4 (rq T)
abbrev ky(P w base)(T:Txt K U):=Cb P w K U base "ways_of" pS ["tally","place","held"] 2 (sN T)
theorem EI(T:Txt K U)(d:b6 (Β P w))(N:kx P w base T)(y:ky P w base T):Ok P w K U base "ways_given" nX ["tally","place","kid","given"] 5 (sh T):=λ_ _ D=>by
 refine D.F.ό EH (by walk_at "v") λZ A b s H vs Q E i h=>?_;obtain⟨t,g,w,B,S,L,ld,f,m,z,J,R,pv,p,k,c,n,r,rfl,o,X,x,W,v,l,G,Y,I,M,a,C,V,cl,u,cb,q⟩:=h;refine⟨_,(aM (bL (Ζ y i d (ag (γ 0) (ag (γ 2) (ag (Ζ N i d (ag (γ 0) (ag (γ 1) (ag (γ 2) (ag (γ 3) ay))))) ay)))))),?_⟩;walk_at "s";walk_at "";have e:((n:Int)+1)*(c:Int)-1=((υ c n:Nat):Int):=by
  unfold υ;have:1<=(n+1)*c:=bR (show 1<=n+1 by lia) (show 1<=c by lia);rw[jP this,iB]
  rfl
 have O:υ c n+1<=2^25:=by
  unfold υ;have h1:(n+1)*c<=25*1000000:=bR (by lia) I;have h2:(2:Nat)^25=33554432:=rfl
  lia
 refine⟨t,g,w,B,f,m,z,J,p,k,c,n,rfl,o,X,W,v,l,G,by lia,by lia,?_⟩;rw[e];exact⟨t,g,S,L,ld,f,R,pv,k,r,υ c n,rfl,o,x,M,l.1,a,C,V,by lia,hZ (k:=25) (by lia) (by decide),cb,λj hj=>CQ O (by lia),q⟩
def uq(H:Hp)(b:List Int->Nat)(f:List Int->Nat->Int)(e:g8)(a:List (List Int)):Prop:=Paired (λld d=>∃c:List Int,H ld=some (.lst (c.map V.int))/\Ω (b d) c (f d)) e a
structure ade(H:Hp)(rs:hT)(m p:Int)(rv:List V)(W:Int->Nat->Int)(c d:fz)(k:Int):Prop where
 k0:0<=k
 k1:k<m
 tl:c9 rs k p=some (c k:Int)
 c2:2<=c k
 c1:c k<=1000000
 wk:uR (d k) (W k)
 at_:E4 λ(lp ld:Addr)(pv:List V)(cs:eu)=>rv[k.toNat]?=some (.ref lp)/\H lp=some (.lst (.ref ld::pv))/\H ld=some (.lst (cs.map V.int))/\Ω 15000 cs (W k)
def frK(a:eu)(b:Option Int)(c:fz)(p k:Int):Bool:=decide (a.getD k.toNat 0*(c k:Int)=a.getD p.toNat 0)&&decide (b≠some k)
def beK(a:Option Int)(k:Int):Bool:=decide (a=some k)
def y7(T:Txt K U):Sp:=λB H Q _=>E23 λ(t A w z i u o x q:Addr)(a:List (Str×V))(m:Int)(y:g8)(j:hT)(f:eu)(r s v:List V)(p:Int)(b:eu)(h:Option Int)(W:Int->Nat->Int)(c d:fz)=>B=[.ref t,.int p]/\H t=some (.ins T.Tally A a)/\a.lookup ("web":Str)=some (.ref w)/\a.lookup ("weights":Str)=some (.ref i)/\a.lookup ("bearers":Str)=some (.ref u)/\a.lookup ("kids":Str)=some (.ref o)/\a.lookup ("rests":Str)=some (.ref x)/\ο T.Web H w m z y j/\H i=some (.lst (f.map V.int))/\(f.length:Int)=m/\H u=some (.lst r)/\H o=some (.lst s)/\H x=some (.lst v)/\(0<=p/\p<m)/\r[p.toNat]?=some (ZH h)/\s[p.toNat]?=some (.ref q)/\H q=some (.lst (b.map V.int))/\(∀k∈b,ade H j m p v W c d k)/\((b.map λk=>d k+1).sum:Int)<m/\∀l n e,H l=none->δ H e->e l=some (.lst (n.map V.ref))->uq e (Yc d) (ξ (frK f h c p) (beK h) (λk g=>W k (υ (c k) g))) n (ZI b)->Q (.ref l) e
abbrev jB:Stmt:=top 57
theorem rD:ζ ["tally","place","many","rests","kid","ways"] ["tally","place"] (aG jB):=.of
theorem yV:Zi (aG jB) "rests":=.of (by kernel_rfl)
theorem AZ:Zi (aG jB) "kid":=.of (by kernel_rfl)
theorem An:Zi (aG jB) "ways":=.of (by kernel_rfl)
theorem qh:Ϙ (aG jB) "reversed":=.of (by kernel_rfl)
theorem yR:Ϙ (aG jB) "range":=.of (by kernel_rfl)
theorem zO:Ϙ (aG jB) "list":=.of (by kernel_rfl)
abbrev ni(P w base)(T:Txt K U):=Cb P w K U base "is_free" pY ["tally","place","kid"] 6 (sQ T)
abbrev nH(P w base)(T:Txt K U):=Cb P w K U base "ways_given" nX ["tally","place","kid","given"] 5 (sh T)
theorem II(T:Txt K U)(hq:b6 (Β P w))(jY:Cb P w K U base "differences" jX ["values"] 1 (qS T))(qU:Cb P w K U base "first_values" mi ["found","many"] 2 (uL T))(lB:ni P w base T)(Ar:Cb P w K U base "parted" tD ["one","other"] 2 (D0 T))(iL:nH P w base T):Ok P w K U base "rests_of" jB ["tally","place"] 7 (y7 T):=λ_ _ D=>by
 refine D.F.ό rD (by walk_at "v") λτ A dq s H vs Q E hr h=>?_;obtain⟨t,dx,w,tw,lw,lb,lk,lr,Ϸ,fs,m,ps,rs,xs,cv,kv,rv,p,ks,ob,W,c,d,rfl,ht,fw,fg,fb,fk,fr,WA,eg,xl,eb,ek,db,hp,b0,X1,cf,ad,dm,q⟩:=h;refine⟨_,(ap (ψ 2 (dz (dz (Ϭ 0) rfl) rfl)) (ap (t7 (i:=3) rD.nd rfl (Or.inr yV.l) (eI (ag (eI (ag aL ay)) ay))) (ap (fq PassesOwn.never rfl (rN qh.g T.reversed (Ε bF (dz (Ϭ 0) rfl) (Ϭ 1))) (fe (i:=4) rD.nd rfl (Or.inr AZ.l)) (ap (t7 (i:=5) rD.nd rfl (Or.inr An.l) (jv rfl (Zn ["given","tally","place","kid"] 1 [0,1,4]) (mM yR.g T.range (ag (γ 2) ay)) (λ_ _ _ _=>(fe (i:=0) (show(["given","tally","place","kid"]:hL).Nodup from by decide +kernel) rfl (Or.inl rfl))) (λ_ _ _ _=>lu) (λ_ _ _ _=>(qX iL.G (hr.mono (by decide)) (by rfl) iL.D.m iL.D.F.kp iL.D.b .nil (uz hq) (ag (pv 1) (ag (pv 2) (ag (pv 3) (ag (pv 0) ay)))))))) (aM (dG (mE (Ζ lB hr hq (ag (Ϭ 0) (ag (Ϭ 1) (ag (Ϭ 4) ay))))) (aM (dI (j4 PySem.F.plainAttrs_list PySem.F.slot_list_append PySem.F.type_list_append f6 (Ϭ 3) (ag (Ζ jY hr hq (ag (Ζ Ar hr hq (ag (Ϭ 5) (ag (Ζ qU hr hq (ag (Ε bF (Ϭ 3) (yC vJ aL)) (ag (γ 2) ay))) ay))) ay)) ay)))) (aM (dG (Ϫ iH (Ϭ 4) (Ε bF (dz (Ϭ 0) rfl) (Ϭ 1))) (aM (dI (j4 PySem.F.plainAttrs_list PySem.F.slot_list_append PySem.F.type_list_append f6 (Ϭ 3) (ag (Ζ jY hr hq (ag (jv rfl (Zn ["count","rests"] 1 [3]) (gQ (Ϭ 5)) (λ_ _ _ _=>(fe (i:=0) (show(["count","rests"]:hL).Nodup from by decide +kernel) rfl (Or.inl rfl))) (λ_ _ _ _=>lu) (λ_ _ _ _=>(aZ nj (pv 0) (Ε (mQ K rfl) (iM (mQ K rfl) (pv 1) (yC vJ aL) (λ_ _=>rfl)) aL)))) ay)) ay)))) (aM (dI (j4 PySem.F.plainAttrs_list PySem.F.slot_list_append PySem.F.type_list_append f6 (Ϭ 3) (ag (jv rfl (Zn ["difference","ways"] 1 [5]) (gQ (Ε bF (Ϭ 3) (yC vJ aL))) (λ_ _ _ _=>(fe (i:=0) (show(["difference","ways"]:hL).Nodup from by decide +kernel) rfl (Or.inl rfl))) (λ_ _ _ _=>lu) (λ_ _ _ _=>(aZ nj (Ε (mQ K rfl) (pv 1) aL) (pv 0)))) ay)))))))))) (aM (bL (Sn rfl qh.g T.reversed zO.g T.list (Ϭ 3))))))),?_⟩;walk_at "s";obtain⟨dw,wb⟩:=WA.ob;refine cU λN0 h0=>?_;walk_at "";refine⟨T.Tally,dx,fs,ht,T.cZ,T.Ge,_,fw,w,rfl,T.Web,dw,_,wb,T.lM,T.ϑ,_,kt _ _,h0 _ _ (cU λN1 h1=>?_)⟩;walk_at "";refine⟨cg (by simp),λq1 cc=>⟨cg (by simp),λl nl=>h1 _ _ (cU λN2 h2=>?_)⟩⟩;have s1:=δ.new (HO.lst [V.int 1]) cc;have s2:=δ.new (HO.lst [V.ref q1]) nl;have dk:H l=none:=s1.free nl;have e1:=s2 _ _ (aw (H:=H) (a:=q1) (o:=HO.lst [V.int 1]));have el:upd (upd H q1 (HO.lst [V.int 1])) l (HO.lst [V.ref q1]) l=some (.lst ([q1].map V.ref)):=aw;have bY:=s1.trans s2;generalize upd (upd H q1 (HO.lst [V.int 1])) l (HO.lst [V.ref q1])=H2 at e1 el bY ⊢;clear s1 s2 nl cc h0 h1;walk_at "";have g:=WA.go;have m1:=g.m1;have Θ:=g.Θ;refine⟨T.Tally,dx,fs,bY _ _ ht,T.cZ,T.rX,_,fk,Η (bY _ _ ek) (cB hp.1 X1) ⟨Ϸ,rfl,_,μ.of (bY _ _ cf),?_⟩⟩;generalize hF:ξ (frK xs ob c p) (beK ob) (λk g=>W k (υ (c k) g))=F at q;have ds:∀k∈ks,uR (d k) (W k):=λk hk=>(ad k hk).wk;have c0:∀k∈ks,1<=c k/\c k<=1000000:=λk hk=>⟨aN (by decide) (ad k hk).c2,(ad k hk).c1⟩;refine pN (K:=K) (xs:=ks.map V.int) (λi C H3=>δ H H3/\(∃(Y:g8)(ld:Addr),H3 l=some (.lst ((Y++[ld]).map V.ref))/\uq H3 (Yc d) F (Y++[ld]) ((List.range (i+1)).map λj=>ks.drop (ks.length-j)))/\∃v4 v5,C=[some (V.ref t),some (V.int p),some (V.int m),some (V.ref l),v4,v5]) ?_ (λi C H3 _ z=>μ.of (z.1 _ _ cf)) ?_ ?_
 .refine⟨bY,⟨[],q1,el,.cons ⟨[1],e1,?_⟩ .nil⟩,_,_,rfl⟩;have e:ks.drop (ks.length-0)=[]:=by rw[gm,fA]
  show Ω (Yc d (ks.drop (ks.length-0))) [1] (F (ks.drop (ks.length-0)));rw[e,<-hF];exact Ω.one
 .rintro i x C H3 N hN r ⟨s3,⟨Y,ld,e3,ra⟩,v4,v5,rfl⟩;rw[<-d9]at r;obtain⟨k,hk,rfl⟩:=List.θ r;have il:i<ks.length:=by
   have:=(ar.mp hk).1;rw[aU]at this;exact this
  have bk:ks[ks.length-1-i]?=some k:=by
   rw[b7 il]at hk;exact hk
  have eS:ks.drop (ks.length-(i+1))=k::ks.drop (ks.length-i):=by
   rw[show ks.length-(i+1)=ks.length-1-i by lia,cq (by lia),(ar.mp bk).2,show ks.length-1-i+1=ks.length-i by lia]
  have km:=aJ bk;have I:=ad k km;obtain⟨kp,kd,pv,cs,dg,k2,k3,kc⟩:=I.at_;have aC:∀x∈k::ks.drop (ks.length-i),x∈ks:=λx r=>by
   rw[<-eS]at r;exact cj r
  have dS:((k::ks.drop (ks.length-i)).map λk=>d k+1).sum<m.toNat:=by
   rw[<-eS];have:=tW (λk=>d k+1) ks (ks.length-(i+1))
   lia
  have er:(List.range (i+1+1)).map (λj=>ks.drop (ks.length-j))=((List.range (i+1)).map λj=>ks.drop (ks.length-j))++[k::ks.drop (ks.length-i)]:=by rw[da,aB,<-eS];rfl
  obtain⟨cS,dv,u⟩:∃cS:List Int,H3 ld=some (.lst (cS.map V.int))/\Ω (Yc d (ks.drop (ks.length-i))) cS (F (ks.drop (ks.length-i))):=by
   have:=ra;unfold uq at this;rw[da,aB]at this;obtain⟨l0,a0,h2,_,h4⟩:=Cs this;have h5:=(dy (List.append_inj' h2 rfl).2).1;rw[h5];exact h4
  generalize ks.drop (ks.length-i)=S at aC dS er u eS;have cy:∀{y:Addr}{zs:eu},zs≠[]->H3 y=some (.lst (zs.map V.int))->y≠l:=λ{y zs} zn hy z=>by
   rw[z,e3]at hy;injection hy with hy
   injection hy with hy
   cases zs with
   | nil=>exact zn rfl
   | cons z0 zs=>
     cases Y with
     | nil=>cases(dy hy).1
     | cons _ _=>cases(dy hy).1
  have Z:∀(y:Addr)(Xr:eu)(f:Hp),δ H3 f->f y=some (.lst (Xr.map V.int))->Ω (Yc d (k::S)) Xr (F (k::S))->(Y++[ld]).length<sizeLine->∀v5,tyV K "list" (V.ref l) f/\X4 (V.ref l) [V.ref y] f λ_ H6=>N [some (V.ref t),some (V.int p),some (V.int m),some (V.ref l),some (V.int k),v5] H6:=by
   intro y Xr f B ey bi sz v5;have M:=B _ _ e3;refine⟨Xj M,qN M (by rw[aa];exact sz) (hN _ _ ⟨λb o e=>?_,⟨Y++[ld],y,by rw[aw,aB (l₂:=[y])];rfl,?_⟩,_,_,rfl⟩)⟩
   .rw[aP (b9 e dk)];exact B _ _ (s3 _ _ e)
   .rw[er];have yl:y≠l:=λz=>by
     rw[z,M]at ey;injection ey with ey
     injection ey with ey
     cases Xr with
     | nil=>exact bi.ne rfl
     | cons z0 zs=>
       cases Y with
       | nil=>cases(dy ey).1
       | cons _ _=>cases(dy ey).1
    refine wG ⟨Xr,by rw[aP yl];exact ey,bi⟩ (Paired.imp' (λb kk ⟨cb,h1,h2⟩=>⟨cb,?_,h2⟩) ra);rw[aP (cy h2.ne h1)];exact B _ _ h1
  have a3:(Y++[ld]).length<sizeLine:=by
   have:=Paired.length ra;rw[aa,bI]at this;exact eJ (by have:=tW (λk=>d k+1) ks 0;have:ks.length<=(ks.map λk=>d k+1).sum:=M9 ks;lia)
  refine cU λM1 k1=>?_;walk_at "";refine⟨by lia,by lia,λpw b1=>?_⟩;have L:∀{b:Nat}{z:Int},b<=15000->z.natAbs<=2^b->z.natAbs<Ϧ:=λ{b z} hb hz=>hZ hz (by lia);refine qE (lo:=0) (n:=m.toNat) (λj J C H4=>δ H3 H4/\H4 pw=some (.lst J)/\J=((List.range j).map λg=>W k (υ (c k) g)).map V.int/\∃v,C=[v,some (V.ref t),some (V.int p),some (V.int k)]) ⟨δ.new _ b1,aw,rfl,_,rfl⟩ ?_ ?_
  .rintro j J C H4 N4 hN4 hj ⟨R,e4,rfl,v,rfl⟩;walk_at "";have X:=s3.trans R;refine⟨t,dx,w,tw,lr,kp,kd,fs,m,ps,rs,rv,pv,p,k,c k,j,cs,by rw[cW],X _ _ ht,fw,fr,WA.same X,hp,⟨I.k0,I.k1⟩,I.tl,I.c2,I.c1,X _ _ db,dg,X _ _ k2,X _ _ k3,kc.len,by lia,λx r=>L (ax _) (kc.bt x r),λf B=>⟨B _ _ e4,eJ (by rw[aa,aa,bI];lia),hN4 _ _ _ ⟨?_,aw,?_,_,rfl⟩⟩⟩
   .exact λb o e=>by rw[aP (b9 e b1)];exact B _ _ (R _ _ e)
   .rw[da,aB,aB,kc.val]
    rfl
  .rintro J C H4 ⟨R,e4,rfl,v,rfl⟩;refine k1 _ _ ?_;have X:=s3.trans R;have bm:∀j,j<m.toNat->(W k (υ (c k) j)).natAbs<=2^(d k*(25+20*d k)):=λj hj=>rM (F8 I.wk (aN (by decide) I.c2) I.c1 (by lia));have ci:d k*(25+20*d k)<=15000:=by
    have:=tE (d:=d) (ks:=k::S) (by lia);rw[wE]at this
    lia
   have bd:∀x∈(List.range m.toNat).map λg=>W k (υ (c k) g),x.natAbs<Ϧ:=λx r=>by
    obtain⟨j,hj,rfl⟩:=bz.mp r;exact L ci (bm j (cA.mp hj))
   have bS:Yc d S<=15000:=tE (by rw[az,aW]at dS;lia);have aT:∀{f:Hp},δ H4 f->ϥ ((Y++[ld]).map V.ref) (-1)=some (V.ref ld):=λ_=>by rw[aB];exact Jq _ _
   have a5:∀x∈k::S,uR (d x) (W x):=λx r=>ds x (aC x r);have a4:∀x∈k::S,1<=c x/\c x<=1000000:=λx r=>c0 x (aC x r);walk_at "";refine⟨t,dx,w,tw,lw,lb,fs,m,ps,rs,xs,cv,p,k,c k,ob,rfl,X _ _ ht,fw,fg,fb,WA.same X,X _ _ eg,xl,X _ _ eb,hp,⟨I.k0,I.k1⟩,b0,I.tl,by have:=I.c2;lia,by have:=I.c1;lia,⟨_,rfl,?_⟩⟩;subst hF;change if frK xs ob c p k=true then _ else _;have eN:((m.toNat:Nat):Int)=m:=bn (by lia);have a1:m.toNat<=24:=(by lia);have O:=R _ _ e3;have ac:=R _ _ dv;have XG:((List.range m.toNat).map λg=>W k (υ (c k) g)).length=m.toNat:=(by rw[aa,bI]);by_cases hf:frK xs ob c p k=true
   .rw[aj hf];refine⟨Xj O,Η O (aT (δ.refl _)) ⟨ld,cS,m.toNat,by rw[eN],μ.of ac,by have:=u.len;lia,by lia,λx r=>L bS (u.bt x r),λl5 f n5 B M=>?_⟩⟩;refine⟨pw,l5,_,_,rfl,μ.of (B _ _ e4),μ.of M,by rw[XG,aa,bI];exact ax _,by rw[XG];lia,bd,λx r=>?_,λl6 H6 n6 s6 e6=>?_⟩
    .obtain⟨j,hj,rfl⟩:=bz.mp r;rw[u.val];exact L (aN (DD d S) bS) (rM (Es a1 (λx r=>a5 x (.tail _ r)) (λx r=>a4 x (.tail _ r)) j (cA.mp hj)))
    .refine⟨l6,_,rfl,μ.of e6,by rw[aa,bI,XG];lia,λl7 H7 n7 s7 e7=>(Z l7 _ H7 (R.trans (B.trans (s6.trans s7))) e7 ?_ a3 _).2⟩;refine Mm a1 a5 a4 dS ?_;rw[XG];refine bX λn hn=>?_;have hn:=cA.mp hn;rw[tQ hf];exact Mh (λi hi=>zK (by lia)) λi hi=>by rw[zK (by lia),u.val]
   .rw[ah hf];refine⟨T.Tally,dx,fs,X _ _ ht,T.cZ,T.uw,_,fb,Η (X _ _ eb) (cB hp.1 b0) ⟨by cases ob<;>rfl,?_⟩⟩;obtain⟨rS,eh⟩:=u.head;by_cases hb:ob=some k
    .rw[aj (by rw[hb];rfl)];have ZT:beK ob k=true:=ba hb;refine⟨Xj O,⟨_,μ.of e4⟩,λpc Yo=>?_⟩;refine lW (K:=K) (c:=true) (a:=pw) (xs:=((List.range m.toNat).map λg=>W k (υ (c k) g)).map V.int) (λj J C f=>δ H4 f/\f pc=some (.lst J)/\J=((((List.range m.toNat).map λg=>W k (υ (c k) g)).take j).map λx=>x*ξ (frK xs ob c p) (beK ob) (λk g=>W k (υ (c k) g)) S 0).map V.int/\∃v,C=[v,some (V.ref l)]) ⟨δ.new _ Yo,aw,rfl,_,rfl⟩ (λj J C f _ ⟨z,_⟩=>μ.of (z _ _ e4)) ?_ ?_
     .rintro j x J C f N5 hN5 hj ⟨B,M,rfl,v,rfl⟩;obtain⟨z,hz,rfl⟩:=List.θ hj;have et:((List.range m.toNat).map λg=>W k (υ (c k) g)).take (j+1)=((List.range m.toNat).map λg=>W k (υ (c k) g)).take j++[z]:=(by rw[bQ,hz];rfl);walk_at "";refine Η (B _ _ O) (aT (δ.refl _)) (Η (v:=V.int (ξ (frK xs ob c p) (beK ob) (λk g=>W k (υ (c k) g)) S 0)) (B _ _ ac) (cB (bC 0) (by rw[eh];rfl)) ⟨_,rfl,qR (bd z (aJ hz)) (L bS (u.bt _ (by rw[eh];exact .head _))),M,eJ (by rw[aa,aa,bg,XG];lia),hN5 _ _ _ ⟨?_,aw,?_,_,rfl⟩⟩)
      .exact λb o e=>by rw[aP (b9 e Yo)];exact B _ _ e
      .rw[et,aB,aB]
       rfl
     .rintro J C f ⟨B,M,rfl,v,rfl⟩;rw[aa,XG,df (by rw[XG];exact ax _)]at M;refine⟨pc,_,rfl,μ.of M,by rw[aa,XG];lia,λl7 H7 n7 s7 e7=>(Z l7 _ H7 (R.trans (B.trans s7)) e7 ?_ a3 _).2⟩;refine Mm a1 a5 a4 dS ?_;rw[kT];refine bX λn hn=>?_;rw[t9 hf ZT]
      rfl
    .rw[ah (λz=>hb (by cases ob with
      | none=>cases z
      | some j=>injection z with z;rw[z]))]
     have ZT:¬beK ob k=true:=(by unfold beK;rw[b4];exact hb);have e2:m.toNat=(m.toNat-1)+1:=(by lia);have w0:∀{f:Hp},δ H4 f->f pw=some (.lst (((List.range m.toNat).map λg=>W k (υ (c k) g)).map V.int)):=λs=>s _ _ e4;have a0:ϥ (((List.range m.toNat).map λg=>W k (υ (c k) g)).map V.int) 0=some (V.int (W k (υ (c k) 0))):=cB (bC 0) (by
      show(((List.range m.toNat).map λg=>W k (υ (c k) g)).map V.int)[0]?=_;rw[aH,aH,fT (by lia)]
      rfl)
     refine⟨Xj O,Η O (aT (δ.refl _)) ⟨ld,rfl,⟨_,μ.of ac⟩,λpc Yo=>?_⟩⟩;refine lW (K:=K) (c:=true) (a:=ld) (xs:=cS.map V.int) (λj J C f=>δ H4 f/\f pc=some (.lst J)/\J=((cS.take j).map λx=>W k (υ (c k) 0)*x).map V.int/\∃v,C=[v,some (V.ref pw)]) ⟨δ.new _ Yo,aw,rfl,_,rfl⟩ (λj J C f _ ⟨z,_⟩=>μ.of (z _ _ ac)) ?_ ?_
     .rintro j x J C f N5 hN5 hj ⟨B,M,rfl,v,rfl⟩;obtain⟨z,hz,rfl⟩:=List.θ hj;have et:cS.take (j+1)=cS.take j++[z]:=(by rw[bQ,hz];rfl);have cl:=u.len;walk_at "";refine Η (w0 B) a0 ⟨_,rfl,qR (L ci (bm 0 (by lia))) (L bS (u.bt z (aJ hz))),M,eJ (by rw[aa,aa,bg];lia),hN5 _ _ _ ⟨?_,aw,?_,_,rfl⟩⟩
      .exact λb o e=>by rw[aP (b9 e Yo)];exact B _ _ e
      .rw[et,aB,aB]
       rfl
     .rintro J C f ⟨B,M,rfl,v,rfl⟩;rw[aa,bo]at M;exact(Z pc _ f (R.trans B) M (Su I.wk (aN (by decide) I.c2) I.c1 hf ZT u) a3 _).2
 .rintro C H3 ⟨s3,⟨Y,ld,e3,ra⟩,v4,v5,rfl⟩;refine h2 _ _ ?_;unfold Ry;walk_at "";rw[aa]at ra;refine⟨_,μ.of e3,λl2 be=>?_⟩;have R:=δ.new (HO.lst ((Y++[ld]).map V.ref).reverse) be;refine q l2 (Y++[ld]).reverse _ (s3.free be) (s3.trans R) (by rw[aw,d9]) ?_;have e:ZI ks=((List.range (ks.length+1)).map λj=>ks.drop (ks.length-j)).reverse:=by rw[<-Jj,jK]
  rw[e];exact JC (Paired.imp' (λb kk ⟨cb,h1,h2⟩=>⟨cb,R _ _ h1,h2⟩) ra)
def kR(p ld b c a d:Addr):List (Str×V):=bA "rests" (.ref d) (bA "kids" (.ref a) (bA "bearers" (.ref c) (bA "weights" (.ref b) (bA "down" (.ref ld) (bA "web" (.ref p) [])))))
theorem pH(p ld c d b a:Addr):(kR p ld c d b a).lookup ("rests":Str)=some (.ref a):=by
 unfold kR;rw[cQ,aj rfl]
theorem qD(p ld b c a d:Addr):(kR p ld b c a d).lookup ("kids":Str)=some (.ref a):=by
 unfold kR;rw[cQ,ah (by decide +kernel),cQ,aj rfl]
theorem wT(p ld c a b d:Addr):(kR p ld c a b d).lookup ("bearers":Str)=some (.ref a):=by
 unfold kR;rw[cQ,ah (by decide +kernel),cQ,ah (by decide +kernel),cQ,aj rfl]
theorem wW(p ld a c b d:Addr):(kR p ld a c b d).lookup ("weights":Str)=some (.ref a):=by
 unfold kR;rw[cQ,ah (by decide +kernel),cQ,ah (by decide +kernel),cQ,ah (by decide +kernel),cQ,aj rfl]
theorem qu(p ld b c a d:Addr):(kR p ld b c a d).lookup ("down":Str)=some (.ref ld):=by
 unfold kR;rw[cQ,ah (by decide +kernel),cQ,ah (by decide +kernel),cQ,ah (by decide +kernel),cQ,ah (by decide +kernel),cQ,aj rfl]
theorem pT(p ld b c a d:Addr):(kR p ld b c a d).lookup ("web":Str)=some (.ref p):=by
 unfold kR;rw[cQ,ah (by decide +kernel),cQ,ah (by decide +kernel),cQ,ah (by decide +kernel),cQ,ah (by decide +kernel),cQ,ah (by decide +kernel),cQ,aj rfl]
def ϗ(m:Int)(c:hT)(r:Int)(a:fc)(b:fz)(d:eu)(k:Int):Bool:=decide (ν m c r a b k*tup c a k=ν m c r a b (a k))&&decide (oK m c r a b d (a k)≠some k)
def Ϝ(m:Int)(c:hT)(r:Int)(a:fc)(b:fz)(d:eu)(k:Int):Bool:=decide (oK m c r a b d (a k)=some k)
def cK(b:hT)(a:fc)(k:Int):Nat:=(tup b a k).toNat
def ϯ(m:Int)(c:hT)(r:Int)(a:fc)(b:fz)(d:eu)(v:Int):Nat->Int:=wy m c r a b (ϗ m c r a b d) (Ϝ m c r a b d) (cK c a) v
structure ϒ(C O:Addr)(H:Hp)(o p t:Addr)(m:Int)(ps:g8)(rs:hT)(r:Int)(par:fc)(dep:fz)(tl:eu)(ld lw lb lk lr:Addr)(kl:g8)(rv:List V)(S:Int->Prop):Prop where
 ob:∃dx,H o=some (.ins O dx (kR p ld lw lb lk lr))
 web:ο C H p m t ps rs
 rt:ε m rs r par dep
 et:bO m rs r par dep r=r::tl
 or:Order m r par tl
 hd:H ld=some (.lst ((bO m rs r par dep r).map V.int))
 hw:H lw=some (.lst ((cJ m rs r par dep).map V.int))
 hb:H lb=some (.lst (ZR m (oK m rs r par dep tl)))
 hk:H lk=some (.lst (kl.map V.ref))
 kp:Paired (λa v=>H a=some (.lst ((kd m rs r par v).map V.int))) kl (cY m.toNat)
 hr:H lr=some (.lst rv)
 rl:rv.length=m.toNat
 rn:∀x∈rv,x=.π\/∃a,x=.ref a
 ϖ:∀v,S v->0<=v/\∃(lp:Addr)(ϫ:g8),rv[v.toNat]?=some (.ref lp)/\lp≠lr/\H lp=some (.lst (ϫ.map V.ref))/\uq H (Yc (oR m rs r par dep)) (ξ (ϗ m rs r par dep tl) (Ϝ m rs r par dep tl) (λk g=>ϯ m rs r par dep tl k (υ (cK rs par k) g))) ϫ (ZI (kd m rs r par v))
theorem ϒ.same{C O:Addr}{H n:Hp}{o p t:Addr}{m:Int}{f:g8}{g:hT}{r:Int}{par:fc}{c:fz}{tl:eu}{ld d k i s:Addr}{j:g8}{l:List V}{S:Int->Prop}(e:δ H n)(h:ϒ C O H o p t m f g r par c tl ld d k i s j l S):ϒ C O n o p t m f g r par c tl ld d k i s j l S where
 ob:=let ⟨dx,q⟩:=h.ob;⟨dx,e _ _ q⟩
 web:=h.web.same e
 rt:=h.rt
 et:=h.et
 or:=h.or
 hd:=e _ _ h.hd
 hw:=e _ _ h.hw
 hb:=e _ _ h.hb
 hk:=e _ _ h.hk
 kp:=Paired.imp' (λ_ _ z=>e _ _ z) h.kp
 hr:=e _ _ h.hr
 rl:=h.rl
 rn:=h.rn
 ϖ:=λv hv=>let ⟨v0,lp,ϫ,h1,h2,h3,h4⟩:=h.ϖ v hv;⟨v0,lp,ϫ,h1,h2,e _ _ h3,Paired.imp' (λ_ _ ⟨u,a,b⟩=>⟨u,e _ _ a,b⟩) h4⟩
theorem ο.ZM{C O:Addr}{H c:Hp}{o p:Addr}{m:Int}{t a:Addr}{f:g8}{d:hT}(e:ZS o H c)(b:H o=some (.ins O a []))(h:ο C H p m t f d):ο C c p m t f d:=⟨let ⟨a,q⟩:=h.ob;⟨a,e _ _ q (iR q b (by intro z;cases z))⟩,e _ _ h.tu (iR h.tu b (by intro z;cases z)),Paired.imp' (λq x z=>e _ _ z (iR z b (by intro z;cases z))) h.ro,h.go⟩
theorem ϒ.put{C O:Addr}{H:Hp}{o p t:Addr}{m:Int}{ps:g8}{j:hT}{r:Int}{a:fc}{d:fz}{F:eu}{ld L X N i:Addr}{R:g8}{B:List V}{S:Int->Prop}(h:ϒ C O H o p t m ps j r a d F ld L X N i R B S)(υ:ld≠i)(J:L≠i)(T:X≠i)(Z:N≠i)(Y:∀q∈R,q≠i){v:Int}(v0:0<=v)(v1:v<m)(hS:∀c,S c->c≠v){l:Addr}{A:g8}(nl:l≠i)(hl:H l=some (.lst (A.map V.ref)))(ra:uq H (Yc (oR m j r a d)) (ξ (ϗ m j r a d F) (Ϝ m j r a d F) (λk g=>ϯ m j r a d F k (Pb.υ (cK j a k) g))) A (ZI (kd m j r a v))):ϒ C O (upd H i (.lst (B.set v.toNat (.ref l)))) o p t m ps j r a d F ld L X N i R (B.set v.toNat (.ref l)) (λc=>c=v\/S c):=by
 have vm:v.toNat<B.length:=by rw[h.rl];lia
 have ne:∀{y:Addr}{s:eu},s≠[]->H y=some (.lst (s.map V.int))->y≠i:=λ{y s} cn hy z=>by
  rw[z,h.hr]at hy;injection hy with hy
  injection hy with hy
  cases s with
  | nil=>exact cn rfl
  | cons c0 s=>
    rcases h.rn (.int c0) (by rw[hy];exact .head _)with e|⟨_,e⟩<;>cases e
 have up:∀{b:Addr}{x:HO},H b=some x->b≠i->upd H i (.lst (B.set v.toNat (.ref l))) b=some x:=λe n=>by rw[aP n];exact e
 have E:∀{A:g8}{D:List (List Int)}{b:List Int->Nat}{f:List Int->Nat->Int},uq H b f A D->uq (upd H i (.lst (B.set v.toNat (.ref l)))) b f A D:=λQ=>Paired.imp' (λy kk ⟨s,I,G⟩=>⟨s,up I (ne G.ne I),G⟩) Q;obtain⟨dx,ob⟩:=h.ob;have W:=h.web;obtain⟨dw,wb⟩:=W.ob;refine⟨⟨dx,up ob (iR ob h.hr (by intro z;cases z))⟩,⟨⟨dw,up wb (iR wb h.hr (by intro z;cases z))⟩,up W.tu (iR W.tu h.hr (by intro z;cases z)),Paired.imp' (λq x e=>up e (iR e h.hr (by intro z;cases z))) W.ro,W.go⟩,h.rt,h.et,h.or,up h.hd υ,up h.hw J,up h.hb T,up h.hk Z,DC (λq x hq e=>up e (Y q hq)) h.kp,aw,by rw[dB];exact h.rl,λx M=>?_,λu hu=>?_⟩
 .rcases fQ M with M|rfl
  .exact h.rn x M
  .exact .inr ⟨l,rfl⟩
 .rcases hu with rfl|hu
  .exact⟨v0,l,A,gG vm,nl,up hl nl,E ra⟩
  .obtain⟨u0,lp,aks,I,G,h3,h4⟩:=h.ϖ u hu;refine⟨u0,lp,aks,?_,G,up h3 G,E h4⟩;rw[dZ (by have:=hS u hu;lia)];exact I
def me(T:Txt K U):Sp:=λk H Q _=>E8 λ(o h p t:Addr)(m:Int)(f:g8)(d:hT)(r:Int)=>k=[.ref o,.ref p,.int r]/\H o=some (.ins T.Tally h [])/\ο T.Web H p m t f d/\(0<=r/\r<m)/\∃c a,ε m d r c a/\∀i ld g n j s l q e,ϒ T.Web T.Tally e o p t m f d r c a i ld g n j s l q (λv=>0<=v/\v<m)->(∀b x,H b=some x->b≠o->e b=some x)->Q .π e
abbrev eL:Stmt:=Ju (top 56) 0
theorem yQ:ζ ["self","web","r","place"] ["self","web","r"] (aG eL):=.of
theorem rY:Ϙ (aG eL) "enumerate":=.of (by kernel_rfl)
theorem sj:Ϙ (aG eL) "reversed":=.of (by kernel_rfl)
theorem yP(T:Txt K U)(hq:b6 (Β P w)){f:Addr}{fd:FuncData}(F:Y2 K "__init__" "Tally.__init__" eL f fd)(oU:i6 P w base T)(xT:Cb P w K U base "bearers" rT ["web","r"] 9 (Cy T))(vE:Cb P w K U base "down" vN ["web","r"] 6 (DG T))(ng:i5 P w base T)(gA:ka P w base T)(wB:Cb P w K U base "rests_of" jB ["tally","place"] 7 (y7 T)):Ψ P w K U base (Β P w) 10 f fd ["self","web","r"] (me T):=by
 refine F.ό yQ (by walk_at "v") λτ A ef s H vs Q E hr h=>?_;obtain⟨o,C,p,t,m,ps,B,r,rfl,ho,W,rr,par,d,R,k⟩:=h;have g:=W.go;have Θ:=g.Θ;refine⟨_,(ap (r9 (γ 0) (Ϭ 1) rfl) (ap (r9 (γ 0) (Ζ vE hr hq (ag (Ϭ 1) (ag (γ 2) ay))) rfl) (ap (r9 (γ 0) (Ζ gA hr hq (ag (Ϭ 1) (ag (γ 2) ay))) rfl) (ap (r9 (γ 0) (Ζ xT hr hq (ag (Ϭ 1) (ag (γ 2) ay))) rfl) (ap (r9 (γ 0) (jv rfl (Zn ["place","front","web"] 2 [1]) (yq true rY.g T.enumerate (Ζ oU hr hq (ag (Ϭ 1) (ag (γ 2) ay)))) (λ_ _ _ _=>(Js K rfl (n:=2) rfl (cG (fe (i:=0) (show(["place","front","web"]:hL).Nodup from by decide +kernel) rfl (Or.inl rfl)) (cG (fe (i:=1) (show(["place","front","web"]:hL).Nodup from by decide +kernel) rfl (Or.inl rfl)) iA)))) (λ_ _ _ _=>lu) (λ_ _ _ _=>(qX ng.G (hr.mono (by decide)) (by rfl) ng.D.m ng.D.F.kp ng.D.b .nil (uz hq) (ag (pv 2) (ag (pv 0) (ag (pv 1) ay)))))) rfl) (ap (r9 (γ 0) (aZ qA (eI (ag B9 ay)) (dz (Ϭ 1) rfl)) rfl) (aM (fq PassesOwn.never rfl (rN sj.g T.reversed (dz (γ 0) rfl)) (ϓ 3) (aM (mw (Ζ wB hr hq (ag (γ 0) (ag (γ 3) ay))) (ow (dz (γ 0) rfl) (γ 3) jT))))))))))),?_⟩;walk_at "s";walk_at "";refine⟨T.Tally,C,[],ho,T.cZ,T.Ge,by decide,?_⟩;have k1:ZS o H (upd H o (.ins T.Tally C (bA "web" (.ref p) []))):=ZS.refl.put _;have o1:upd H o (.ins T.Tally C (bA "web" (.ref p) [])) o=some (.ins T.Tally C (bA "web" (.ref p) [])):=aw;generalize upd H o (.ins T.Tally C (bA "web" (.ref p) []))=H1 at k1 o1 ⊢;refine⟨p,t,m,ps,B,r,rfl,W.ZM k1 ho,λ_ _=>⟨par,d,R,λld H2 n2 s2 e2 c6 cr=>?_⟩,λz=>absurd rr z⟩;dsimp only;have a6:∀{a:Addr}{G:Hp}{x:HO},G o=some x->G a=none->a≠o:=λh1 h2 z=>by rw[z,h1]at h2;cases h2
 refine⟨T.Tally,C,_,s2 _ _ o1,T.cZ,T.vd,by show 1<1000;decide,?_⟩;have ai:ld≠o:=a6 o1 n2;have k3:=(k1.then s2).put (.ins T.Tally C (bA "down" (.ref ld) (bA "web" (.ref p) [])));have o3:upd H2 o (.ins T.Tally C (bA "down" (.ref ld) (bA "web" (.ref p) []))) o=some (.ins T.Tally C (bA "down" (.ref ld) (bA "web" (.ref p) []))):=aw;have e3:upd H2 o (.ins T.Tally C (bA "down" (.ref ld) (bA "web" (.ref p) []))) ld=_:=(aP ai).trans e2;generalize upd H2 o (.ins T.Tally C (bA "down" (.ref ld) (bA "web" (.ref p) [])))=H3 at k3 o3 e3 ⊢;refine⟨p,t,m,ps,B,r,rfl,W.ZM k3 ho,λ_ _=>⟨par,d,R,λI H4 n4 s4 e4=>?_⟩,λz=>absurd rr z⟩;refine⟨T.Tally,C,_,s4 _ _ o3,T.cZ,T.X0,by show 2<1000;decide,?_⟩;have a1:I≠o:=a6 o3 n4;have k5:=(k3.then s4).put (.ins T.Tally C (bA "weights" (.ref I) (bA "down" (.ref ld) (bA "web" (.ref p) []))));have o5:upd H4 o (.ins T.Tally C (bA "weights" (.ref I) (bA "down" (.ref ld) (bA "web" (.ref p) [])))) o=some (.ins T.Tally C (bA "weights" (.ref I) (bA "down" (.ref ld) (bA "web" (.ref p) [])))):=aw;have a8:upd H4 o (.ins T.Tally C (bA "weights" (.ref I) (bA "down" (.ref ld) (bA "web" (.ref p) [])))) ld=_:=(aP ai).trans (s4 _ _ e3);have a7:upd H4 o (.ins T.Tally C (bA "weights" (.ref I) (bA "down" (.ref ld) (bA "web" (.ref p) [])))) I=_:=(aP a1).trans e4;generalize upd H4 o (.ins T.Tally C (bA "weights" (.ref I) (bA "down" (.ref ld) (bA "web" (.ref p) []))))=Y at k5 o5 a8 a7 ⊢;refine⟨p,t,m,ps,B,r,rfl,W.ZM k5 ho,λ_ _=>⟨par,d,R,λM J H6 et Or n6 s6 e6=>?_⟩,λz=>absurd rr z⟩;refine⟨T.Tally,C,_,s6 _ _ o5,T.cZ,T.uw,by show 3<1000;decide,?_⟩;have bi:J≠o:=a6 o5 n6;have k7:=(k5.then s6).put (.ins T.Tally C (bA "bearers" (.ref J) (bA "weights" (.ref I) (bA "down" (.ref ld) (bA "web" (.ref p) [])))));have o7:upd H6 o (.ins T.Tally C (bA "bearers" (.ref J) (bA "weights" (.ref I) (bA "down" (.ref ld) (bA "web" (.ref p) []))))) o=some (.ins T.Tally C (bA "bearers" (.ref J) (bA "weights" (.ref I) (bA "down" (.ref ld) (bA "web" (.ref p) []))))):=aw;have ck:upd H6 o (.ins T.Tally C (bA "bearers" (.ref J) (bA "weights" (.ref I) (bA "down" (.ref ld) (bA "web" (.ref p) []))))) ld=_:=(aP ai).trans (s6 _ _ a8);have cc:upd H6 o (.ins T.Tally C (bA "bearers" (.ref J) (bA "weights" (.ref I) (bA "down" (.ref ld) (bA "web" (.ref p) []))))) I=_:=(aP a1).trans (s6 _ _ a7);have cl:upd H6 o (.ins T.Tally C (bA "bearers" (.ref J) (bA "weights" (.ref I) (bA "down" (.ref ld) (bA "web" (.ref p) []))))) J=_:=(aP bi).trans e6;generalize upd H6 o (.ins T.Tally C (bA "bearers" (.ref J) (bA "weights" (.ref I) (bA "down" (.ref ld) (bA "web" (.ref p) [])))))=H7 at k7 o7 ck cc cl ⊢;have W3:=W.ZM k7 ho;clear k1 k3 k5 o1 o3 o5 e2 e3 e4 a8 a7 e6 s2 s4 s6 n2 n4 n6;refine⟨p,t,m,ps,B,r,rfl,W3,λ_ _=>⟨par,d,R,λla H4 n4 s4 e4=>⟨la,rfl,⟨_,μ.of e4⟩,λL a9=>?_⟩⟩,λz=>absurd rr z⟩;have eS:=s4.free a9;refine Mf (K:=K) (c:=true) (xs:=qI m r par) (λi ys σ Y=>δ H4 Y/\Y L=some (.lst ys)/\(∃kl:List Addr,ys=kl.map V.ref/\Paired (λa v=>Y a=some (.lst ((kd m B r par v).map V.int))) kl ((cY m.toNat).take i)/\∀q∈kl,q≠L)/\∃v w,σ=[v,w,some (V.ref p)]) ⟨δ.new _ a9,aw,⟨[],rfl,.nil,by simp⟩,_,_,rfl⟩ (λi ys σ Y z=>μ.of (z.1 _ _ e4)) ?_ ?_
 .rintro i x ys σ Y q N hN hx ⟨s5,e5,⟨kl,rfl,pk,hkq⟩,v,w,rfl⟩ nq;have il:i<m.toNat:=by
   have:=(ar.mp hx).1;unfold qI at this
   rwa [aa,cX]at this
  have ex:x=Pb.front r par (i:Int):=by
   have:=z9 (m:=m) (r:=r) (par:=par) (v:=(i:Int)) (by lia) (by lia);rw[show((i:Int)).toNat=i from rfl,hx]at this;exact br this
  have qe:=s5 _ _ e4;have s6:=δ.new (.tup [V.int i,x]) nq;have c4:=s5.trans s6;have et:(cY m.toNat).take (i+1)=(cY m.toNat).take i++[(i:Int)]:=by rw[bQ,f9 il];rfl
  have fy:kl.length<=24:=by
   have:=Paired.length pk;rw[bg]at this
   lia
  walk_at "";refine⟨_,Ι.of aw,rfl,_,_,rfl,_,_,rfl,rfl,?_⟩;refine⟨p,t,m,ps,B,i,x,rfl,W3.same (s4.trans c4),by lia,by lia,?_,λl6 H6 n6 s7 e7=>?_⟩
  .rw[ex];unfold Pb.front;split
   .exact .inl rfl
   .exact .inr ⟨_,rfl⟩
  have bd:=s6.trans s7;refine⟨bd _ _ e5,eJ (by rw[aa];lia),hN _ _ _ ⟨(s5.trans bd).put a9 _,aw,⟨kl++[l6],by rw[aB];rfl,?_,λq hq=>?_⟩,_,_,rfl⟩⟩;have nk:l6≠L:=λz=>by rw[z,s6 _ _ e5]at n6;cases n6
  rotate_left
  .rcases aV.mp hq with h|h
   .exact hkq q h
   .rw[aE.mp h];exact λz=>by rw[z,s6 _ _ e5]at n6;cases n6
  rw[et];refine wG (by rw[aP nk,e7,ex]) (DC (λq v hq h=>?_) pk);have e:q≠L:=λz=>hkq q hq z;rw[aP e];exact bd _ _ h
 .rintro ys σ Y ⟨s5,e5,⟨kl,rfl,pk,hkq⟩,v,w,rfl⟩;rw[show(qI m r par).length=m.toNat by unfold qI;rw[aa,cX],df (by rw[cX];exact ax _)]at pk;have o5:=s5 _ _ (s4 _ _ o7);have k5:=(k7.then s4).then s5;have bv:=s4.trans s5;refine⟨T.Tally,C,_,o5,T.cZ,T.rX,by show 4<1000;decide,by decide,λl1 n1=>?_⟩;have cd:L≠o:=λz=>by rw[z,o5]at e5;cases e5
  have k6:=k5.put (.ins T.Tally C (bA "kids" (.ref L) (bA "bearers" (.ref J) (bA "weights" (.ref I) (bA "down" (.ref ld) (bA "web" (.ref p) []))))));have o6:upd Y o (.ins T.Tally C (bA "kids" (.ref L) (bA "bearers" (.ref J) (bA "weights" (.ref I) (bA "down" (.ref ld) (bA "web" (.ref p) [])))))) o=some (.ins T.Tally C (bA "kids" (.ref L) (bA "bearers" (.ref J) (bA "weights" (.ref I) (bA "down" (.ref ld) (bA "web" (.ref p) [])))))):=aw;have e6:upd Y o (.ins T.Tally C (bA "kids" (.ref L) (bA "bearers" (.ref J) (bA "weights" (.ref I) (bA "down" (.ref ld) (bA "web" (.ref p) [])))))) L=_:=(aP cd).trans e5;have au:upd Y o (.ins T.Tally C (bA "kids" (.ref L) (bA "bearers" (.ref J) (bA "weights" (.ref I) (bA "down" (.ref ld) (bA "web" (.ref p) [])))))) ld=_:=(aP ai).trans (bv _ _ ck);have a2:upd Y o (.ins T.Tally C (bA "kids" (.ref L) (bA "bearers" (.ref J) (bA "weights" (.ref I) (bA "down" (.ref ld) (bA "web" (.ref p) [])))))) I=_:=(aP a1).trans (bv _ _ cc);have an:upd Y o (.ins T.Tally C (bA "kids" (.ref L) (bA "bearers" (.ref J) (bA "weights" (.ref I) (bA "down" (.ref ld) (bA "web" (.ref p) [])))))) J=_:=(aP bi).trans (bv _ _ cl);have a0:Paired (λa v=>upd Y o (.ins T.Tally C (bA "kids" (.ref L) (bA "bearers" (.ref J) (bA "weights" (.ref I) (bA "down" (.ref ld) (bA "web" (.ref p) [])))))) a=some (.lst ((kd m B r par v).map V.int))) kl (cY m.toNat):=Paired.imp' (λq v h=>by rw[aP (iR h o5 (by intro z;cases z))];exact h) pk;generalize upd Y o (.ins T.Tally C (bA "kids" (.ref L) (bA "bearers" (.ref J) (bA "weights" (.ref I) (bA "down" (.ref ld) (bA "web" (.ref p) []))))))=H6 at k6 o6 e6 au a2 an a0 n1 ⊢;have s7:=δ.new (.lst [V.π]) n1;obtain⟨eg,ca⟩:=(W.ZM k6 ho).ob;refine⟨T.Web,eg,_,s7 _ _ ca,T.lM,T.ϑ,_,kt _ _,?_⟩;refine⟨l1,m,[V.π],rfl,rfl,aw,by lia,by lia,cg (by simp;lia),λO cn=>?_⟩;rw[Ha];have s8:=s7.trans (δ.new (.lst (List.replicate m.toNat V.π)) cn);have i8:upd (upd H6 l1 (.lst [V.π])) O (.lst (List.replicate m.toNat V.π)) O=some (.lst (List.replicate m.toNat V.π)):=aw;have By:=s7.free cn;generalize upd (upd H6 l1 (.lst [V.π])) O (.lst (List.replicate m.toNat V.π))=H8 at s8 i8 ⊢;have o8:=s8 _ _ o6;refine⟨T.Tally,C,_,o8,T.cZ,T.Ϯ,by show 5<1000;decide,?_⟩;have k8:=(k6.then s8).put (.ins T.Tally C (kR p ld I J L O));have b2:O≠o:=λz=>by rw[z,o6]at By;cases By
  have X:ϒ T.Web T.Tally (upd H8 o (.ins T.Tally C (kR p ld I J L O))) o p t m ps B r par d M ld I J L O kl (List.replicate m.toNat V.π) (λ_=>False):=⟨⟨C,aw⟩,W.ZM k8 ho,R,et,Or,(aP ai).trans (s8 _ _ au),(aP a1).trans (s8 _ _ a2),(aP bi).trans (s8 _ _ an),(aP cd).trans (s8 _ _ e6),Paired.imp' (λq v h=>by rw[aP (iR h o6 (by intro z;cases z))];exact s8 _ _ h) a0,(aP b2).trans i8,by rw[bU],λx hx=>.inl (gB hx),λv z=>z.elim⟩
  have υ:ld≠O:=λz=>by rw[<-z,au]at By;cases By
  have ea:I≠O:=λz=>by rw[<-z,a2]at By;cases By
  have d2:J≠O:=λz=>by rw[<-z,an]at By;cases By
  have dS:L≠O:=λz=>by rw[<-z,e6]at By;cases By
  have dk:∀q∈kl,q≠O:=λq hq z=>by
   obtain⟨v,hv⟩:=JO a0 hq;rw[z,By]at hv;cases hv
  have eh:H O=none:=by
   cases e:H O with
   | none=>rfl
   | some x=>rw[k6 _ _ e b2]at By;cases By
  have k9:=k8;change ∃x c3 d0,upd H8 o (.ins T.Tally C (kR p ld I J L O)) o=some (HO.ins x c3 d0)/\_;obtain⟨H9,bS⟩:∃H9,H9=upd H8 o (.ins T.Tally C (kR p ld I J L O)):=⟨_,rfl⟩;refine⟨T.Tally,C,_,aw,T.cZ,T.vd,_,qu p ld I J L O,ld,rfl,_,μ.of X.hd,?_⟩;rw[<-bS]at X k9;change sO _ _ _ _ _ (upd H8 o (.ins T.Tally C (kR p ld I J L O)));rw[<-bS];clear bS k8 i8 s8 s7 n1 a0 e6 au a2 an o6 k6 k5 o5 o8 ca;refine pN (K:=K) (xs:=(bO m B r par d r).map V.int) (λi σ ab=>ZS o H ab/\∃(rv:List V)(v3:Option V),ϒ T.Web T.Tally ab o p t m ps B r par d M ld I J L O kl rv (λv=>v∈(bO m B r par d r).reverse.take i)/\σ=[some (V.ref o),some (V.ref p),some (V.int r),v3]) ⟨k9,List.replicate m.toNat V.π,none,?_,rfl⟩ (λi σ ab _ ⟨_,rv,v3,z,_⟩=>μ.of z.hd) ?_ ?_
  .exact⟨X.ob,X.web,X.rt,X.et,X.or,X.hd,X.hw,X.hb,X.hk,X.kp,X.hr,X.rl,X.rn,λv hv=>by cases hv⟩
  .rintro i x σ ab N hN hx ⟨k10,rv,v3,Xb,rfl⟩;rw[<-d9]at hx;obtain⟨v,hv,rfl⟩:=List.θ hx;have S:=(cr v).mp (dM.mp (aJ hv));have dr:∀k∈kd m B r par v,k∈(bO m B r par d r).reverse.take i:=by
    rw[et]at hv ⊢;exact ME g R Or hv S.1 S.2
   have dV:(cY m.toNat)[v.toNat]?=some v:=by
    rw[f9 (by lia),bn S.1]
   obtain⟨Ϸ,Yg,Xd⟩:=uf Xb.kp dV;obtain⟨dp,dd⟩:=Xb.ob;have cf:∀k∈kd m B r par v,frK (cJ m B r par d) (oK m B r par d M v) (cK B par) v k=ϗ m B r par d M k/\beK (oK m B r par d M v) k=Ϝ m B r par d M k:=λk hk=>by
    have w:=(bB g R S.1 S.2).mp hk;have ec:((cK B par k:Nat):Int)=tup B par k:=bn (by have:=(gP g R w.1.1 w.1.2 w.2.1).1;lia);unfold frK ϗ beK Ϝ;rw[ec,w.2.2,show(cJ m B r par d).getD k.toNat 0=ν m B r par d k from fD w.1.1 w.1.2,show(cJ m B r par d).getD v.toNat 0=ν m B r par d v from fD S.1 S.2];exact⟨rfl,rfl⟩
   walk_at "";refine⟨o,dp,p,t,I,J,L,O,Ϸ,_,m,ps,B,cJ m B r par d,_,_,rv,v,kd m B r par v,oK m B r par d M v,ϯ m B r par d M,cK B par,oR m B r par d,rfl,dd,pT _ _ _ _ _ _,wW _ _ _ _ _ _,wT _ _ _ _ _ _,qD _ _ _ _ _ _,pH _ _ _ _ _ _,Xb.web,Xb.hw,?_,Xb.hb,Xb.hk,Xb.hr,S,?_,?_,Xd,?_,?_,?_⟩
   .have:(cJ m B r par d).length=m.toNat:=mC
    lia
   .exact(M6 S.1).symm.trans (Jx S.1 S.2)
   .rw[aH,Yg]
    rfl
   .intro k hk;have w:=(bB g R S.1 S.2).mp hk;obtain⟨k',tk,t2,t6⟩:=lm g R w.1.1 w.1.2 w.2.1;have ZN:tup B par k=k':=by
     unfold tup;rw[tk]
     rfl
    have ek:((cK B par k:Nat):Int)=k':=by
     unfold cK;rw[ZN];exact bn (by lia)
    obtain⟨_,lp,ϫ,h1,h2,h3,h4⟩:=Xb.ϖ k (dr k hk);have ei:=ms (fr:=ϗ m B r par d M) (be:=Ϝ m B r par d M) (c:=cK B par) g R w.1.1 w.1.2;refine⟨w.1.1,w.1.2,by rw[ek,<-w.2.2];exact tk,by lia,by lia,Ci g R (λu u0 u1 ur=>?_) (m.toNat-d k) w.1.1 w.1.2 (ax _),?_⟩
    .have:=gP g R u0 u1 ur;unfold cK
     lia
    .obtain⟨sr,es⟩:=wc (kd m B r par k);rw[es]at h4;cases h4 with
     | cons e he=>
       obtain⟨cs,c1,c2⟩:=e;refine⟨lp,_,_,cs,h1,h3,c1,?_⟩;have:=c2.le (b':=15000) (tE (by have:=jA g R w.1.1 w.1.2;have:=py g R w.1.1 w.1.2;lia));refine⟨this.ne,this.len,this.bt,λn=>(this.val n).trans ?_⟩;show _=wy m B r par d (ϗ m B r par d M) (Ϝ m B r par d M) (cK B par) k n;rw[ei]
       rfl
   .rw[jA g R S.1 S.2];exact py g R S.1 S.2
   .intro l ϫ H11 nl s11 e11 ra;have av:=Xb.same s11;obtain⟨dg,aC⟩:=av.ob;have d1:l≠O:=λz=>by rw[z,Xb.hr]at nl;cases nl
    have c5:uq H11 (Yc (oR m B r par d)) (ξ (ϗ m B r par d M) (Ϝ m B r par d M) (λk g=>ϯ m B r par d M k (Pb.υ (cK B par k) g))) ϫ (ZI (kd m B r par v)):=Fs (λa YT b3 ⟨cs,c1,c2⟩=>⟨cs,c1,by
     have e:=xM (fr:=frK (cJ m B r par d) (oK m B r par d M v) (cK B par) v) (be:=beK (oK m B r par d M v)) (ws:=λk g=>ϯ m B r par d M k (Pb.υ (cK B par k) g)) (fr':=ϗ m B r par d M) (be':=Ϝ m B r par d M) (ws':=λk g=>ϯ m B r par d M k (Pb.υ (cK B par k) g)) (ks:=YT) λk hk=>⟨(cf k (Ds b3 k hk)).1,(cf k (Ds b3 k hk)).2,rfl⟩;rw[<-e];exact c2⟩) ra
    refine⟨T.Tally,dg,_,aC,T.cZ,T.Ϯ,_,pH _ _ _ _ _ _,tY av.hr S.1 (by rw[av.rl];lia) (hN _ _ ⟨?_,rv.set v.toNat (.ref l),some (V.int v),?_,rfl⟩)⟩
    .exact λb y hb nb=>by rw[aP (b9 hb eh)];exact s11 _ _ (k10 b y hb nb)
    .have nv:∀u,u∈(bO m B r par d r).reverse.take i->u≠v:=λu hu z=>by
      have nd:(bO m B r par d r).reverse.Nodup:=((List.reverse_perm _).nodup_iff).mpr c6;have il:=(ar.mp hv).1;rw[z]at hu;obtain⟨j,hj⟩:=cR hu;have jl:=(ar.mp hj).1;rw[bg]at jl;rw[iJ (by lia)]at hj;have:=(fH (by lia) nd).mp (hj.trans hv.symm)
      lia
     have Z:=av.put υ ea d2 dS dk S.1 S.2 nv d1 e11 c5;refine⟨Z.ob,Z.web,Z.rt,Z.et,Z.or,Z.hd,Z.hw,Z.hb,Z.hk,Z.kp,Z.hr,Z.rl,Z.rn,λu hu=>Z.ϖ u ?_⟩;rw[bQ,hv]at hu;rcases aV.mp hu with hu|hu
     .exact .inr hu
     .exact .inl (by simpa using hu)
  .rintro σ ab ⟨k10,rv,v3,Xb,rfl⟩;refine k M ld I J L O kl rv ab ⟨Xb.ob,Xb.web,Xb.rt,Xb.et,Xb.or,Xb.hd,Xb.hw,Xb.hb,Xb.hk,Xb.kp,Xb.hr,Xb.rl,Xb.rn,λv hv=>Xb.ϖ v ?_⟩ k10;rw[aa,<-aU,bo,dM];exact(cr v).mpr hv
def qF(T:Txt K U):Sp:=λa H Q E=>E7 λ(p t:Addr)(m:Int)(c:g8)(b:hT)(r x:Int)=>a=[.ref p,.int r,.int x]/\ο T.Web H p m t c b/\(0<=r->r<m->1<=x->Q .π H)/\(¬(0<=r/\r<m)->E (.ref T.NoPlace) none H)/\(0<=r->r<m->x<1->E (.ref T.BadWish) none H)
abbrev kG:Stmt:=top 38
theorem AM:ζ ["web","r","wanted"] ["web","r","wanted"] (aG kG):=.of
theorem o0:Ϙ (aG kG) "BadWish":=.of (by kernel_rfl)
theorem Cw(T:Txt K U)(o:b6 (Β P w))(n:iy P w base T):Ok P w K U base "check_wanted" kG ["web","r","wanted"] 3 (qF T):=λ_ _ D=>by
 refine D.F.XU AM (by walk_at "v") λq A a s H u Q E l h=>?_;obtain⟨p,t,m,f,i,r,x,rfl,W,k,e,j⟩:=h;refine⟨_,(ap (dI (ϛ n l dW (ag (γ 0) (ag (γ 1) ay)))) (aM (dG (Ϫ rJ (γ 2) aL) (aM (pP T.ya rfl qY o0.g T.Ni (ag nO ay) (hdb:=o0.d))) cN))),?_⟩;walk_at "s";walk_at "";refine⟨p,t,m,f,i,r,rfl,W,λb c=>?_,e⟩;show if x<1 then _ else _;by_cases z:x<1
 .rw[aj z];exact⟨by decide,j b c z⟩
 .rw[ah z];exact k b c (by lia)
def y6(T:Txt K U):Sp:=λi H Q E=>E10 λ(p b t:Addr)(c:Bool)(m:Int)(h:g8)(e:hT)(d:eu)(r w:Int)=>i=[.ref p,.int r,.int w,.ref b]/\ο T.Web H p m t h e/\ϣ K c H b (d.map V.int)/\(d.length:Int)=m/\(∀x∈d,x.natAbs<2^4000)/\(w-1).natAbs<2^4000/\(0<=r->r<m->1<=w->∃a f,ε m e r a f/\∀g,δ H g->Q (.int (ϡ m e r a d w)) g)/\(¬(0<=r/\r<m)->E (.ref T.NoPlace) none H)/\(0<=r->r<m->w<1->E (.ref T.BadWish) none H)
abbrev qB:Stmt:=top 37
theorem zr:ζ ["web","r","wanted","weights","bound","place","front"] ["web","r","wanted","weights"] (aG qB):=.of
theorem yX:ZE (aG qB) "bound":=.of (by kernel_rfl)
abbrev oe(P w base)(T:Txt K U):=Cb P w K U base "check_wanted" kG ["web","r","wanted"] 3 (qF T)
theorem Hu(T:Txt K U)(hq:b6 (Β P w))(kF:oe P w base T)(jW:jy P w base T)(kN:jm P w base T):Ok P w K U base "bound_by" qB ["web","r","wanted","weights"] 8 (y6 T):=λ_ _ D=>by
 refine D.F.XU zr (by walk_at "v") λτ A J s H vs Q E L h=>?_;obtain⟨p,b,t,c,m,B,j,xs,r,w,rfl,W,hb,xl,xb,wb,k,e,e'⟩:=h;have g:=W.go;refine⟨_,(ap (dI (ϛ kF L dW (ag (γ 0) (ag (γ 1) (ag (γ 2) ay))))) (ap (ψ 4 (aZ nj (Ε (Hj c) (γ 3) (γ 1)) (aZ fU (γ 2) aL))) (ap (fq PassesOwn.leaving rfl (gQ (ϛ jW L dW (ag (γ 0) (ag (γ 1) ay)))) (j0 (n:=2) rfl (cG (ϓ 5) (cG (ϓ 6) iA))) (aM (tH (i:=4) zr.nd rfl (Or.inl yX.l) (aZ kO (Ε (Hj c) (γ 3) (γ 5)) (aZ fU (ϛ kN L dW (ag (γ 0) (ag (γ 5) (ag (γ 6) ay)))) aL)) xU))) (aM (bL (γ 4)))))),?_⟩;walk_at "s";walk_at "";refine⟨p,t,m,B,j,r,w,rfl,W,λy Z w1=>?_,e,e'⟩;obtain⟨a,S,R,k⟩:=k y Z w1;have gr:=eQ (xs:=xs) y (by lia);have hm:=J4 (cs:=xs) (i:=r.toNat) (by lia);refine ixX hb gr ⟨_,rfl,Nm (xb _ hm) wb,?_⟩;refine⟨p,t,m,B,j,r,?_⟩;refine an4 rfl W (λ_ _=>⟨a,S,R,λl2 qs tl H2 _ n2 X e2 Y O=>?_⟩) (λz=>absurd ⟨y,Z⟩ z);refine⟨l2,rfl,⟨_,μ.of e2⟩,?_⟩;have ql:qs.length=tl.reverse.length:=Paired.length Y;refine mL (K:=K) (xs:=qs.map V.ref) (λi f o=>o=H2/\∃(C I:Option V),f=[some (V.ref p),some (V.int r),some (V.int w),some (V.ref b),some (V.int (xs.getD r.toNat 0*(w-1)+((tl.reverse.take i).map (Y5 j a xs)).sum)),C,I]) ⟨rfl,_,_,by rw[d7,dQ,List.sum_nil,lI]⟩ (λi f o _ z=>by rw[z.1];exact μ.of e2) ?_ ?_
 .rintro i x f o N BB Ϥ hN hx ⟨rfl,C,I,rfl⟩;refine Ϥ _ _ ?_;obtain⟨q,v,rfl,hq,hv,eq⟩:=Y.get hx;have G:=dM.mp (aJ hv);have d:=O.Λ v G;have u:=R.up v d.1 d.2 (O.ne G);obtain⟨kk,M,k0,k1⟩:=lm g R d.1 d.2 (O.ne G);walk_at "";refine⟨_,Ι.of eq,rfl,_,_,rfl,_,_,rfl,rfl,?_⟩;refine ixX (δ.XR X hb) (eQ d.1 (by lia)) ?_;refine⟨p,t,m,B,j,v,a v,rfl,W.same X,λk' _ _ _ _ h=>?_,λz=>absurd ⟨d,u.1⟩ z,λ_ _ _ _ z=>by rw[M]at z;cases z⟩;rw[M]at h;cases h;refine⟨_,rfl,_,rfl,.inr ⟨by lia,by lia⟩,hN _ _ ⟨rfl,some (V.int v),some (V.int (a v)),?_⟩⟩;rw[AB hv];unfold Y5;rw[M,Int.add_assoc]
  rfl
 .rintro BB f o Ϥ ⟨rfl,C,I,rfl⟩;refine Ϥ _ _ ?_;rw[aa,ql,bo,d9,List.sum_reverse,O.sums];walk_at "";exact k _ X
def xh(T:Txt K U):Sp:=λe H Q E=>E7 λ(p t:Addr)(m:Int)(f:g8)(d:hT)(r w:Int)=>e=[.ref p,.int r,.int w]/\ο T.Web H p m t f d/\w<=10^60/\-(10^60)<=w/\(0<=r->r<m->1<=w->∃b c,ε m d r b c/\∀a,δ H a->Q (.int (ϡ m d r b (cJ m d r b c) w+1)) a)/\(¬(0<=r/\r<m)->∀a,δ H a->E (.ref T.NoPlace) none a)/\(0<=r->r<m->w<1->∀a,δ H a->E (.ref T.BadWish) none a)
abbrev uh:Stmt:=top 40
theorem LY:ζ ["web","r","wanted"] ["web","r","wanted"] (aG uh):=.of
theorem LQ(T:Txt K U)(L:b6 (Β P w))(y:Cb P w K U base "bound_by" qB ["web","r","wanted","weights"] 8 (y6 T))(x:ka P w base T):Ok P w K U base "enough" uh ["web","r","wanted"] 9 (xh T):=λ_ _ D=>by
 refine D.F.XU LY (by walk_at "v") λM A n s H N Q E u h=>?_;obtain⟨p,t,m,f,a,r,w,rfl,W,J,I,k,e,B⟩:=h;have g:=W.go;have m1:=g.m1;refine⟨_,(aM (bL (aZ dR (ϛ y u dW (ag (γ 0) (ag (γ 1) (ag (γ 2) (ag (ϛ x u dW (ag (γ 0) (ag (γ 1) ay))) ay))))) aL))),?_⟩;walk_at "s";walk_at "";refine⟨p,t,m,f,a,r,rfl,W,λc d=>?_,e⟩;have v:(w-1).natAbs<2^4000:=B3 I J;by_cases i:1<=w
 .obtain⟨par,dep,R,k⟩:=k c d i;refine⟨par,dep,R,λl q nl b j=>?_⟩;have o:((cJ m a r par dep).length:Int)=m:=by rw[mC];lia
  exact⟨p,l,t,true,m,f,a,cJ m a r par dep,r,w,rfl,W.same b,μ.of j,o,uJ g R,v,λ_ _ _=>⟨par,dep,R,λC G=>⟨_,rfl,k C (b.trans G)⟩⟩,λz=>absurd ⟨c,d⟩ z,λ_ _ z=>absurd i (by lia)⟩
 .obtain⟨par,dep,R⟩:=B5 g c d;refine⟨par,dep,R,λl q nl b j=>?_⟩;have o:((cJ m a r par dep).length:Int)=m:=by rw[mC];lia
  exact⟨p,l,t,true,m,f,a,cJ m a r par dep,r,w,rfl,W.same b,μ.of j,o,uJ g R,v,λ_ _ z=>absurd z i,λz=>absurd ⟨c,d⟩ z,λ_ _ z=>B c d z q b⟩
def sv(T:Txt K U):Sp:=λe H Q E=>E7 λ(p t:Addr)(m:Int)(f:g8)(d:hT)(r w:Int)=>e=[.ref p,.int r,.int w]/\ο T.Web H p m t f d/\w<=10^60/\-(10^60)<=w/\(0<=r->r<m->1<=w->∃a c,ε m d r a c/\(ϡ m d r a (cJ m d r a c) w+1<=1000000000000->∀b,δ H b->Q .π b)/\(1000000000000<ϡ m d r a (cJ m d r a c) w+1->∀b,δ H b->E (.ref T.TooMany) none b))/\(¬(0<=r/\r<m)->∀b,δ H b->E (.ref T.NoPlace) none b)/\(0<=r->r<m->w<1->∀b,δ H b->E (.ref T.BadWish) none b)
abbrev kJ:Stmt:=top 55
theorem E2:ζ ["web","r","wanted"] ["web","r","wanted"] (aG kJ):=.of
theorem m9:Ϙ (aG kJ) "MOST_PEBBLES":=.of (by kernel_rfl)
theorem pW:Ϙ (aG kJ) "TooMany":=.of (by kernel_rfl)
theorem Ex(T:Txt K U)(I:b6 (Β P w))(B:Cb P w K U base "enough" uh ["web","r","wanted"] 9 (xh T)):Ok P w K U base "check_told" kJ ["web","r","wanted"] 10 (sv T):=λ_ _ D=>by
 refine D.F.XU E2 (by walk_at "v") λJ A i s H L Q E z h=>?_;obtain⟨p,t,m,q,f,r,w,rfl,W,G,C,k,e,x⟩:=h;refine⟨_,(aM (dG (nC RA (ϛ B z dW (ag (γ 0) (ag (γ 1) (ag (γ 2) ay)))) (wm m9.g T.Xs (hd:=m9.d)) (gV _)) (aM (pP T.xp rfl qY pW.g T.MB (ag nO ay) (hdb:=pW.d))) cN)),?_⟩;walk_at "s";walk_at "";refine⟨p,t,m,q,f,r,w,rfl,W,G,C,λo u v=>?_,e,x⟩;obtain⟨a,b,R,y,n⟩:=k o u v;refine⟨a,b,R,λl j=>?_⟩;refine⟨_,rfl,?_⟩;by_cases c:1000000000000<ϡ m f r a (cJ m f r a b) w+1
 .rw[aj c];exact⟨cg (by simp),n c l j⟩
 .rw[ah c];exact y (by lia) l j
structure Y9(C O:Addr)(H:Hp)(o w tw lk Ϸ lr lp ld Io Le:Addr)(m:Int)(ps:g8)(rs:hT)(v k:Int)(c at_:Nat)(cs csk:eu)(fr be:Bool):Prop where
 ob:∃dx fs,H o=some (.ins O dx fs)/\fs.lookup ("web":Str)=some (.ref w)/\fs.lookup ("kids":Str)=some (.ref lk)/\fs.lookup ("rests":Str)=some (.ref lr)
 web:ο C H w m tw ps rs
 v0:0<=v/\v<m
 k0:0<=k/\k<m
 ki:∃(kv:List V)(ks:eu),H lk=some (.lst kv)/\kv[v.toNat]?=some (.ref Ϸ)/\H Ϸ=some (.lst (ks.map V.int))/\ks[at_]?=some k
 re:E3 λ(rv lv pv:List V)=>H lr=some (.lst rv)/\rv[v.toNat]?=some (.ref lp)/\H lp=some (.lst lv)/\lv[at_+1]?=some (.ref ld)/\rv[k.toNat]?=some (.ref Io)/\H Io=some (.lst (.ref Le::pv))
 ed:H ld=some (.lst (cs.map V.int))
 ek:H Le=some (.lst (csk.map V.int))
 cl:cs.length<=24/\csk.length<=24
 cb:(∀c∈cs,c.natAbs<=2^15000)/\∀c∈csk,c.natAbs<=2^15000
 tl:c9 rs k v=some (c:Int)
 c2:2<=c/\c<=1000000
 fb:E7 λ(dx:Addr)(fs:List (Str×V))(lw lb:Addr)(xs:eu)(cv:List V)(ob:Option Int)=>H o=some (.ins O dx fs)/\fs.lookup ("web":Str)=some (.ref w)/\fs.lookup ("weights":Str)=some (.ref lw)/\fs.lookup ("bearers":Str)=some (.ref lb)/\H lw=some (.lst (xs.map V.int))/\(xs.length:Int)=m/\H lb=some (.lst cv)/\cv[v.toNat]?=some (ZH ob)/\fr=(decide (xs.getD k.toNat 0*(c:Int)=xs.getD v.toNat 0)&&decide (ob≠some k))/\be=decide (ob=some k)
theorem Y9.same{C O:Addr}{H s:Hp}{o w i q r t p ld g l:Addr}{m:Int}{f:g8}{n:hT}{v k:Int}{c at_:Nat}{b a:eu}{d j:Bool}(e:δ H s)(h:Y9 C O H o w i q r t p ld g l m f n v k c at_ b a d j):Y9 C O s o w i q r t p ld g l m f n v k c at_ b a d j where
 ob:=let ⟨dx,fs,h1,h2⟩:=h.ob;⟨dx,fs,e _ _ h1,h2⟩
 web:=h.web.same e
 v0:=h.v0
 k0:=h.k0
 ki:=let ⟨kv,ks,h1,h2,h3,h4⟩:=h.ki;⟨kv,ks,e _ _ h1,h2,e _ _ h3,h4⟩
 re:=let ⟨rv,lv,pv,h1,h2,h3,h4,h5,h6⟩:=h.re;⟨rv,lv,pv,e _ _ h1,h2,e _ _ h3,h4,h5,e _ _ h6⟩
 ed:=e _ _ h.ed
 ek:=e _ _ h.ek
 cl:=h.cl
 cb:=h.cb
 tl:=h.tl
 c2:=h.c2
 fb:=let ⟨dx,fs,lw,lb,xs,cv,ob,h1,h2,h3,h4,h5,h6,h7,h8⟩:=h.fb;⟨dx,fs,lw,lb,xs,cv,ob,e _ _ h1,h2,h3,h4,e _ _ h5,h6,e _ _ h7,h8⟩
theorem JR:∀(a:eu)(i:Nat),i<=a.length->(ZI a)[i]?=some (a.drop i)
 | [],0,_=>rfl
 | [],_+1,h=>by cases h
 | _::_,0,_=>rfl
 | _::a,i+1,h=>JR a i (Nat.le_of_succ_le_succ h)
theorem P3{d:fz}{a:eu}(h:(a.map λk=>d k+1).sum<=23)(i:Nat):Yc d (a.drop i)<=15000:=tE (by
 have e:(a.map λk=>d k+1).sum=((a.take i).map λk=>d k+1).sum+((a.drop i).map λk=>d k+1).sum:=by rw[<-eE,<-aB,cw]
 lia)
theorem ϒ.co{C O:Addr}{H:Hp}{o p t:Addr}{m:Int}{J:g8}{d:hT}{r:Int}{a:fc}{b:fz}{j:eu}{ld G Q M T:Addr}{kl:g8}{rv:List V}(h:ϒ C O H o p t m J d r a b j ld G Q M T kl rv (λv=>0<=v/\v<m)){v k:Int}{i:Nat}(f:0<=v/\v<m)(hk:(kd m d r a v)[i]?=some k):E7 λ(A z F x y:Addr)(s l:eu)=>Y9 C O H o p t M A T z F x y m J d v k (cK d a k) i s l (ϗ m d r a b j k) (Ϝ m d r a b j k)/\Ω 15000 s (ξ (ϗ m d r a b j) (Ϝ m d r a b j) (λk g=>ϯ m d r a b j k (υ (cK d a k) g)) ((kd m d r a v).drop (i+1)))/\Ω 15000 l (ϯ m d r a b j k):=by
 have g:=h.web.go;have R:=h.rt;have il:i<(kd m d r a v).length:=(ar.mp hk).1;have w:=(bB g R f.1 f.2).mp (aJ hk);have N:((cK d a k:Nat):Int)=tup d a k:=bn (by have:=(gP g R w.1.1 w.1.2 w.2.1).1;lia);obtain⟨k',S,t2,t6⟩:=lm g R w.1.1 w.1.2 w.2.1;have ek:((cK d a k:Nat):Int)=k':=by
  rw[N];unfold tup;rw[S]
  rfl
 obtain⟨L,ob⟩:=h.ob;have u:(cY m.toNat)[v.toNat]?=some v:=by rw[f9 (by lia),bn f.1]
 obtain⟨A,W,Xd⟩:=uf h.kp u;obtain⟨_,z,ϫ,h1,h2,Y,Z⟩:=h.ϖ v f;obtain⟨F,B,s,c1,c2⟩:=uf Z (JR (kd m d r a v) (i+1) il);obtain⟨_,x,X,g1,g2,g3,I⟩:=h.ϖ k w.1;obtain⟨sr,es⟩:=wc (kd m d r a k);rw[es]at I;have E:=ms (fr:=ϗ m d r a b j) (be:=Ϝ m d r a b j) (c:=cK d a) g R w.1.1 w.1.2;cases I with
 | @cons y _ ldr _ e he=>
   obtain⟨l,d1,d2⟩:=e;have D:=c2.le (b':=15000) (P3 (by have:=jA g R f.1 f.2;have:=py g R f.1 f.2;have:=g.Θ;lia) _);have q:=d2.le (b':=15000) (tE (by have:=jA g R w.1.1 w.1.2;have:=py g R w.1.1 w.1.2;have:=g.Θ;lia));refine⟨A,z,F,x,y,s,l,⟨⟨L,_,ob,pT _ _ _ _ _ _,qD _ _ _ _ _ _,pH _ _ _ _ _ _⟩,h.web,f,w.1,⟨_,_,h.hk,by rw[aH,W];rfl,Xd,hk⟩,⟨_,_,_,h.hr,h1,Y,by rw[aH,B];rfl,g1,g3⟩,c1,d1,⟨D.len,q.len⟩,⟨D.bt,q.bt⟩,by rw[ek,<-w.2.2];exact S,by lia,?_⟩,D,⟨q.ne,q.len,q.bt,λn=>(q.val n).trans ?_⟩⟩
   .refine⟨L,_,G,Q,cJ m d r a b,_,oK m d r a b j v,ob,pT _ _ _ _ _ _,wW _ _ _ _ _ _,wT _ _ _ _ _ _,h.hw,?_,h.hb,(M6 f.1).symm.trans (Jx f.1 f.2),?_,?_⟩
    .have:(cJ m d r a b).length=m.toNat:=mC
     lia
    .unfold ϗ;rw[N,w.2.2,show(cJ m d r a b).getD k.toNat 0=ν m d r a b k from fD w.1.1 w.1.2,show(cJ m d r a b).getD v.toNat 0=ν m d r a b v from fD f.1 f.2]
    .unfold Ϝ;rw[w.2.2]
   .show _=wy m d r a b (ϗ m d r a b j) (Ϝ m d r a b j) (cK d a) k n;rw[E]
    rfl
def xk(T:Txt K U):Sp:=λt H Q _=>E22 λ(o w i r s u q ld h n:Addr)(m:Int)(g:g8)(p:hT)(v k z:Int)(c a:Nat)(e b:eu)(f j:Bool)=>t=[.ref o,.int v,.int a,.int z]/\Y9 T.Web T.Tally H o w i r s u q ld h n m g p v k c a e b f j/\a<=24/\-70<=z/\z+1<=2^64/\∀l d,H l=none->δ H d->d l=some (.lst ((Ϣ (ϩ m.toNat (ϵ e b c z))).map V.int))->Q (.ref l) d
abbrev qO:Stmt:=top 67
theorem MC:ζ ["tally","place","at","left","kid","before","given","ways_behind"] ["tally","place","at","left"] (aG qO):=.of
theorem Bp:Ϙ (aG qO) "range":=.of (by kernel_rfl)
theorem LM(T:Txt K U)(hq:b6 (Β P w))(jY:Cb P w K U base "differences" jX ["values"] 1 (qS T))(dq:ke P w base T)(iL:nH P w base T):Ok P w K U base "course" qO ["tally","place","at","left"] 6 (xk T):=λ_ _ D=>by
 refine D.F.ό MC (by walk_at "v") λτ A af s H vs Q E hr h=>?_;obtain⟨o,w,tw,lk,Ϸ,lr,lp,ld,Io,Le,m,ps,rs,v,k,z,c,b,p,a,Z,be,rfl,C,b1,z0,z1,q⟩:=h;have g:=C.web.go;have m1:=g.m1;have Θ:=g.Θ;refine⟨_,(ap (ψ 4 (Ε bF (iM bF (dz (γ 0) rfl) (γ 1) (λ_ _=>rfl)) (γ 2))) (ap (ψ 5 (eI (ag aL ay))) (ap (fq PassesOwn.never rfl (mM Bp.g T.range (ag (aZ fU (dz (dz (γ 0) rfl) rfl) aL) ay)) (ϓ 6) (ap (ψ 7 (Ζ dq hr hq (ag (Ε bF (iM bF (dz (γ 0) rfl) (γ 1) (λ_ _=>rfl)) (aZ dR (γ 2) aL)) (ag (aZ fU (γ 3) (γ 6)) ay)))) (aM (dI (j4 PySem.F.plainAttrs_list PySem.F.slot_list_append PySem.F.type_list_append f6 (γ 5) (ag (aZ dR (Ε bF (γ 5) (yC vJ aL)) (aZ nj (Ζ iL hr hq (ag (γ 0) (ag (γ 1) (ag (γ 4) (ag (γ 6) ay))))) (γ 7))) ay)))))) (aM (bL (Ζ jY hr hq (ag (γ 5) ay))))))),?_⟩;walk_at "s";refine cU λN1 h1=>?_;walk_at "";obtain⟨I,G,B,fw,fk,Z⟩:=C.ob;obtain⟨kv,ks,R,Y,S,al⟩:=C.ki;have gk:ϥ (ks.map V.int) (b:Int)=some (V.int k):=cB (by lia) (by rw[bu,aH,al];rfl);refine⟨T.Tally,I,G,B,T.cZ,T.rX,_,fk,Η R (cB C.v0.1 Y) (Η S gk (h1 _ _ (cU λN2 h2=>?_)))⟩;walk_at "";refine⟨cg (by simp),λf r=>h2 _ _ (cU λN3 h3=>?_)⟩;have y:=δ.new (HO.lst [V.int 0]) r;have e1:upd H f (HO.lst [V.int 0]) f=some (.lst ((ϩ 1 (ϵ p a c z)).map V.int)):=aw;generalize upd H f (HO.lst [V.int 0])=H1 at y e1 ⊢;walk_at "";obtain⟨dw,M⟩:=C.web.ob;refine⟨T.Tally,I,G,y _ _ B,T.cZ,T.Ge,_,fw,w,rfl,T.Web,dw,_,y _ _ M,T.lM,T.ϑ,_,kt _ _,?_⟩;refine⟨m,rfl,by lia,by lia,?_⟩;refine J7 (lo:=0) (n:=(m-1).toNat) (λi W x=>δ H x/\x f=some (.lst ((ϩ (i+1) (ϵ p a c z)).map V.int))/\∃v6 X,W=[some (V.ref o),some (V.int v),some (V.int b),some (V.int z),some (V.int k),some (V.ref f),v6,X]) ⟨y,e1,_,_,rfl⟩ ?_ ?_
 .rintro i W x N BB Ϥ hN hi ⟨s5,e5,v6,X,rfl⟩;refine Ϥ _ _ (cU λM1 k1=>?_);rw[cW];have J:=C.same s5;obtain⟨rv,lv,pv,r1,r2,r3,r4,r5,r6⟩:=J.re;have gl:ϥ lv ((b:Int)+1)=some (.ref ld):=cB (by lia) (by rw[show((b:Int)+1).toNat=b+1 by lia];exact r4);have e:-100<=z-(i:Int):=by lia
  have t:z-(i:Int)+1<=2^64:=by lia
  walk_at "";refine⟨T.Tally,I,G,s5 _ _ B,T.cZ,T.Ϯ,_,Z,Η r1 (cB C.v0.1 r2) (Η r3 gl ?_)⟩;refine⟨ld,p,z-(i:Int),rfl,μ.of J.ed,by have:=C.cl.1;lia,e,hZ (k:=65) (by lia) (by decide),Bi C.cb.1,λj hj=>vS e t (by have:=C.cl.1;lia),λH6 d=>k1 _ _ ?_⟩;have u:=s5.trans d;have C6:=J.same d;have e6:=d _ _ e5;have O:i<=24:=by lia
  have hb:υ c i+1<=2^25:=by
   unfold υ;have h1:(i+1)*c<=25*1000000:=bR (by lia) C.c2.2;have h2:(2:Nat)^25=33554432:=rfl
   lia
  have M:(Ξ a (υ c i) 0).natAbs<Ϧ:=Jz (z:=((υ c i:Nat):Int)) (by lia) (by lia) C.cl.2 C.cb.2;have ad:ϥ ((ϩ (i+1) (ϵ p a c z)).map V.int) (-1)=some (V.int (Κ i (ϵ p a c z))):=by
   unfold ϩ;rw[da,aB,aB];exact Jq _ _
  have L:((ϩ (i+1) (ϵ p a c z)).map V.int).length=i+1:=by unfold ϩ;rw[aa,aa,bI]
  walk_at "";refine⟨Xj e6,Η e6 ad ?_⟩;refine⟨o,I,w,tw,lr,Io,Le,G,m,ps,rs,rv,pv,v,k,c,i,a,rfl,u _ _ B,fw,Z,C6.web,C.v0,C.k0,C.tl,C.c2.1,C.c2.2,d _ _ r1,r5,d _ _ r6,C6.ek,C.cl.2,O,Bi C.cb.2,λH7 s7=>⟨_,rfl,qR M (Jz e t C.cl.1 C.cb.1),_,rfl,?_⟩⟩;refine qN (s7 _ _ e6) (eJ (by rw[L];lia)) (hN _ _ ⟨(u.trans s7).put r _,?_,_,_,rfl⟩);rw[aw];unfold ϩ;rw[da (n:=i+1),aB,aB]
  rfl
 .rintro BB W x Ϥ ⟨s5,e5,v6,X,rfl⟩;refine Ϥ _ _ (h3 _ _ ?_);walk_at "";have em:(m-1).toNat+1=m.toNat:=by lia
  rw[em]at e5;exact⟨f,_,rfl,μ.of e5,by unfold ϩ;rw[aa,bI];lia,λl H6 nl d L=>q l H6 (s5.free nl) (s5.trans d) L⟩
def vL(T:Txt K U):Sp:=λe H Q _=>E4 λ(a:Addr)(b:eu)(top:Nat)(z:Int)=>e=[.ref a,.int top,.int z]/\μ K H a (b.map V.int)/\b.length<=100/\top+1<Ϧ/\(∀c∈b,c.natAbs<Ϧ)/\(∀n k,n<=top->k<b.length->ch n k<Ϧ)/\∀(g:Nat)(d:Hp),g<=top->(g=0\/Ξ b g 0<=z)->(g=top\/z<Ξ b (g+1) 0)->δ H d->Q (.int g) d
abbrev pI:Stmt:=top 65
theorem CI:ζ ["before","top","number","low","high","middle"] ["before","top","number"] (aG pI):=.of
theorem Dz(T:Txt K U)(v:b6 (Β P w))(O:ke P w base T):Ok P w K U base "last_within" pI ["before","top","number"] 2 (vL T):=λ_ _ D=>by
 refine D.F.ό CI (by walk_at "v") λZ A i s H vs Q E B h=>?_;obtain⟨a,f,top,z,rfl,J,C,W,cb,R,k⟩:=h;refine⟨_,(ap (ψ 3 aL) (ap (ψ 4 (γ 1)) (ap (pQ PassesOwn.never (Ϫ rJ (γ 3) (γ 4)) (ap (ψ 5 (aZ fN (aZ dR (aZ dR (γ 3) (γ 4)) aL) aL)) (aM (dG (Ϫ wC (Ζ O B v (ag (γ 0) (ag (γ 5) ay))) (γ 2)) (aM (ψ 3 (γ 5))) (aM (ψ 4 (aZ fU (γ 5) aL))))))) (aM (bL (γ 3)))))),?_⟩;walk_at "s";refine cU λY G=>?_;walk_at "";refine G _ _ (cU λN2 S=>?_);walk_at "";refine S _ _ (cU λN3 u=>?_);refine vy (λn m j=>E3 λ(lo d:Nat)(l:Option V)=>n=d-lo/\lo<=d/\d<=top/\(lo=0\/Ξ f lo 0<=z)/\(d=top\/z<Ξ f (d+1) 0)/\δ H j/\m=[some (V.ref a),some (V.int top),some (V.int z),some (V.int lo),some (V.int d),l]) top ⟨0,top,_,rfl,bx _,ax _,.inl rfl,.inl rfl,δ.refl _,rfl⟩ ?_;rintro n m j N r y ⟨lo,d,l,rfl,X,t,o,p,s,rfl⟩;walk_at "";by_cases c:lo<d
 .rw[aj (by lia)];refine⟨N,λx H2 w=>?_,⟨by decide,by decide⟩,?_⟩
  .obtain⟨m',lt,lo',hi',v',e1,e2,e3,e4,e5,e6,e7⟩:=y _ _ w
   first|exact⟨m',lt,lo',hi',v',e1,e2,e3,e4,e5,e6,e7⟩|exact⟨m',lt,lo',hi',e1,e2,e3,e4,e5,e6,v',e7⟩
  obtain⟨b,M⟩:∃b:Nat,((lo:Int)+(d:Int)+1)/2=(b:Int):=⟨(((lo:Int)+(d:Int)+1)/2).toNat,by lia⟩;rw[M];have m1:lo<b:=by lia
  have L:b<=d:=by lia
  refine⟨a,f,(b:Int),rfl,s.seq J,C,by lia,(show b<Ϧ by lia),cb,λk I=>(show ch b k<Ϧ from R b k (by lia) I),λH3 q=>⟨_,rfl,?_⟩⟩;rw[pU];by_cases g:Ξ f b 0<=z
  .rw[aj g];exact r (d-b) _ _ (by lia) ⟨b,d,_,rfl,L,t,.inr g,p,s.trans q,rfl⟩
  .rw[ah g];have e:((b:Int)-1)=((b-1:Nat):Int):=(by lia);rw[e];exact r (b-1-lo) _ _ (by lia) ⟨lo,b-1,_,rfl,by lia,by lia,o,.inr (by rw[show b-1+1=b by lia];lia),s.trans q,rfl⟩
 .rw[ah (by lia)];refine u _ _ ?_;walk_at "";have e:d=lo:=by lia
  subst e;exact k d j t o p s
def zh(T:Txt K U):Sp:=λu H Q _=>E23 λ(o w n s t x r ld l p:Addr)(m:Int)(j:g8)(q:hT)(v k a:Int)(c d z:Nat)(f b:eu)(h e:Bool)=>u=[.ref o,.int v,.int d,.int z,.int a]/\Y9 T.Web T.Tally H o w n s t x r ld l p m j q v k c d f b h e/\d<=24/\(z:Int)+1<=2^64/\∀(g:Nat)(i:Hp),g<=z->(e=true->g=z)->(e=false->h=false->g=0)->(e=false->h=true->(g=0\/Ξ (Ϣ (ϩ m.toNat (ϵ f b c z))) g 0<=a)/\(g=z\/a<Ξ (Ϣ (ϩ m.toNat (ϵ f b c z))) (g+1) 0))->δ H i->Q (.int g) i
abbrev sK:Stmt:=top 64
theorem HB:ζ ["tally","place","at","left","number","kid"] ["tally","place","at","left","number"] (aG sK):=.of
abbrev ov(P w base)(T:Txt K U):=Cb P w K U base "course" qO ["tally","place","at","left"] 6 (xk T)
theorem Hv(T:Txt K U)(x:b6 (Β P w))(rg:ov P w base T)(lB:ni P w base T)(sk:Cb P w K U base "last_within" pI ["before","top","number"] 2 (vL T)):Ok P w K U base "given_by" sK ["tally","place","at","left","number"] 7 (zh T):=λ_ _ D=>by
 refine D.F.ό HB (by walk_at "v") λτ A B s H vs Q E G h=>?_;obtain⟨o,w,O,lk,Ϸ,lr,lp,ld,Io,Le,m,L,W,v,k,y,c,a,z,N,e,fr,p,rfl,C,I,S,q⟩:=h;have m1:=C.web.go.m1;have Θ:=C.web.go.Θ;refine⟨_,(ap (ψ 5 (Ε bF (iM bF (dz (γ 0) rfl) (γ 1) (λ_ _=>rfl)) (γ 2))) (ap (dG (Ϫ iH (γ 5) (Ε bF (dz (γ 0) rfl) (γ 1))) (aM (bL (γ 3))) cN) (ap (dG (kK (mE (Ζ lB G x (ag (γ 0) (ag (γ 1) (ag (γ 5) ay)))))) (aM (bL aL)) cN) (aM (bL (Ζ sk G x (ag (Ζ rg G x (ag (γ 0) (ag (γ 1) (ag (γ 2) (ag (γ 3) ay))))) (ag (γ 3) (ag (γ 4) ay))))))))),?_⟩;walk_at "s";refine cU λN1 h1=>?_;walk_at "";obtain⟨dx,fs,ho,fw,fk,ae⟩:=C.ob;obtain⟨kv,ks,r,u,t,J⟩:=C.ki;have gk:ϥ (ks.map V.int) (a:Int)=some (V.int k):=cB (by lia) (by rw[bu,aH,J];rfl);refine⟨T.Tally,dx,fs,ho,T.cZ,T.rX,_,fk,Η r (cB C.v0.1 u) (Η t gk (h1 _ _ ?_))⟩;obtain⟨d,i,lw,lb,xs,cv,ob,R,e2,e3,M,e5,e6,X,Y,e9,f⟩:=C.fb;walk_at "";refine⟨T.Tally,d,i,R,T.cZ,T.uw,_,M,Η X (cB C.v0.1 Y) ?_⟩;refine⟨by cases ob<;>rfl,?_⟩;by_cases cb:ob=some k
 .have eb:p=true:=by rw[f];exact ba cb
  rw[aj (by rw[cb];rfl)];exact q z H (ax _) (λ_=>rfl) (λz=>by rw[eb]at z;cases z) (λz=>by rw[eb]at z;cases z) (δ.refl _)
 .have eb:p=false:=by rw[f];exact bw cb
  rw[ah (λz=>cb (by cases ob with|none=>cases z|some b=>unfold ZH at z;injection z with z;rw[z]))];refine⟨o,d,w,O,lw,lb,i,m,L,W,xs,cv,v,k,(c:Int),ob,rfl,R,e2,e3,M,C.web,e5,e6,X,C.v0,C.k0,Y,C.tl,by have:=C.c2.1;lia,by have:=C.c2.2;lia,⟨_,rfl,?_⟩⟩;rw[<-e9];cases fr with
  | false=>
    rw[aj rfl];exact q 0 H (bx _) (λz=>by rw[eb]at z;cases z) (λ_ _=>rfl) (λ_ z=>by cases z) (δ.refl _)
  | true=>
    rw[ah (by decide)];refine⟨o,w,O,lk,Ϸ,lr,lp,ld,Io,Le,m,L,W,v,k,(z:Int),c,a,N,e,true,p,rfl,C,I,by lia,S,λl H1 nl s1 Z=>?_⟩;have bt:(Ϣ (ϩ m.toNat (ϵ N e c z))).length<=24:=(by rw[DF];unfold ϩ;rw[aa,bI];lia);refine⟨l,_,z,y,rfl,μ.of Z,by lia,hZ (k:=65) (by lia) (by decide),Jg (by lia) (by lia) S C.c2.2 C.cl.1 C.cl.2 C.cb.1 C.cb.2,λn j hn hj=>(show(Y6 (n:Int) j).natAbs<Ϧ from vS (by lia) (by lia) (by lia)),λg H2 g1 g2 g3 s2=>q g H2 g1 (λz=>by rw[eb]at z;cases z) (λ_ z=>by cases z) (λ_ _=>⟨g2,g3⟩) (s1.trans s2)⟩
def qQ(T:Txt K U):Sp:=λt H Q _=>E23 λ(o w j r s u q ld i n:Addr)(m:Int)(h:g8)(p:hT)(v k z:Int)(c a:Nat)(d b:eu)(e l:Bool)(g:Nat)=>t=[.ref o,.int v,.int a,.int z,.int g]/\Y9 T.Web T.Tally H o w j r s u q ld i n m h p v k c a d b e l/\a<=24/\-70<=z/\z+1<=2^64/\(g:Int)+1<=2^64/\∀f,δ H f->Q (.int (if e=true then Ξ (Ϣ (ϩ m.toNat (ϵ d b c z))) g 0 else 0)) f
abbrev nh:Stmt:=top 66
theorem Dp:ζ ["tally","place","at","left","given"] ["tally","place","at","left","given"] (aG nh):=.of
theorem Da(T:Txt K U)(n:b6 (Β P w))(rg:ov P w base T)(lB:ni P w base T)(dq:ke P w base T):Ok P w K U base "ways_before" nh ["tally","place","at","left","given"] 7 (qQ T):=λ_ _ D=>by
 refine D.F.ό Dp (by walk_at "v") λτ A r s H vs Q E t h=>?_;obtain⟨o,w,G,lk,Ϸ,Z,lp,ld,Io,Le,m,y,L,v,k,z,c,a,B,b,fr,M,g,rfl,C,u,J,I,Y,q⟩:=h;have m1:=C.web.go.m1;have Θ:=C.web.go.Θ;refine⟨_,(ap (dG (kK (mE (Ζ lB t n (ag (γ 0) (ag (γ 1) (ag (Ε bF (iM bF (dz (γ 0) rfl) (γ 1) (λ_ _=>rfl)) (γ 2)) ay)))))) (aM (bL aL)) cN) (aM (bL (Ζ dq t n (ag (Ζ rg t n (ag (γ 0) (ag (γ 1) (ag (γ 2) (ag (γ 3) ay))))) (ag (γ 4) ay)))))),?_⟩;walk_at "s";walk_at "";obtain⟨dx,fs,ho,fw,fk,W⟩:=C.ob;obtain⟨kv,ks,e,i,f,x⟩:=C.ki;have gk:ϥ (ks.map V.int) (a:Int)=some (V.int k):=cB (by lia) (by rw[bu,aH,x];rfl);refine⟨T.Tally,dx,fs,ho,T.cZ,T.rX,_,fk,Η e (cB C.v0.1 i) (Η f gk ?_)⟩;obtain⟨d,p,lw,X,xs,S,ob,e1,R,e3,O,e5,e6,e7,e8,e9,_⟩:=C.fb;refine⟨o,d,w,G,lw,X,p,m,y,L,xs,S,v,k,(c:Int),ob,rfl,e1,R,e3,O,C.web,e5,e6,e7,C.v0,C.k0,e8,C.tl,by have:=C.c2.1;lia,by have:=C.c2.2;lia,⟨_,rfl,?_⟩⟩;rw[<-e9];cases fr with
 | false=>
   rw[aj rfl];exact q H (δ.refl _)
 | true=>
   rw[ah (by decide)];refine⟨o,w,G,lk,Ϸ,Z,lp,ld,Io,Le,m,y,L,v,k,z,c,a,B,b,true,M,rfl,C,u,J,I,λl H1 nl s1 N=>?_⟩;have bi:(Ϣ (ϩ m.toNat (ϵ B b c z))).length<=24:=by rw[DF];unfold ϩ;rw[aa,bI];lia
   exact⟨l,_,(g:Int),rfl,μ.of N,by lia,by lia,hZ (k:=65) (by lia) (by decide),Jg (by lia) J I C.c2.2 C.cl.1 C.cl.2 C.cb.1 C.cb.2,λj hj=>vS (by lia) Y (by lia),λH2 s2=>q H2 (s1.trans s2)⟩
def K7(H:Hp)(l:Addr)(a:hP):Prop:=∃c:List (Key×V),H l=some (.dK c)/\Paired (λ(b:Key×V)(x:Int×Nat×Int)=>b.1=.inl x.1/\∃q,b.2=.ref q/\H q=some (.tup [.int x.2.1,.int x.2.2])) c a
theorem JY:∀{c:List (Key×V)}{a:hP}{R:V->Int×Nat×Int->Prop}{k:Int},Paired (λ(b:Key×V)(x:Int×Nat×Int)=>b.1=.inl x.1/\R b.2 x) c a->k∉a.map (·.1)->gj c (.inl k)=none
 | _,_,_,_,.nil,_=>rfl
 | _,_,R,k,.cons h t,n=>by
   rw[jk (λz=>n (by rw[az];rw[h.1]at z;injection z with z;rw[<-z];exact .head _))];exact JY (R:=R) t λz=>n (by rw[az];exact .tail _ z)
def xL(m:Int)(d:hT)(r:Int)(b:fc)(c:fz)(e:eu)(v:Int)(z:Nat)(I:Nat->Nat->Int->List (Int×Nat×Int)->Prop):Prop:=∀(i:Nat)(k:Int)(a:Nat)(l:Int)(j:hP)(g:Nat)(h f:eu),(kd m d r b v)[i]?=some k->a<=z->I i a l j->g<=a->Ω 15000 h (ξ (ϗ m d r b c e) (Ϝ m d r b c e) (λk g=>ϯ m d r b c e k (υ (cK d b k) g)) ((kd m d r b v).drop (i+1)))->Ω 15000 f (ϯ m d r b c e k)->(Ϝ m d r b c e k=true->g=a)->(Ϝ m d r b c e k=false->ϗ m d r b c e k=false->g=0)->(Ϝ m d r b c e k=false->ϗ m d r b c e k=true->(g=0\/Ξ (Ϣ (ϩ m.toNat (ϵ h f (cK d b k) a))) g 0<=l)/\(g=a\/l<Ξ (Ϣ (ϩ m.toNat (ϵ h f (cK d b k) a))) (g+1) 0))->0<Ξ h (a-g) 0/\Ξ h (a-g) 0<2^9000/\I (i+1) (a-g) ((l-(if ϗ m d r b c e k=true then Ξ (Ϣ (ϩ m.toNat (ϵ h f (cK d b k) a))) g 0 else 0))%Ξ h (a-g) 0) (j++[(k,υ (cK d b k) g,(l-(if ϗ m d r b c e k=true then Ξ (Ϣ (ϩ m.toNat (ϵ h f (cK d b k) a))) g 0 else 0))/Ξ h (a-g) 0)])
def vz(T:Txt K U):Sp:=λn H Q _=>E21 λ(o p t:Addr)(m:Int)(j:g8)(f:hT)(r:Int)(a:fc)(e:fz)(h:eu)(ld i u k y:Addr)(s:g8)(x:List V)(v c:Int)(z:Nat)(I:Nat->Nat->Int->List (Int×Nat×Int)->Prop)=>n=[.ref o,.int v,.int z,.int c]/\ϒ T.Web T.Tally H o p t m j f r a e h ld i u k y s x (λv=>0<=v/\v<m)/\(0<=v/\v<m)/\(z:Int)+1<=2^64/\I 0 z c []/\xL m f r a e h v z I/\∀(l:Addr)(g:Hp)(d:Nat)(q:Int)(b:hP),I (kd m f r a v).length d q b->b.map (·.1)=kd m f r a v->H l=none->δ H g->K7 g l b->Q (.ref l) g
abbrev jU:Stmt:=top 63
theorem qW:ζ ["tally","place","held","number","found","left","at","kid","given","ways_behind"] ["tally","place","held","number"] (aG jU):=.of
theorem vU:ZE (aG jU) "number":=.of (by kernel_rfl)
theorem xg:ZE (aG jU) "left":=.of (by kernel_rfl)
theorem tX:Ϙ (aG jU) "enumerate":=.of (by kernel_rfl)
abbrev oD(P w base)(T:Txt K U):=Cb P w K U base "ways_before" nh ["tally","place","at","left","given"] 7 (qQ T)
theorem DK(T:Txt K U)(hq:b6 (Β P w))(wg:Cb P w K U base "given_by" sK ["tally","place","at","left","number"] 7 (zh T))(oG:kx P w base T)(dq:ke P w base T)(lq:oD P w base T):Ok P w K U base "handed_down" jU ["tally","place","held","number"] 8 (vz T):=λ_ _ D=>by
 refine D.F.ό qW (by walk_at "v") λτ A cf s H vs Q E hr h=>?_;obtain⟨o,p,t,m,ps,e,r,b,a3,tl,ld,lw,lb,lk,lr,kl,rv,v,b0,z,I,rfl,TA,vm,z1,i0,st,q⟩:=h;have hu:=oS hr;have g:=TA.web.go;have R:=TA.rt;have ex:(kd m e r b v).length<=24:=AH g;refine⟨_,(ap (ψ 4 OF) (ap (ψ 5 (γ 2)) (ap (fq PassesOwn.never rfl (yq true tX.g T.enumerate (Ε bF (dz (γ 0) rfl) (γ 1))) (j0 (n:=2) rfl (cG (ϓ 6) (cG (ϓ 7) iA))) (ap (ψ 8 (Ζ wg hr hq (ag (γ 0) (ag (γ 1) (ag (γ 6) (ag (γ 5) (ag (γ 3) ay))))))) (ap (tH (i:=3) qW.nd rfl (Or.inl vU.l) (Ζ lq hr hq (ag (γ 0) (ag (γ 1) (ag (γ 6) (ag (γ 5) (ag (γ 8) ay)))))) Gs) (ap (tH (i:=5) qW.nd rfl (Or.inl xg.l) (γ 8) Gs) (ap (ψ 9 (Ζ dq hr hq (ag (Ε bF (iM bF (dz (γ 0) rfl) (γ 1) (λ_ _=>rfl)) (aZ dR (γ 6) aL)) (ag (γ 5) ay)))) (ap (yx hu (γ 4) (γ 7) (jd (ag (Ζ oG hr hq (ag (γ 0) (ag (γ 1) (ag (γ 7) (ag (γ 8) ay))))) (ag (aZ wq (γ 3) (γ 9)) ay))) rfl) (aM (ψ 3 (aZ eU (γ 3) (γ 9)))))))))) (aM (bL (γ 4)))))),?_⟩;walk_at "s";refine cU λN1 h1=>?_;walk_at "";refine λS O=>h1 _ _ (cU λN2 h2=>?_);have Z:=δ.new (HO.dK []) O;have e1:K7 (upd H S (HO.dK [])) S []:=⟨[],aw,.nil⟩;generalize upd H S (HO.dK [])=H1 at Z e1 ⊢;walk_at "";refine h2 _ _ (cU λN3 h3=>?_);walk_at "";obtain⟨dx,ob⟩:=TA.ob;have bm:(cY m.toNat)[v.toNat]?=some v:=by rw[f9 (by lia),bn vm.1]
 obtain⟨Ϸ,Yg,Xd⟩:=uf TA.kp bm;refine⟨T.Tally,dx,_,Z _ _ ob,T.cZ,T.rX,_,qD _ _ _ _ _ _,Η (Z _ _ TA.hk) (cB vm.1 (by rw[aH,Yg];rfl)) ⟨Ϸ,rfl,⟨_,μ.of (Z _ _ Xd)⟩,?_⟩⟩;refine Ax (K:=K) (c:=true) (xs:=(kd m e r b v).map V.int) (λi σ M=>δ H M/\E7 λ(a:Nat)(G:Int)(d:hP)(v6 v7 v8 v9:Option V)=>a<=z/\I i a G d/\K7 M S d/\d.map (·.1)=(kd m e r b v).take i/\σ=[some (V.ref o),some (V.int v),some (V.int z),some (V.int G),some (V.ref S),some (V.int a),v6,v7,v8,v9]) ⟨Z,z,b0,[],_,_,_,_,ax _,i0,e1,rfl,rfl⟩ (λi σ M y=>μ.of (y.1 _ _ Xd)) ?_ ?_
 .rintro i x σ M q' N hN hx ⟨s2,a,G,d,v6,v7,v8,v9,lz,ii,hd,am,rfl⟩ nq;obtain⟨k,hk,rfl⟩:=List.θ hx;have il:=(ar.mp hk).1;have s3:=s2.trans (δ.new (HO.tup [V.int (i:Int),V.int k]) nq);have bY:upd M q' (HO.tup [V.int (i:Int),V.int k]) q'=some (.tup [V.int (i:Int),V.int k]):=aw;have ae:K7 (upd M q' (HO.tup [V.int (i:Int),V.int k])) S d:=let ⟨η,a1,a2⟩:=hd;⟨η,δ.new _ nq _ _ a1,Paired.imp' (λkv x ⟨b1,q0,b2,b3⟩=>⟨b1,q0,b2,δ.new _ nq _ _ b3⟩) a2⟩;walk_at "";refine⟨_,Ι.of bY,rfl,_,_,rfl,_,_,rfl,rfl,?_⟩;generalize upd M q' (HO.tup [V.int (i:Int),V.int k])=H3 at s3 ae ⊢;have cv:=TA.same s3;obtain⟨ac,lp,ZW,Io,Le,X,L,C,c1,c2⟩:=cv.co vm hk;have Y:i<=24:=by lia
  refine⟨o,p,t,lk,ac,lr,lp,ZW,Io,Le,m,ps,e,v,k,G,cK e b k,i,a,X,L,_,_,rfl,C,Y,by lia,λu H4 g1 g2 g3 g4 s4=>?_⟩;obtain⟨w0,w1,nx⟩:=st i k a G d u X L hk lz ii g1 c1 c2 g2 g3 g4;have C4:=C.same s4;refine⟨o,p,t,lk,ac,lr,lp,ZW,Io,Le,m,ps,e,v,k,(a:Int),cK e b k,i,X,L,_,_,u,rfl,C4,Y,by lia,by lia,by lia,λH5 s5=>⟨_,rfl,_,rfl,?_⟩⟩;have cn:=s4.trans s5;have C5:=C4.same s5;obtain⟨be,bt,ct,ep,ea,ca⟩:=C5.ob;obtain⟨eF,bV,ef,r1,r2,r3,r4,r5,r6⟩:=C5.re;have gl:ϥ bV ((i:Int)+1)=some (.ref ZW):=cB (by lia) (by rw[show((i:Int)+1).toNat=i+1 by lia];exact r4);refine⟨T.Tally,be,bt,ct,T.cZ,T.Ϯ,_,ca,Η r1 (cB vm.1 r2) ⟨_,rfl,Η r3 gl ?_⟩⟩;have el:(a:Int)-(u:Int)=((a-u:Nat):Int):=by lia
  rw[el];have ds:=C.cl.1;refine⟨ZW,X,((a-u:Nat):Int),rfl,μ.of C5.ed,by lia,by lia,hZ (k:=65) (by lia) (by decide),Bi C.cb.1,λj hj=>vS (by lia) (by lia) (by lia),λH6 s6=>?_⟩;rw[pU];have C6:=C5.same s6;obtain⟨a9,a5,ci,bp,_,_⟩:=C6.ob;have eh:((u:Int)+1)*((cK e b k:Nat):Int)-1=((υ (cK e b k) u:Nat):Int):=by
   have er:=C.c2.1;unfold υ;have:1<=(u+1)*cK e b k:=bR (show 1<=u+1 by lia) (show 1<=cK e b k by lia);rw[jP this,iB]
   rfl
  generalize Ξ X (a-u) 0=W at w0 w1 nx ⊢;generalize (if ϗ m e r b a3 tl k=true then Ξ (Ϣ (ϩ m.toNat (ϵ X L (cK e b k) ↑a))) u 0 else 0)=B at nx ⊢;refine(show rq T _ _ _ _ from⟨o,a9,p,t,a5,m,ps,e,v,k,((cK e b k:Nat):Int),u,rfl,ci,bp,C6.web,vm,C.k0,C.tl,by have:=C.c2.1;lia,by have:=C.c2.2;lia,?_⟩);rw[eh];have cr:=cn.trans s6;obtain⟨η,a1,a2⟩:=ae;refine⟨W,rfl,⟨w0,(oE (by lia)).mpr (by lia)⟩,cg (by simp),λpq cp=>?_⟩;have s7:=δ.new (HO.tup [V.int (υ (cK e b k) u:Nat),V.int ((G-B)/W)]) cp;have e7:upd H6 pq (HO.tup [V.int (υ (cK e b k) u:Nat),V.int ((G-B)/W)]) pq=some (.tup [V.int (υ (cK e b k) u:Nat),V.int ((G-B)/W)]):=aw;have J:=cr.trans s7;generalize upd H6 pq (HO.tup [V.int (υ (cK e b k) u:Nat),V.int ((G-B)/W)])=H7 at s7 e7 J ⊢;have a7:=J _ _ a1;have al:d.length=i:=by rw[<-aa (f:=λx:Int×Nat×Int=>x.1),am,bg];lia
  have dw:η.length=d.length:=Paired.length a2;have kn:k∉d.map (·.1):=λy=>by
   rw[am]at y;have nd:(kd m e r b v).Nodup:=mW;obtain⟨j,hj,ej⟩:=d8 y;rw[bg]at hj;rw[fI]at ej;have:=(fH (show j<(kd m e r b v).length by lia) nd).mp (show(kd m e r b v)[j]?=(kd m e r b v)[i]? by rw[hk,ao (by lia),ej])
   lia
  have cc:=JY (R:=λy x=>∃q,y=V.ref q/\H3 q=some (.tup [.int x.2.1,.int x.2.2])) a2 kn;refine⟨_,XB.k (k:=Sum.inl k) a7 (eJ (by lia)),W,rfl,w0,hN _ _ ⟨(s3.trans J).put O _,a-u,(G-B)%W,d++[(k,υ (cK e b k) u,(G-B)/W)],_,_,_,_,by lia,nx,?_,?_,rfl⟩⟩
  .rw[Gm _ cc];refine⟨_,aw,JI ⟨rfl,pq,rfl,by rw[aP (iR e7 a7 (by intro z;cases z))];exact e7⟩ (Paired.imp' (λkv x ⟨b1,q0,b2,b3⟩=>⟨b1,q0,b2,by rw[aP (iR (J _ _ b3) a7 (by intro z;cases z))];exact J _ _ b3⟩) a2)⟩
  .rw[aB,am,cI,hk]
   rfl
 .rintro σ M ⟨s2,a,G,d,v6,v7,v8,v9,lz,ii,hd,am,rfl⟩;rw[aa]at ii;refine h3 _ _ ?_;walk_at "";exact q S M a G d ii (by rw[am,aa,bo]) O s2 hd
theorem Ct:∀(a d:List (Key×V))(j:Key),(∃b∈a,b.1=j/\gj (j1 d a) j=some b.2)\/((∀b∈a,b.1≠j)/\gj (j1 d a) j=gj d j)
 | [],d,j=>.inr ⟨λ_ h=>(by cases h),rfl⟩
 | p::r,d,j=>by
   rcases Ct r (iK d p.1 p.2) j with⟨b,h1,h2,h3⟩|⟨h1,h2⟩
   .exact .inl ⟨b,.tail _ h1,h2,h3⟩
   .have e:gj (j1 d (p::r)) j=gj (iK d p.1 p.2) j:=h2;rw[zT]at e;by_cases c:j=p.1
    .rw[aj c]at e;exact .inl ⟨p,.head _,c.symm,e⟩
    .rw[ah c]at e;exact .inr ⟨λb hk=>by
      rcases aq.mp hk with rfl|hk
      .exact λz=>c z.symm
      .exact h1 b hk,e⟩
theorem LZ{g f:Type}{R:g->f->Prop}:∀{d:List g}{c:List f},Paired R d c->(∀a∈d,∃b∈c,R a b)/\∀b∈c,∃a∈d,R a b
 | _,_,.nil=>⟨λ_ h=>(by cases h),λ_ h=>(by cases h)⟩
 | _,_,.cons h t=>by
   obtain⟨j,i⟩:=LZ t;refine⟨λa ha=>?_,λb hb=>?_⟩
   .rcases aq.mp ha with rfl|ha
    .exact⟨_,.head _,h⟩
    .obtain⟨b,hb,e⟩:=j a ha;exact⟨b,.tail _ hb,e⟩
   .rcases aq.mp hb with rfl|hb
    .exact⟨_,.head _,h⟩
    .obtain⟨a,ha,e⟩:=i b hb;exact⟨a,.tail _ ha,e⟩
def Tf(H:Hp)(J:Int->Nat->Int->Prop)(a:List (Key×V))(u:Int):Prop:=E3 λ(q:Addr)(h:Nat)(n:Int)=>gj a (.inl u)=some (.ref q)/\H q=some (.tup [.int h,.int n])/\J u h n
def xG(T:Txt K U):Sp:=λu H Q _=>E20 λ(o p t:Addr)(m:Int)(q:g8)(c:hT)(r:Int)(a:fc)(e:fz)(j:eu)(ld k B s D:Addr)(A:g8)(C:List V)(b:Int)(z:Nat)(J:Int->Nat->Int->Prop)=>u=[.ref o,.int z,.int b]/\ϒ T.Web T.Tally H o p t m q c r a e j ld k B s D A C (λv=>0<=v/\v<m)/\(0<=r/\r<m)/\J r z b/\(∀(v:Int)(h:Nat)(n:Int),0<=v->v<m->J v h n->(h:Int)+1<=2^64/\∃I:Nat->Nat->Int->List (Int×Nat×Int)->Prop,I 0 h n []/\xL m c r a e j v h I/\∀d y f,I (kd m c r a v).length d y f->∀x∈f,J x.1 x.2.1 x.2.2)/\∀(l:Addr)(g:eu)(i:Hp),(g.length:Int)=m->(∀v,0<=v->v<m->(kd m c r a v=[]->∃(h:Nat)(n:Int),g.getD v.toNat 0=h/\J v h n)/\(kd m c r a v≠[]->g.getD v.toNat 0=0))->H l=none->δ H i->i l=some (.tup (g.map V.int))->Q (.ref l) i
abbrev rA:Stmt:=top 62
theorem FC:ζ ["tally","held","number","counts","waiting","place","own"] ["tally","held","number"] (aG rA):=.of
theorem Hm(T:Txt K U)(hq:b6 (Β P w))(sg:Cb P w K U base "handed_down" jU ["tally","place","held","number"] 8 (vz T)):Ok P w K U base "laying_at" rA ["tally","held","number"] 9 (xG T):=λ_ _ D=>by
 refine D.F.ό FC (by walk_at "v") λτ A c4 s H vs Q E hr h=>?_;obtain⟨o,p,t,m,ps,C,r,d,f,tl,ld,lw,lb,lk,lr,kl,rv,M,z,J,rfl,TA,rm,jr,jj,q⟩:=h;have hu:=oS hr;have g:=TA.web.go;have R:=TA.rt;refine⟨_,(ap (ψ 3 (aZ qA (eI (ag aL ay)) (dz (dz (γ 0) rfl) rfl))) (ap (ψ 4 (Jm (FF (Ε bF (dz (γ 0) rfl) aL) (jd (ag (γ 1) (ag (γ 2) ay))) JB) rfl rfl (List.cons_ne_nil _ _) (by decide))) (ap (fq PassesOwn.never rfl (gQ (dz (γ 0) rfl)) (ϓ 5) (ap (ψ 6 (tf hu (γ 4) (γ 5) (λ_ _=>rfl))) (ap (dG (kK (ui (Ε bF (dz (γ 0) rfl) (γ 5)) (λ_=>rfl))) (aM (mw (Ε ia (γ 6) aL) (ow (γ 3) (γ 5) jT))) cN) (aM (dI (j4 PySem.F.plainAttrs_dict PySem.F.slot_dict_update PySem.F.type_dict_update M8 (γ 4) (ag (Ζ sg hr hq (ag (γ 0) (ag (γ 5) (ag (Ε ia (γ 6) aL) (ag (Ε ia (γ 6) aL) ay))))) ay))))))) (aM (bL (pct kZ T.tuple (ag (γ 3) ay))))))),?_⟩;walk_at "s";refine cU λN1 h1=>?_;walk_at "";have m1:=g.m1;have Θ:=g.Θ;obtain⟨dx,ob⟩:=TA.ob;obtain⟨dw,wb⟩:=TA.web.ob;refine⟨cg (by simp),λp0 c2=>?_⟩;have s0:=δ.new (HO.lst [V.int 0]) c2;have e0:upd H p0 (HO.lst [V.int 0]) p0=some (.lst [V.int 0]):=aw;generalize upd H p0 (HO.lst [V.int 0])=H0 at s0 e0 ⊢;have co:(List.replicate m.toNat [V.int 0]).flatten=(List.replicate m.toNat (0:Int)).map V.int:=by
  rw[gq]
  induction m.toNat with
  | zero=>rfl
  | succ n ih=>rw[cD,eZ,ih,cD];rfl
 refine⟨T.Tally,dx,_,s0 _ _ ob,T.cZ,T.Ge,_,pT _ _ _ _ _ _,p,rfl,T.Web,dw,_,s0 _ _ wb,T.lM,T.ϑ,_,kt _ _,p0,m,_,rfl,rfl,e0,by lia,by lia,cg (by show 1*m.toNat<=100000;lia),λlc ZX=>h1 _ _ (cU λN2 h2=>?_)⟩;rw[co];have s1:=s0.trans (δ.new (HO.lst ((List.replicate m.toNat (0:Int)).map V.int)) ZX);have e1:upd H0 lc (HO.lst ((List.replicate m.toNat (0:Int)).map V.int)) lc=some (.lst ((List.replicate m.toNat (0:Int)).map V.int)):=aw;have c5:=s0.free ZX;generalize upd H0 lc (HO.lst ((List.replicate m.toNat (0:Int)).map V.int))=H1 at s1 e1 ⊢;unfold Fj;walk_at "";intro L ae;have u2:=δ.new (HO.dK []) ae;have e2:upd H1 L (HO.dK []) L=some (.dK []):=aw;have a7:=s1.free ae;have aC:lc≠L:=λy=>by rw[<-y,e1]at ae;cases ae
 generalize upd H1 L (HO.dK [])=H2 at u2 e2 ⊢;have s2:=s1.trans u2;have gd:ϥ ((bO m C r d f r).map V.int) 0=some (V.int r):=by
  rw[TA.et];exact cB (bC 0) rfl
 refine⟨T.Tally,dx,_,s2 _ _ ob,T.cZ,T.vd,_,qu _ _ _ _ _ _,Η (s2 _ _ TA.hd) gd ⟨cg (by simp),λW cz=>?_⟩⟩;have u3:=δ.new (HO.tup [V.int z,V.int M]) cz;have e3:upd H2 W (HO.tup [V.int z,V.int M]) W=some (.tup [V.int z,V.int M]):=aw;have ad:=u3 _ _ e2;generalize upd H2 W (HO.tup [V.int z,V.int M])=H3 at u3 e3 ad ⊢;refine⟨ad,[(.inl r,.ref W)],rfl,(show 1<=15 by decide),h2 _ _ (cU λN3 h3=>?_)⟩;have s3:=((s2.trans u3).put a7 (HO.dK [(.inl r,.ref W)]));have e4:upd H3 L (HO.dK (j1 [] [(.inl r,.ref W)])) L=some (.dK [(.inl r,.ref W)]):=aw;have a2:upd H3 L (HO.dK (j1 [] [(.inl r,.ref W)])) lc=some (.lst ((List.replicate m.toNat (0:Int)).map V.int)):=by rw[aP aC];exact u3 _ _ (u2 _ _ e1)
 have a8:upd H3 L (HO.dK (j1 [] [(.inl r,.ref W)])) W=some (.tup [V.int z,V.int M]):=by rw[aP (iR e3 ad (by intro y;cases y))];exact e3
 have s4:δ H (upd H3 L (HO.dK (j1 [] [(.inl r,.ref W)]))):=s3;generalize upd H3 L (HO.dK (j1 [] [(.inl r,.ref W)]))=H4 at s4 e4 a2 a8 ⊢;clear u2 u3 e2 ad e3 s2 s3;walk_at "";refine⟨T.Tally,dx,_,s4 _ _ ob,T.cZ,T.vd,_,qu _ _ _ _ _ _,ld,rfl,⟨_,μ.of (s4 _ _ TA.hd)⟩,?_⟩;have pn:∀u,0<=u->u<m->u∈bO m C r d f r:=λu u0 u1=>by
  rw[TA.et];rcases TA.or.all u u0 u1 with rfl|y
  .exact .head _
  .exact .tail _ y
 have nd:(bO m C r d f r).Nodup:=by rw[TA.et];exact TA.or.nd
 have pr:∀u∈bO m C r d f r,0<=u/\u<m:=λu hu=>by
  rw[TA.et]at hu;rcases aq.mp hu with rfl|y
  .exact rm
  .exact TA.or.Λ u y
 have pl:(bO m C r d f r).length<=24:=zJ g R rm.1 rm.2;refine mL (K:=K) (xs:=(bO m C r d f r).map V.int) (λi σ Y=>δ H Y/\E4 λ(xs:eu)(Z:List (Key×V))(v5 v6:Option V)=>Y lc=some (.lst (xs.map V.int))/\Y L=some (.dK Z)/\xs.length=m.toNat/\Z.length<=1+24*i/\(∀u,(u=r\/(0<=u/\u<m/\u≠r/\d u∈(bO m C r d f r).take i))->Tf Y J Z u)/\(∀u,0<=u->u<m->(u∈(bO m C r d f r).take i->(kd m C r d u=[]->∃(h:Nat)(n:Int),xs.getD u.toNat 0=h/\J u h n)/\(kd m C r d u≠[]->xs.getD u.toNat 0=0))/\(u∉(bO m C r d f r).take i->xs.getD u.toNat 0=0))/\σ=[some (V.ref o),some (V.int z),some (V.int M),some (V.ref lc),some (V.ref L),v5,v6]) ⟨s4,_,_,_,_,a2,e4,bU ..,(show 1<=1+24*0 by decide),?_,?_,rfl⟩ (λi σ Y _ y=>μ.of (y.1 _ _ TA.hd)) ?_ ?_
 .rintro u (rfl|⟨_,_,_,y⟩)
  .exact⟨W,z,M,ju rfl,a8,jr⟩
  .cases y
 .intro u u0 u1;refine⟨λy=>(by cases y),λ_=>?_⟩;rw[bH,d5];split<;>rfl
 .rintro i y σ Y N BB Ϥ hN hy ⟨s5,xs,Z,v5,v6,ex,ew,xl,kl5,wt,pr5,rfl⟩;obtain⟨v,hv,rfl⟩:=List.θ hy;have X:=pr v (aJ hv);have il:=(ar.mp hv).1;refine Ϥ _ _ (cU λM1 k1=>?_);have cS:Tf Y J Z v:=by
   refine wt v ?_;rw[TA.et]at hv ⊢;cases i with
   | zero=>exact .inl (br hv).symm
   | succ j=>
     have XN:tl[j]?=some v:=hv;have vt:=aJ XN;have vr:=TA.or.ne vt;refine .inr ⟨X.1,X.2,vr,?_⟩;have au:=After.up (A:=tl.take (j+1)) (B:=tl.drop (j+1)) (S:=[r]) (by rw[cw];exact TA.or.af) v (by rw[cI,XN];exact aR _ (.head _));have pd:=(R.up v X.1 X.2 vr).2.2;rw[m6];rcases au with y|y
     .rw[aE.mp y];exact .head _
     .rw[cI,XN]at y;rcases aV.mp y with y|y
      .exact .tail _ y
      .have:d v=v:=aE.mp y;rw[this]at pd
       lia
  obtain⟨q0,h0,n0,w1,w2,w3⟩:=cS;obtain⟨hb,I,i0,ca,cx⟩:=jj v h0 n0 X.1 X.2 w3;walk_at "";have dg:=ϔ.k (H:=Y) (k:=Sum.inl v) ew;rw[w1]at dg;refine⟨_,dg,k1 _ _ (cU λM2 k2=>?_)⟩;have cv:(cY m.toNat)[v.toNat]?=some v:=by rw[f9 (by lia),bn X.1]
  obtain⟨Ϸ,Yg,Xd⟩:=uf TA.kp cv;have aT:(bO m C r d f r).take (i+1)=(bO m C r d f r).take i++[v]:=by rw[cI,hv];rfl
  have a9:∀(O:eu)(H6:Hp),δ H H6->H6 lc=some (.lst (O.map V.int))->H6 L=some (.dK Z)->(∀q x,Y q=some (.tup x)->H6 q=some (.tup x))->O.length=m.toNat->(∀u,0<=u->u<m->(u∈(bO m C r d f r).take (i+1)->(kd m C r d u=[]->∃(h:Nat)(n:Int),O.getD u.toNat 0=h/\J u h n)/\(kd m C r d u≠[]->O.getD u.toNat 0=0))/\(u∉(bO m C r d f r).take (i+1)->O.getD u.toNat 0=0))->M2 [some (V.ref o),some (V.int z),some (V.int M),some (V.ref lc),some (V.ref L),some (V.int v),some (V.ref q0)] H6:=by
   intro O H6 s6 ci av tp c6 cl;refine k2 _ _ ?_;have e6:=tp _ _ w2;walk_at "";refine⟨.inr (.inr (.inl ⟨rfl,.inl ⟨_,av⟩⟩)),Xa e6 rfl (Xa e6 rfl ?_)⟩;refine⟨o,p,t,m,ps,C,r,d,f,tl,ld,lw,lb,lk,lr,kl,rv,v,n0,h0,I,rfl,TA.same s6,X,hb,i0,ca,λl H7 a5 nu an ie am nl s7 hd=>?_⟩;obtain⟨G,cr,a4⟩:=hd;have bd:=s7 _ _ av;have cc:L≠l:=λy=>by rw[<-y,av]at nl;cases nl
   have ml:G.length=an.length:=Paired.length a4;have al:an.length<=24:=by
    have h1:=congrArg List.length am;rw[aa]at h1;have h2:(kd m C r d v).length<=24:=AH g
    lia
   have kp:∀q x,H7 q=some (.tup x)->upd H7 L (HO.dK (j1 Z G)) q=some (.tup x):=λq x e=>by rw[aP (iR e bd (by intro y;cases y))];exact e
   refine⟨L,l,Z,G,rfl,rfl,bd,cr,cc,cg (by lia),hN _ _ ⟨(s6.trans s7).put a7 _,O,_,_,_,by rw[aP aC];exact s7 _ _ ci,aw,c6,?_,λu hu=>?_,cl,rfl⟩⟩
   .have:=pJ G Z
    lia
   .obtain⟨pm1,pm2⟩:=LZ a4;rcases Ct G Z (.inl u)with⟨kv,k1',k2',k3'⟩|⟨k1',k2'⟩
    .obtain⟨x,hx,x1,q1,x2,x3⟩:=pm1 kv k1';have xu:x.1=u:=(by rw[x1]at k2';exact Sum.inl.inj k2');exact⟨q1,x.2.1,x.2.2,by rw[k3',x2],kp _ _ x3,xu▸cx a5 nu an ie x hx⟩
    .have old:u=r\/(0<=u/\u<m/\u≠r/\d u∈(bO m C r d f r).take i):=by
      rcases hu with y|⟨y1,y2,y3,y4⟩
      .exact .inl y
      .rw[aT]at y4;rcases aV.mp y4 with y4|y4
       .exact .inr ⟨y1,y2,y3,y4⟩
       .have pu:d u=v:=aE.mp y4;have uk:u∈kd m C r d v:=(bB g R X.1 X.2).mpr ⟨⟨y1,y2⟩,y3,pu⟩;rw[<-am]at uk;obtain⟨x,hx,e⟩:=bz.mp uk;obtain⟨kv,X1,b2,_⟩:=pm2 x hx;exact absurd (by rw[b2,e]) (k1' kv X1)
     obtain⟨q1,cs,cf,o1,o2,o3⟩:=wt u old;exact⟨q1,cs,cf,by rw[k2'];exact o1,kp _ _ (s7 _ _ (tp _ _ o2)),o3⟩
  walk_at "";refine⟨T.Tally,dx,_,s5 _ _ ob,T.cZ,T.rX,_,qD _ _ _ _ _ _,Η (s5 _ _ TA.hk) (cB X.1 (by rw[aH,Yg];rfl)) ?_⟩;have vn:v∉(bO m C r d f r).take i:=λy=>by
   obtain⟨j,hj,ej⟩:=d8 y;rw[bg]at hj;rw[fI]at ej;have:=(fH (show j<(bO m C r d f r).length by lia) nd).mp (show(bO m C r d f r)[j]?=(bO m C r d f r)[i]? by rw[hv,ao (by lia),ej])
   lia
  have v1:v∈(bO m C r d f r).take (i+1):=by rw[aT];exact aR _ (.head _)
  have un:∀u,u≠v->(u∈(bO m C r d f r).take (i+1)↔u∈(bO m C r d f r).take i):=λu nu=>by
   rw[aT];exact⟨λy=>(aV.mp y).elim id λy=>absurd (aE.mp y) nu,λy=>bq _ y⟩
  by_cases c:kd m C r d v=[]
  .refine⟨false,.inl ⟨_,μ.of (s5 _ _ Xd),by rw[c];rfl⟩,?_⟩;rw[aj rfl];refine Xa w2 rfl (tY ex X.1 (by rw[aa];lia) ?_);rw[<-eM];refine a9 (xs.set v.toNat h0) _ (s5.put c5 _) aw (by rw[aP (Ne.symm aC)];exact ew) (λq x e=>by rw[aP (iR e ex (by intro y;cases y))];exact e) (by rw[dB];exact xl) λu u0 u1=>?_;rw[oB _ _ _ _ (by lia)];by_cases cu:u=v
   .subst cu;rw[aj rfl];exact⟨λ_=>⟨λ_=>⟨h0,n0,rfl,w3⟩,λy=>absurd c y⟩,λy=>absurd v1 y⟩
   .rw[ah (by lia),un u cu];exact pr5 u u0 u1
  .refine⟨true,.inl ⟨_,μ.of (s5 _ _ Xd),by cases e:kd m C r d v with|nil=>exact absurd e c|cons a b=>rfl⟩,?_⟩;rw[ah (by decide)];refine a9 xs Y s5 ex ew (λ_ _ e=>e) xl λu u0 u1=>?_;by_cases cu:u=v
   .subst cu;exact⟨λ_=>⟨λy=>absurd y c,λ_=>(pr5 u u0 u1).2 vn⟩,λy=>absurd v1 y⟩
   .rw[un u cu];exact pr5 u u0 u1
 .rintro BB σ Y Ϥ ⟨s5,xs,Z,v5,v6,ex,ew,xl,kl5,wt,pr5,rfl⟩;rw[aa,bo]at pr5;refine Ϥ _ _ (h3 _ _ ?_);walk_at "";refine⟨_,.inl ⟨μ.of ex,λl nl=>q l xs _ (by lia) (λu u0 u1=>(pr5 u u0 u1).1 (pn u u0 u1)) (s5.free nl) (s5.trans (δ.new _ nl)) aw⟩⟩
theorem BE{m:Int}{b:hT}{r:Int}{a:fc}{c:fz}(g:Good m b)(R:ε m b r a c)(k:Int)(e:0<=k)(f:k<m)(d:k≠r):(cK b a k:Int)=tup b a k:=bn (by have:=(gP g R e f d).1;lia)
theorem Wi{m:Int}{f:hT}{r:Int}{c:fc}{e:fz}{s:eu}(g:Good m f)(R:ε m f r c e)(O:Order m r c s){v:Int}{z:Nat}(u:0<=v)(t:v<m)(H:ν m f r c e v*((z:Int)+1)<=2^64):xL m f r c e s v z (λ_ j _ y=>j<=z/\∀x∈y,ν m f r c e x.1*((x.2.1:Int)+1)<=2^64):=by
 intro i k j N y B J D G Q ⟨_,I⟩ M F _ _ _ _;have L:=(f7 g R u t).1;obtain⟨A,C,E⟩:=(bB g R u t).mp (aJ G);have o:∀a:Nat,a<=z->ν m f r c e v*((a:Int)+1)<=2^64:=λa h=>bE (cm (by lia) (by lia)) H;have q:∀x∈(kd m f r c v).drop (i+1),x∈kd m f r c v:=λx h=>cj h;have l:∀x∈kd m f r c v,0<=x/\x<m:=λx h=>((bB g R u t).mp h).1;have b:=J0 (fr:=ϗ m f r c e s) (be:=Ϝ m f r c e s) g R O (BE g R) (x:=64) u t (λx h=>Jc g R O (BE g R) _ (l x h).1 (l x h).2 (ax _)) q (o (j-B) (by lia));have p:=q9 (fr:=ϗ m f r c e s) (be:=Ϝ m f r c e s) (ws:=λk g=>ϯ m f r c e s k (υ (cK f c k) g)) (ks:=(kd m f r c v).drop (i+1)) (λx h n=>vf g R _ (l x (q x h)).1 (l x (q x h)).2 (ax _) _) (j-B);have d:=tW (λk=>oR m f r c e k+1) (kd m f r c v) (i+1);rw[jA g R u t]at d;have dl:=py g R u t;have Θ:=g.Θ;rw[F.val];refine⟨by unfold ϯ at p ⊢;lia,Int.lt_of_le_of_lt b (by
  rw[show(2:Int)^9000=2^8999*2 from Int.pow_succ ..];have:=z3 (a:=64*(((kd m f r c v).drop (i+1)).map λk=>oR m f r c e k+1).sum) (b:=8999) (by lia);have:=lQ 8999
  lia),by lia,λx hx=>?_⟩
 rcases aV.mp hx with hx|hx
 .exact I x hx
 .rw[aE.mp hx];have:=CS g R O A.1 A.2 C (BE g R k A.1 A.2 C) B;rw[E]at this;exact bE this (o B (by lia))
def RkI(m:Int)(c:hT)(r:Int)(a:fc)(b:fz)(e:eu)(v:Int)(z:Nat)(f:Int)(i d:Nat)(h:Int)(j:hP):Prop:=d<=z/\0<=h/\h<ξ (ϗ m c r a b e) (Ϝ m c r a b e) (λk g=>ϯ m c r a b e k (υ (cK c a k) g)) ((kd m c r a v).drop i) d/\∃ch:List (Int×Nat×Int),j=ch.map (λx=>(x.1,υ (cK c a x.1) x.2.1,x.2.2))/\(∀x∈ch,x.2.1<=z/\0<=x.2.2/\x.2.2<ϯ m c r a b e x.1 (υ (cK c a x.1) x.2.1))/\∀l,Rk (ϗ m c r a b e) (Ϝ m c r a b e) (λk g=>ϯ m c r a b e k (υ (cK c a k) g)) ((kd m c r a v).drop i) d l h->Rk (ϗ m c r a b e) (Ϝ m c r a b e) (λk g=>ϯ m c r a b e k (υ (cK c a k) g)) (kd m c r a v) z (ch++l) f
theorem Wh{m:Int}{e:hT}{r:Int}{a:fc}{d:fz}{j:eu}(g:Good m e)(R:ε m e r a d)(O:Order m r a j){v o:Int}{z:Nat}(C:0<=v)(B:v<m)(hz:ν m e r a d v*((z:Int)+1)<=2^64):xL m e r a d j v z (RkI m e r a d j v z o):=by
 intro i k l nu an n N s A L ⟨_,X,n1,ch,Y,Q,P⟩ G t H J ge E;have D:∀v,0<=v->v<m->v≠r->1<=cK e a v/\cK e a v<=1000000:=λx x0 S xr=>by
  have:=gP g R x0 S xr;unfold cK
  lia
 have M:∀k,ϗ m e r a d j k=true->Ϝ m e r a d j k=false:=λk h=>by
  unfold ϗ at h;unfold Ϝ;rw[b5]at h;have:=bZ h.2;exact bw this
 have W:∀x∈kd m e r a v,∀i,1<=(λk g=>ϯ m e r a d j k (υ (cK e a k) g)) x i:=λx hx i=>by
  have F:=((bB g R C B).mp hx).1;exact vf g R _ F.1 F.2 (ax _) _
 have u:=λ(q:Nat)(T:q<=l+1)=>JJ (fr:=ϗ m e r a d j) (be:=Ϝ m e r a d j) (c:=cK e a) g R D C B A t H T;obtain⟨a1,a2,⟨V,Z⟩,a5⟩:=Rk.go A W P X n1 G (λ_ b=>J b) (λf b=>ge b f) (λf=>by
  have p:=u n (by lia);have y:=u (n+1) (by lia);unfold lE at p y;rw[aj f,aj f]at p y;have:=E (M k f) f;rw[p,y]at this;exact this)
 have I:=Wi g R O C B hz i k l nu [] n N s A L ⟨L,λx hx=>(by cases hx)⟩ G t H J ge E;refine⟨I.1,I.2.1,?_⟩;rw[t.val,u n (by lia)];exact⟨by lia,a1,a2,ch++[(k,n,_)],by rw[Y,aB];rfl,λx hx=>by
  rcases aV.mp hx with hx|hx
  .exact Q x hx
  .rw[aE.mp hx];exact⟨show n<=z by lia,V,Z⟩,a5⟩
theorem WL{m:Int}{c:hT}{r:Int}{a:fc}{b:fz}{o:eu}(g:Good m c)(R:ε m c r a b)(O:Order m r a o){n u:fz}{p:fc}(N:ϭ m c r a b (ϗ m c r a b o) (Ϝ m c r a b o) (cK c a) n u p){v:Int}(j:0<=v)(i:v<m)(y:ν m c r a b v*((n v:Int)+1)<=2^64):∃I:Nat->Nat->Int->List (Int×Nat×Int)->Prop,I 0 (n v) (p v) []/\xL m c r a b o v (n v) I/\∀d t l,I (kd m c r a v).length d t l->∀x∈l,x.2.1=n x.1/\x.2.2=p x.1/\ν m c r a b x.1*((x.2.1:Int)+1)<=2^64:=by
 have bd:=N.bd g R j i;rw[ms g R j i]at bd;refine⟨RkI m c r a b o v (n v) (p v),⟨ax _,bd.1,bd.2,[],rfl,λx s=>(by cases s),λD h=>h⟩,Wh g R O j i y,?_⟩;rintro d t l ⟨_,F,z,ch,rfl,_,P⟩ x s;rw[fA]at z P;have:t=0:=by have:t<1:=z;lia
 subst this;have h:=P [] (.nil _);rw[bJ]at h;have e:ch=(kd m c r a v).map λk=>(k,u k,p k):=h.inj (vb g R j i) (N.at_ v j i) rfl;subst e;rw[kT]at s;obtain⟨k,C,rfl⟩:=bz.mp s;obtain⟨f,q,A⟩:=(bB g R j i).mp C;have B:=(N.kid g R f.1 f.2 q).2.1;have w:=CS g R O f.1 f.2 q (BE g R k f.1 f.2 q) (u k);rw[A]at w B;have E:=(f7 g R j i).1;exact⟨(N.up k f.1 f.2 q).symm,rfl,bE w (bE (cm (by lia) (by lia)) y)⟩
def uQ(T:Txt K U):Sp:=λk H Q E=>E8 λ(p t:Addr)(m:Int)(j:g8)(d:hT)(r w e:Int)=>k=[.ref p,.int r,.int w,.int e]/\ο T.Web H p m t j d/\w<=10^60/\-(10^60)<=w/\(0<=r->r<m->1<=w->∃a b,ε m d r a b/\(ϡ m d r a (cJ m d r a b) w+1<=1000000000000->∀f,Order m r a f->bO m d r a b r=r::f->((0<=e/\e<ϯ m d r a b f r (w-1).toNat)->∀(l:Addr)(g:eu)(h n:fz)(i:fc)(c:Hp),ϭ m d r a b (ϗ m d r a b f) (Ϝ m d r a b f) (cK d a) h n i->(h r:Int)=w-1->i r=e->(g.length:Int)=m->(∀v,0<=v->v<m->g.getD v.toNat 0=if kd m d r a v=[]then(h v:Int)else 0)->H l=none->δ H c->c l=some (.tup (g.map V.int))->Q (.ref l) c)/\(¬(0<=e/\e<ϯ m d r a b f r (w-1).toNat)->∀c,δ H c->E (.ref T.NoNumber) none c))/\(1000000000000<ϡ m d r a (cJ m d r a b) w+1->∀c,δ H c->E (.ref T.TooMany) none c))/\(¬(0<=r/\r<m)->∀c,δ H c->E (.ref T.NoPlace) none c)/\(0<=r->r<m->w<1->∀c,δ H c->E (.ref T.BadWish) none c)
abbrev mY:Stmt:=top 53
theorem Ik:ζ ["web","r","wanted","number","tally"] ["web","r","wanted","number"] (aG mY):=.of
theorem sD:Ϙ (aG mY) "Tally":=.of (by kernel_rfl)
theorem qf:Ϙ (aG mY) "NoNumber":=.of (by kernel_rfl)
abbrev oT(P w base)(T:Txt K U):=Cb P w K U base "check_told" kJ ["web","r","wanted"] 10 (sv T)
theorem HC(T:Txt K U)(hq:b6 (Β P w)){ι:Addr}{eA:FuncData}(gJ:Y2 K "__init__" "Tally.__init__" eL ι eA)(oH:Binds K eA ["self","web","r"] [])(oJ:Mk K T.Tally ι)(ω:Ψ P w K U base (Β P w) 10 ι eA ["self","web","r"] (me T))(mh:oT P w base T)(uU:Cb P w K U base "laying_at" rA ["tally","held","number"] 9 (xG T))(lG:ky P w base T):Ok P w K U base "worst_at" mY ["web","r","wanted","number"] 12 (uQ T):=λ_ _ D=>by
 refine D.F.XU Ik (by walk_at "v") λτ A al s H vs Q E hr h=>?_;obtain⟨p,t,m,ps,i,r,w,y,rfl,W,w2,w0,k,e,e'⟩:=h;have g:=W.go;refine⟨_,(ap (dI (ϛ mh hr dW (ag (γ 0) (ag (γ 1) (ag (γ 2) ay))))) (ap (ψ 4 (yy oJ ω (hr.mono (by decide)) sD.g T.C7 oH .nil dW (ag (γ 0) (ag (γ 1) ay)) (hdb:=sD.d))) (ap (dG (kK (zC wC rJ aL (γ 3) (ϛ lG hr dW (ag (γ 4) (ag (γ 1) (ag (aZ fU (γ 2) aL) ay)))))) (aM (pP T.sJ rfl qY qf.g T.wI (ag nO ay) (hdb:=qf.d))) cN) (aM (bL (ϛ uU hr dW (ag (γ 4) (ag (aZ fU (γ 2) aL) (ag (γ 3) ay))))))))),?_⟩;walk_at "s";walk_at "";refine⟨p,t,m,ps,i,r,w,rfl,W,w2,w0,λq B w1=>?_,e,e'⟩;obtain⟨a,f,R,k1,k2⟩:=k q B w1;refine⟨a,f,R,λcb N s1=>?_,k2⟩;dsimp only;intro x Y hx ad ne;have ai:upd N Y (.own x) x=none:=by rw[aP ne.symm];exact hx
 have s0:δ N (upd (upd N Y (.own x)) x (.ins T.Tally Y [])):=(δ.new _ ad).trans (δ.new _ ai);refine⟨x,Y,p,t,m,ps,i,r,rfl,aw,(W.same s1).same s0,⟨q,B⟩,a,f,R,λC ld lw lb lk lr kl rv H2 TA kp=>⟨rfl,?_⟩⟩;have s2:δ N H2:=λb o e=>kp b o (s0 b o e) (b9 e hx);have O:=s1.trans s2;obtain⟨k3,k4⟩:=k1 cb C TA.or TA.et;obtain⟨n,rfl⟩:∃n:Nat,w=((n+1:Nat):Int):=⟨(w-1).toNat,by lia⟩;have X:((n+1:Nat):Int)-1=(n:Int):=by lia
 have top:=RT g R q B w1;have W1:=(f7 g R q B).1;have nb:(n:Int)+1<=2^64:=sI W1 (by lia) (b:=2^64) (by rw[show(n:Int)+1=((n+1:Nat):Int)from rfl];lia);rw[X,bu]at k3 k4;rw[X];have M:∀Z,δ H Z->¬(0<=y/\y<ϯ m i r a f C r n)->[V.str (Str.ofString "no worst laying has this number")].length<=sizeLine/\E (Value.ref T.NoNumber) none Z:=λZ s' h=>⟨cg (by simp),k4 h Z s'⟩;by_cases J:0<=y
 .rw[aj J];obtain⟨_,lp,ϫ,h1,h2,h3,h4⟩:=TA.ϖ r ⟨q,B⟩;obtain⟨sr,es⟩:=wc (kd m i r a r);rw[es]at h4;obtain⟨ac,ob⟩:=TA.ob;have au:=ms (fr:=ϗ m i r a f C) (be:=Ϝ m i r a f C) (c:=cK i a) g R q B;cases h4 with
  | cons e he=>
    obtain⟨cs,G,c2⟩:=e;have c3:=c2.le (b':=15000) (tE (by have:=jA g R q B;have:=py g R q B;have:=g.Θ;lia));have cl:=c3.len;refine⟨x,ac,lr,lp,_,_,rv,_,r,cs,n,rfl,ob,pH _ _ _ _ _ _,TA.hr,q,h1,h3,G,by lia,hZ (k:=64) (by lia) (by decide),λc hc=>hZ (c3.bt c hc) (by decide),λj hj=>CQ (x:=64) (by lia) (by lia),λH3 S=>?_⟩;have ew:Ξ cs n 0=ϯ m i r a f C r n:=by
     rw[c3.val];unfold ϯ;rw[au]
    rw[ew];refine⟨_,rfl,?_⟩;by_cases G:y<ϯ m i r a f C r n
    .rw[ah (by lia)];obtain⟨cn,gv,XE,NS,en,eb⟩:=ϭ.ex (fr:=ϗ m i r a f C) (be:=Ϝ m i r a f C) (c:=cK i a) g R q B J G;refine⟨x,p,t,m,ps,i,r,a,f,C,ld,lw,lb,lk,lr,kl,rv,y,n,λu h nu=>h=cn u/\nu=XE u/\ν m i r a f u*((h:Int)+1)<=2^64,rfl,TA.same S,⟨q,B⟩,⟨en.symm,eb.symm,(show ν m i r a f r*((n+1:Nat):Int)<=2^64 by lia)⟩,?_,λl xs H4 xl xv nl s4 el=>k3 ⟨J,G⟩ l xs cn gv XE H4 NS (by lia) eb xl (λv I L=>?_) (O.free (S.free nl)) (O.trans (S.trans s4)) el⟩
     .rintro v h nu I L ⟨rfl,rfl,hw⟩;exact⟨sI (f7 g R I L).1 (by lia) hw,WL g R TA.or NS I L hw⟩
     .split
      .rename_i kz
       obtain⟨h,nu,X,rfl,_⟩:=(xv v I L).1 kz;exact X
      .rename_i kz
       exact(xv v I L).2 kz
    .rw[aj G];exact M _ (O.trans S) λz=>G z.2
 .rw[ah J];exact M _ O λz=>J z.1
theorem R9{e:(St->XK)->TS}{b:TH}{D:Ends}{a:St}{H:Hp}(h:∀N:St->XK,(∀a c o d,b D a c o d->N a c o d)->e N D a H):OE e b D a H:=h _ λ_ _ _ _ z=>z
def wQ(T:Txt K U):Sp:=λg H Q _=>E11 λ(p t:Addr)(m:Int)(h:g8)(d:hT)(r w c:Int)(a:fc)(b:fz)(f:eu)=>g=[.ref p,.int r,.int w,.int c]/\ο T.Web H p m t h d/\(0<=r/\r<m)/\1<=w/\w<=10^60/\ε m d r a b/\bO m d r a b r=r::f/\ϡ m d r a (cJ m d r a b) w+1<=1000000000000/\∀e,δ H e->Q (.str (if 0<=c/\c<ϯ m d r a b f r (w-1).toNat then "told" else "none")) e
abbrev om:Stmt:=top 87
theorem EA:ζ ["web","r","wanted","number","told"] ["web","r","wanted","number"] (aG om):=.of
theorem pE:Ϙ (aG om) "NoNumber":=.of (by kernel_rfl)
abbrev pZ(P w base)(T:Txt K U):=Cb P w K U base "worst_at" mY ["web","r","wanted","number"] 12 (uQ T)
theorem Ew(T:Txt K U)(hq:b6 (Β P w))(G:pZ P w base T):Ok P w K U base "_law_beyond" om ["web","r","wanted","number"] 13 (wQ T):=λ_ _ D=>by
 refine D.F.ό EA (by walk_at "v") λτ A n s H vs Q E L h=>?_;obtain⟨p,t,m,C,q,r,w,a,i,f,u,rfl,W,N,w1,Z,R,J,cb,k⟩:=h;have g:=W.go;refine⟨_,(ap (ψ 4 nO) (ap (Uo rfl rfl rfl (Ps (Oz (pyb G L (ag (γ 0) (ag (γ 1) (ag (γ 2) (ag (γ 3) ay))))))) (Wn T.sG.x pE.g T.wI (λ_=>(aM (ψ 4 nO))) UE (hdb:=pE.d))) (aM (bL (γ 4))))),?_⟩;walk_at "s";refine cU λN1 M=>?_;walk_at "";refine M _ _ (cU λS Y=>R9 λX I=>?_);walk_at "";have o:∀(j:Str) b,δ H b->j=(if 0<=a/\a<ϯ m q r i f u r (w-1).toNat then("told":Str)else "none")->S [some (V.ref p),some (V.int r),some (V.int w),some (V.int a),some (V.str j)] b:=λj b c e=>Y _ _ (by
  walk_at "";rw[e];exact k b c)
 refine⟨p,t,m,C,q,r,w,a,rfl,W,Z,by lia,λ_ _ _=>⟨i,f,R,λ_ O O' B=>?_,λz=>absurd z (by lia)⟩,λz=>absurd N z,λ_ _ z=>absurd z (by lia)⟩;have v:u=O:=(dy (J.symm.trans B)).2;subst v;refine⟨λy l xs cn gv nb b _ _ _ _ _ _ c _=>o _ b c (by rw[aj y]),λy b c=>I _ _ _ _ ?_⟩;walk_at "";refine⟨T.NoNumber,rfl,true,by rw[T.sG.mr];simp,?_⟩;rw[aj rfl];exact o _ b c (by rw[ah y])
def tN(T:Txt K U):Sp:=λi H Q _=>E12 λ(f lo b:Addr)(g:g8)(c:hT)(t d:eu)(m r w:Int)(a:fc)(e:fz)=>i=[.ref f,.ref lo,.ref b,.int w]/\Μ H f c/\Good m c/\ε m c r a e/\H lo=some (.lst (g.map V.ref))/\Α H r a g (r::t)/\Order m r a t/\(0<=r/\r<m)/\H b=some (.lst (d.map V.int))/\(d.length:Int)=m/\(∀x∈d,x.natAbs<2^4000)/\(w-1).natAbs<2^4000/\∀h,δ H h->Q (.int (ϡ m c r a d w)) h
abbrev pp:Stmt:=top 81
theorem F3:ζ ["tolls","order","weights","wanted","bound","place","near"] ["tolls","order","weights","wanted"] (aG pp):=.of
theorem Hb(T:Txt K U)(hq:b6 (Β P w)):Ok P w K U base "_law_bound" pp ["tolls","order","weights","wanted"] 1 (tN T):=λ_ _ D=>by
 refine D.F.ό F3 (by walk_at "v") λτ A M s H vs Q E hr h=>?_;obtain⟨X,lo,b,B,rs,t,xs,m,r,w,c,av,rfl,ta,g,R,ho,J,O,rr,Y,xl,xb,wb,k⟩:=h;have Θ:=g.Θ;have hu:=oS hr;refine⟨_,(ap (ψ 4 (aZ nj (Ε bF (γ 2) (iM ia (iM bF (γ 1) aL (λ_ _=>rfl)) aL (λ_ _=>rfl))) (aZ fU (γ 3) aL))) (ap (fq PassesOwn.never rfl (gQ (vZ yz (γ 1) (vR aL) Du)) (j0 (n:=2) rfl (cG (ϓ 5) (cG (ϓ 6) iA))) (aM (ψ 4 (aZ dR (γ 4) (aZ kO (Ε bF (γ 2) (γ 5)) (aZ fU (tf hu (γ 0) (jd (ag (γ 5) (ag (γ 6) ay))) (λ_ _=>rfl)) aL)))))) (aM (bL (γ 4))))),?_⟩;walk_at "s";unfold tSl BH Xi;walk_at "";have ql:B.length=(r::t).length:=Paired.length J;obtain⟨u,d,rfl⟩:∃u d,B=u::d:=by
  cases B with
  | nil=>cases ql
  | cons a l=>exact⟨a,l,rfl⟩
 have e0:H u=some (.tup (vPr r c r)):=by cases J with|cons h _=>exact h
 have pt:Α H r c d t:=by cases J with|cons _ h=>exact h
 have hm:=J4 (cs:=xs) (i:=r.toNat) (by lia);refine Η ho (cB (bC _) rfl) (Xa e0 rfl (Η Y (eQ rr.1 (by lia)) ⟨_,rfl,Nm (xb _ hm) wb,?_⟩));refine⟨lo,_,rfl,μ.of ho,λp np=>?_⟩;rw[GD _ (by decide),az,show(1:Int).toNat=1 from rfl,j5,gS];have y:=δ.new (.lst (d.map V.ref)) np;have G:upd H p (.lst (d.map V.ref)) p=some (.lst (d.map V.ref)):=aw;generalize upd H p (.lst (d.map V.ref))=H1 at y G ⊢;refine⟨p,rfl,⟨_,μ.of G⟩,?_⟩;have W:d.length=t.length:=Paired.length pt;refine uy (K:=K) (xs:=d.map V.ref) (λi j f=>δ H1 f/\∃(o L:Option V),j=[some (V.ref X),some (V.ref lo),some (V.ref b),some (V.int w),some (V.int (xs.getD r.toNat 0*(w-1)+((t.take i).map (Y5 rs c xs)).sum)),o,L]) ⟨δ.refl _,_,_,by rw[d7,dQ,List.sum_nil,lI]⟩ (λi j f _ z=>μ.of (z.1 _ _ G)) ?_ ?_
 .rintro i x j f N hN hx ⟨s3,o,L,rfl⟩;obtain⟨q,v,rfl,W8,hv,eq⟩:=pt.get hx;have I:=aJ hv;have C:=O.Λ v I;have e:=y.trans s3;obtain⟨kk,hk,k0,k1⟩:=lm g R C.1 C.2 (O.ne I);have fv:Pb.front r c v=V.int (c v):=by unfold Pb.front;rw[ah (O.ne I)]
  walk_at "";refine⟨_,Ι.of (e _ _ eq),rfl,_,_,rfl,_,_,rfl,rfl,?_⟩;rw[fv];refine Η (e _ _ Y) (eQ C.1 (by lia)) ⟨cg (by simp),λq' YJ=>?_⟩;have Z:=δ.new (.tup [V.int v,V.int (c v)]) YJ;have get:ϔ (upd f q' (.tup [V.int v,V.int (c v)])) X (V.ref q') (some (V.int kk)):=by
   obtain⟨η,X1,S⟩:=(ta.same e).ex;have hg:=ϔ.t (k:=[.inl v,.inl (c v)]) (Z _ _ X1) aw;rw[S,hk]at hg;exact hg
  refine⟨_,get,_,rfl,_,rfl,.inr ⟨by lia,by lia⟩,hN _ _ ⟨s3.trans Z,some (V.int v),some (V.int (c v)),?_⟩⟩;rw[AB hv];unfold Y5;rw[hk,Int.add_assoc]
  rfl
 .rintro j f ⟨s3,o,L,rfl⟩;rw[aa,W,bo,O.sums];walk_at "";exact k _ (y.trans s3)
def p8(T:Txt K U):Sp:=λg H Q _=>E9 λ(e lo:Addr)(f:g8)(c:hT)(t:eu)(m r:Int)(a:fc)(b:fz)=>g=[.ref e,.ref lo]/\Μ H e c/\Good m c/\ε m c r a b/\H lo=some (.lst (f.map V.ref))/\Α H r a f (r::t)/\Order m r a t/\t.length+1=m.toNat/\∀l d,H l=none->δ H d->d l=some (.lst ((cJ m c r a b).map V.int))->Q (.ref l) d
abbrev lS:Stmt:=top 79
theorem Fp:ζ ["tolls","order","weights","place","near"] ["tolls","order"] (aG lS):=.of
theorem ve:Ϙ (aG lS) "reversed":=.of (by kernel_rfl)
theorem F2(T:Txt K U)(hq:b6 (Β P w)):Ok P w K U base "_law_least" lS ["tolls","order"] 1 (p8 T):=λ_ _ D=>by
 refine D.F.ό Fp (by walk_at "v") λτ A X s H vs Q E hr h=>?_;obtain⟨dt,lo,M,o,t,m,r,a,d,rfl,ta,g,R,p,pa,O,tl,k⟩:=h;have m1:=g.m1;have Θ:=g.Θ;have hu:=oS hr;have f:M.length=(r::t).length:=Paired.length pa;rw[aD]at f;refine⟨_,(ap (ψ 2 (aZ qA (eI (ag aL ay)) (BV gI T.len (ag (γ 1) ay)))) (ap (fq PassesOwn.never rfl (rN ve.g T.reversed (γ 1)) (j0 (n:=2) rfl (cG (ϓ 3) (cG (ϓ 4) iA))) (aM (dG (Ce (JU (γ 4))) (aM (mw (BV (Ek rfl) T.max (ag (Ε bF (γ 2) (γ 4)) (ag (aZ kO (Ε bF (γ 2) (γ 3)) (tf hu (γ 0) (jd (ag (γ 3) (ag (γ 4) ay))) (λ_ _=>rfl))) ay))) (ow (γ 2) (γ 4) jT))) cN))) (aM (bL (γ 2))))),?_⟩;walk_at "s";walk_at "";refine⟨cg (by simp),λZ n0=>?_⟩;have C:=δ.new (.lst [V.int 1]) n0;refine⟨_,.inl (μ.of (C _ _ p)),?_⟩;rw[aa];refine⟨Z,_,_,rfl,rfl,aw,by lia,by lia,cg (by simp;lia),λl B=>?_⟩;rw[BL];rw[show((M.length:Int)).toNat=m.toNat by lia];have I:=C.trans (δ.new (.lst (List.replicate m.toNat (V.int 1))) B);have nl:=C.free B;have e1:upd (upd H Z (.lst [V.int 1])) l (.lst (List.replicate m.toNat (V.int 1))) l=some (.lst ((List.replicate m.toNat (1:Int)).map V.int)):=by rw[aw,gq]
 have au:lo≠l:=λz=>by rw[<-z,C _ _ p]at B;cases B
 generalize upd (upd H Z (.lst [V.int 1])) l (.lst (List.replicate m.toNat (V.int 1)))=H1 at I e1 ⊢;refine⟨_,μ.of (I _ _ p),?_⟩;have st:ϳ mx m o r a d (λ_=>1) (bor o a) [] (List.replicate m.toNat (1:Int)):=ϳ.nil (by rw[bU];lia) λv v0 v1=>by
  rw[List.getD,jI (by lia)];rfl
 refine pN (K:=K) (xs:=M.map V.ref) (λi y b=>δ H b/\E3 λ(c:eu)(W L:Option V)=>b l=some (.lst (c.map V.int))/\ϳ mx m o r a d (λ_=>1) (bor o a) (t.drop (t.length-i)) c/\y=[some (V.ref dt),some (V.ref lo),some (V.ref l),W,L]) ⟨I,_,_,_,e1,by rw[gm,fA];exact st,rfl⟩ (λi y b _ z=>μ.of (z.1 _ _ p)) ?_ ?_
 .rintro i x y b N hN hx ⟨s5,c,W,L,c5,so,rfl⟩;have il:=(ar.mp hx).1;rw[aU,aa,f]at il;rw[b7 (by rw[aa,f];lia),aa,f]at hx;obtain⟨q,v,rfl,hq,hv,e5⟩:=pa.get hx;have j:(r::t).reverse[i]?=some v:=by rw[b7 (by rw[aD];lia),aD];exact hv
  rw[dD]at j;have cl:=so.len;walk_at "";refine⟨_,Ι.of (s5 _ _ e5),rfl,_,_,rfl,_,_,rfl,rfl,?_⟩;walk_at "";by_cases ci:i<t.length
  .rw[c8 (by rw[aU];exact ci)]at j;obtain⟨⟨e,S⟩,ev,Y⟩:=O.acb yt g R so j;have u:=R.up v e.1 e.2 S;obtain⟨kd,hd,d0,d1⟩:=lm g R e.1 e.2 S;have G:Pb.front r a v=V.int (a v):=(by unfold Pb.front;rw[ah S]);rw[G];have nn:¬V.int (a v)=V.π:=(by intro z;cases z);rw[aj nn];refine Η c5 (eQ u.1.1 (by lia)) (Η c5 (eQ e.1 (by lia)) ⟨cg (by simp),λq' YJ=>?_⟩);have J:=δ.new (.tup [V.int v,V.int (a v)]) YJ;have get:ϔ (upd b q' (.tup [V.int v,V.int (a v)])) dt (V.ref q') (some (V.int kd)):=by
    obtain⟨η,X1,ab⟩:=(ta.same s5).ex;have hg:=ϔ.t (k:=[.inl v,.inl (a v)]) (J _ _ X1) aw;rw[ab,hd]at hg;exact hg
   have c6:=J _ _ c5;refine⟨_,get,_,rfl,_,rfl,.inr ⟨by lia,by lia⟩,_,_,⟨rfl,rfl⟩,tY c6 u.1.1 (by rw[aa];lia) (hN _ _ ⟨(s5.trans J).put nl _,uo mx a (bor o a) c v,_,_,?_,Y,rfl⟩)⟩;rw[aw,<-eM];unfold uo bor mx;rw[hd]
   rfl
  .have ei:i=t.reverse.length:=(by rw[aU];lia);rw[ei,cT (ax _),dP]at j;cases j;have G:Pb.front r a r=V.π:=(by unfold Pb.front;rw[aj rfl]);rw[G,ah (λz=>z rfl)];refine hN _ _ ⟨s5,c,_,_,c5,?_,rfl⟩;rw[aU]at ei;rw[show t.length-(i+1)=t.length-i by lia];exact so
 .rintro y b ⟨s5,c,W,L,c5,so,rfl⟩;rw[aa,f,show t.length-(t.length+1)=0 by lia,gS]at so;rw[O.doneF yt g R so]at c5;walk_at "";exact k l b nl s5 c5
def uM(T:Txt K U):Sp:=λj H Q _=>E12 λ(i lo g:Addr)(c:Bool)(h:g8)(b:hT)(t e:eu)(m r:Int)(a:fc)(d:fz)=>j=[.ref i,.ref lo,.ref g]/\Μ H i b/\Good m b/\ε m b r a d/\H lo=some (.lst (h.map V.ref))/\Α H r a h (r::t)/\Order m r a t/\ϣ K c H g (e.map V.int)/\(e.length:Int)=m/\∀l f,H l=none->δ H f->f l=some (.lst ((rh m b r a d (λv=>e.getD v.toNat 0) (Υ b a)).map V.int))->Q (.ref l) f
abbrev oP:Stmt:=top 80
theorem IL:ζ ["tolls","order","laying","have","place","near"] ["tolls","order","laying"] (aG oP):=.of
theorem wA:Ϙ (aG oP) "reversed":=.of (by kernel_rfl)
theorem IE(T:Txt K U)(hq:b6 (Β P w)):Ok P w K U base "_law_load" oP ["tolls","order","laying"] 1 (uM T):=λ_ _ D=>by
 refine D.F.ό IL (by walk_at "v") λτ A S s H vs Q E hr h=>?_;obtain⟨dt,lo,I,c,qs,M,t,xs,m,r,a,y,rfl,ta,g,R,ho,pa,O,Y,xl,k⟩:=h;have m1:=g.m1;have Θ:=g.Θ;have hu:=oS hr;have f:qs.length=(r::t).length:=Paired.length pa;rw[aD]at f;have lx:μ K H I (xs.map V.int)\/Ι K H I (xs.map V.int):=by
  cases c
  .exact .inr Y
  .exact .inl Y
 refine⟨_,(ap (ψ 3 (pct ou T.list (ag (γ 2) ay))) (ap (fq PassesOwn.never rfl (rN wA.g T.reversed (γ 1)) (j0 (n:=2) rfl (cG (ϓ 4) (cG (ϓ 5) iA))) (aM (dG (Ce (JU (γ 5))) (aM (mw (aZ dR (Ε bF (γ 3) (γ 5)) (aZ fN (Ε bF (γ 3) (γ 4)) (tf hu (γ 0) (jd (ag (γ 4) (ag (γ 5) ay))) (λ_ _=>rfl)))) (ow (γ 3) (γ 5) jT))) cN))) (aM (bL (γ 3))))),?_⟩;walk_at "s";walk_at "";refine⟨_,lx,λl nl=>?_⟩;have B:=δ.new (.lst (xs.map V.int)) nl;have e1:upd H l (.lst (xs.map V.int)) l=some (.lst (xs.map V.int)):=aw;generalize upd H l (.lst (xs.map V.int))=H1 at B e1 ⊢;refine⟨_,μ.of (B _ _ ho),?_⟩;refine pN (K:=K) (xs:=qs.map V.ref) (λi o b=>δ H b/\E3 λ(d:eu)(L G:Option V)=>b l=some (.lst (d.map V.int))/\ϕ m M r a y (λv=>xs.getD v.toNat 0) (Υ M a) (t.drop (t.length-i)) d/\o=[some (V.ref dt),some (V.ref lo),some (V.ref I),some (V.ref l),L,G]) ⟨B,xs,_,_,e1,by rw[gm,fA];exact ϕ.nil xl,rfl⟩ (λi o b _ z=>μ.of (z.1 _ _ ho)) ?_ ?_
 .rintro i x o b N hN hx ⟨s5,d,L,G,c5,so,rfl⟩;have il:=(ar.mp hx).1;rw[aU,aa,f]at il;rw[b7 (by rw[aa,f];lia),aa,f]at hx;obtain⟨q,v,rfl,hq,hv,e5⟩:=pa.get hx;have j:(r::t).reverse[i]?=some v:=by rw[b7 (by rw[aD];lia),aD];exact hv
  rw[dD]at j;have cl:=so.len;walk_at "";refine⟨_,Ι.of (s5 _ _ e5),rfl,_,_,rfl,_,_,rfl,rfl,?_⟩;walk_at "";by_cases ci:i<t.length
  .rw[c8 (by rw[aU];exact ci)]at j;obtain⟨⟨e,J⟩,ev,W⟩:=O.turn g R so j;have u:=R.up v e.1 e.2 J;obtain⟨kd,Z,d0,d1⟩:=lm g R e.1 e.2 J;have p:Pb.front r a v=V.int (a v):=(by unfold Pb.front;rw[ah J]);rw[p];have nn:¬V.int (a v)=V.π:=(by intro z;cases z);rw[aj nn];refine Η c5 (eQ u.1.1 (by lia)) (Η c5 (eQ e.1 (by lia)) ⟨cg (by simp),λq' YJ=>?_⟩);have C:=δ.new (.tup [V.int v,V.int (a v)]) YJ;have get:ϔ (upd b q' (.tup [V.int v,V.int (a v)])) dt (V.ref q') (some (V.int kd)):=by
    obtain⟨η,X1,X⟩:=(ta.same s5).ex;have hg:=ϔ.t (k:=[.inl v,.inl (a v)]) (C _ _ X1) aw;rw[X,Z]at hg;exact hg
   have c6:=C _ _ c5;refine⟨_,get,_,rfl,_,rfl,⟨by lia,by lia⟩,_,rfl,tY c6 u.1.1 (by rw[aa];lia) (hN _ _ ⟨(s5.trans C).put nl _,ut a (Υ M a) d v,_,_,?_,W,rfl⟩)⟩;rw[aw,<-eM];unfold ut Υ;rw[Z]
   rfl
  .have ei:i=t.reverse.length:=(by rw[aU];lia);rw[ei,cT (ax _),dP]at j;cases j;have p:Pb.front r a r=V.π:=(by unfold Pb.front;rw[aj rfl]);rw[p,ah (λz=>z rfl)];refine hN _ _ ⟨s5,d,_,_,c5,?_,rfl⟩;rw[aU]at ei;rw[show t.length-(i+1)=t.length-i by lia];exact so
 .rintro o b ⟨s5,d,L,G,c5,so,rfl⟩;rw[aa,f,show t.length-(t.length+1)=0 by lia,gS]at so;rw[O.done g R so]at c5;walk_at "";exact k l b nl s5 c5
def tL(T:Txt K U):Sp:=λf H Q _=>E8 λ(lo:Addr)(e:g8)(c:hT)(t:eu)(m r:Int)(a:fc)(b:fz)=>f=[.ref lo]/\Good m c/\ε m c r a b/\H lo=some (.lst (e.map V.ref))/\Α H r a e (r::t)/\Order m r a t/\t.length+1=m.toNat/\(0<=r/\r<m)/\∀l d,H l=none->δ H d->d l=some (.lst ((bO m c r a b r).map V.int))->Q (.ref l) d
abbrev lA:Stmt:=top 84
theorem ue:ζ ["order","row","left","place","kids_v"] ["order"] (aG lA):=.of
theorem u7:Zi (aG lA) "place":=.of (by kernel_rfl)
theorem AK(T:Txt K U)(hq:b6 (Β P w)):Ok P w K U base "_law_rows_down" lA ["order"] 1 (tL T):=λ_ _ D=>by
 refine D.F.ό ue (by walk_at "v") λτ A ck s H vs Q E hr h=>?_;obtain⟨lo,qs,d,t,m,r,b,I,rfl,g,R,ho,pa,O,tl,⟨r0,r1⟩,k⟩:=h;have m1:=g.m1;have Θ:=g.Θ;have hv:=hr.units;have ql:qs.length=(r::t).length:=Paired.length pa;rw[aD]at ql;obtain⟨q0,v0,e0,f0,f1,f2⟩:=pa.get (i:=0) (x:=V.ref (qs.headD 0)) (by
  cases qs with
  | nil=>simp at ql
  | cons a l=>rfl)
 cases(show v0=r by simpa using f1.symm);refine⟨_,(ap (ψ 1 (eI ay)) (ap (ψ 2 (eI (ag (Ε ia (iM bF (γ 0) aL (λ_ _=>rfl)) aL) ay))) (ap (pQ PassesOwn.never (Ϫ (Na hv) (γ 2) (eI ay)) (ap (t7 (i:=3) ue.nd rfl (Or.inr u7.l) (Bq PySem.F.plainAttrs_list PySem.F.slot_list_pop PySem.F.type_list_pop Cg (γ 2))) (ap (dI (j4 PySem.F.plainAttrs_list PySem.F.slot_list_append PySem.F.type_list_append f6 (γ 1) (ag (Ϭ 3) ay))) (ap (ψ 4 (BV zf T.sorted (ag (jv rfl (Zn ["pair","place"] 1 [3]) (gQ (γ 0)) (λ_ _ _ _=>(fe (i:=0) (show(["pair","place"]:hL).Nodup from by decide +kernel) rfl (Or.inl rfl))) (λ_ _ _ _=>(sV (Ϫ iH (Ε (yh K rfl) (pv 0) aL) (pv 1)))) (λ_ _ _ _=>(Ε (yh K rfl) (pv 0) aL))) ay))) (aM (dI (j4 PySem.F.plainAttrs_list PySem.F.slot_list_extend PySem.F.type_list_extend D9 (γ 2) (ag (L6 (γ 4) (yC vJ aL)) ay)))))))) (aM (bL (γ 1)))))),?_⟩;walk_at "s";refine cU λN1 h1=>?_;walk_at "";refine⟨by decide,λo n3=>h1 _ _ (cU λN2 h2=>?_)⟩;have s3:=δ.new (.lst []) n3;have e3:upd H o (.lst []) o=some (.lst (([]:eu).map V.int)):=aw;generalize upd H o (.lst [])=H3 at s3 e3 ⊢;walk_at "";refine Η (s3 _ _ ho) (cB (by decide) (v:=V.ref q0) (by rw[show(0:Int).toNat=0 from rfl,aH,f0];rfl)) (Xa (s3 _ _ f2) rfl ⟨cg (by simp),λe n4=>h2 _ _ (cU λN3 h3=>?_)⟩);have bd:H e=none:=s3.free n4;have ab:o≠e:=λz=>by rw[<-z,e3]at n4;cases n4
 have s4:=s3.trans (δ.new (.lst [V.int r]) n4);have a8:=δ.new (.lst [V.int r]) n4 _ _ e3;have a0:upd H3 e (.lst [V.int r]) e=some (.lst ([r].map V.int)):=aw;generalize upd H3 e (.lst [V.int r])=H4 at s4 a8 a0 ⊢;walk_at "";refine C9 (λn X H5=>E5 λ(N W f:eu)(v4 v5:Option V)=>n=2*(m.toNat-N.length)+W.length/\X=[some (.ref lo),some (.ref o),some (.ref e),v4,v5]/\δ H H5/\H5 o=some (.lst (f.map V.int))/\H5 e=some (.lst (W.map V.int))/\Φ m d r b N W/\(f++W).Perm (r::N)/\f++W.reverse.flatMap (bO m d r b I)=bO m d r b I r) (2*m.toNat+1) ⟨[],[r],[],_,_,rfl,rfl,s4,a8,a0,Φ.start,List.Perm.refl _,by simp⟩ ?_;rintro n X H5 NW BB Ϥ hN XD ⟨N,W,f,v4,v5,rfl,rfl,s5,ca,h4,J,pe,ep⟩;refine Ϥ _ _ _ ?_;have rk:∀w∈r::N,0<=w/\w<m:=λw hw=>by
  rcases aq.mp hw with rfl|z
  .exact⟨r0,r1⟩
  .exact J.Λ w z
 have nk:(r::N).Nodup:=bf.mpr ⟨J.nr,J.nd⟩;have kl:=fj (m:=m) (by lia) nk rk;have dn:=fj (m:=m) (by lia) J.nd J.Λ;have ac:=pe.length_eq;rw[aO]at ac;rw[aD]at kl ac;walk_at "";refine⟨by decide,λl5 n5=>Sf (ys:=[]) (δ.new _ n5 _ _ h4) aw ⟨_,rfl,?_⟩⟩;have Z:=s5.trans (δ.new (.lst []) n5);have af:=δ.new (.lst []) n5 _ _ ca;have G:=δ.new (.lst []) n5 _ _ h4;generalize upd H5 l5 (.lst [])=C at Z af G ⊢;rcases gZ W with rfl|⟨ws',q,rfl⟩
 .rw[ah (by simp)];rw[List.reverse_nil,List.flatMap_nil,bJ]at ep;subst ep;refine h3 _ _ ?_;walk_at "";exact k o C n3 Z af
 .rw[gY]at J G hN XD pe ep ac ⊢;rw[aj (by simp)];have hq:q∈ws'++[q]:=aR _ (aE.mpr rfl);have pr:=J.at_ r0 r1 hq;have M:=J.step g R r0 r1 (p:=q) (ws':=ws') (ic q ws');refine⟨NW,λdS H' z=>?_,?_⟩
  .obtain⟨m',lt,YT,YH,pl',a5,a6,z1,z2⟩:=XD _ _ z
   first|exact⟨m',lt,YT,YH,pl',a5,a6,z1,z2⟩|exact⟨m',lt,YT,YH,z1,pl',a5,a6,z2⟩
  rw[aB,az,dQ]at G;refine⟨Xj G,KP G ?_⟩;have s6:δ H (upd C e (.lst (ws'.map V.int))):=Z.put bd _;have al:upd C e (.lst (ws'.map V.int)) o=some (.lst (f.map V.int)):=by rw[aP ab];exact af
  have a1:upd C e (.lst (ws'.map V.int)) e=some (.lst (ws'.map V.int)):=aw;generalize upd C e (.lst (ws'.map V.int))=H6 at s6 al a1 ⊢;refine⟨Xj al,qN al (eJ (by rw[aa];lia)) ?_⟩;have s7:δ H (upd H6 o (.lst (f.map V.int++[V.int q]))):=s6.put n3 _;have aT:upd H6 o (.lst (f.map V.int++[V.int q])) o=some (.lst ((f++[q]).map V.int)):=by rw[aw,aB];rfl
  have an:upd H6 o (.lst (f.map V.int++[V.int q])) e=some (.lst (ws'.map V.int)):=by rw[aP ab.symm];exact a1
  generalize upd H6 o (.lst (f.map V.int++[V.int q]))=H7 at s7 aT an ⊢;refine⟨⟨_,μ.of (s7 _ _ ho)⟩,λpk be=>?_⟩;refine lW (K:=K) (c:=true) (a:=lo) (xs:=qs.map V.ref) (λj zs X S=>δ H7 S/\S pk=some (.lst zs)/\zs=(((r::t).take j).filter λc=>decide (c≠r/\b c=q)).map V.int/\∃v0,X=[v0,some (V.int q)]) ⟨δ.new _ be,aw,rfl,_,rfl⟩ (λj zs X S _ ⟨z,_⟩=>μ.of (z _ _ (s7 _ _ ho))) ?_ ?_
  .rintro j y zs X S N' Zr hj ⟨s8,e8,rfl,v0,rfl⟩;obtain⟨q',u,rfl,dO,L,e7⟩:=pa.get hj;have kl:(((r::t).take j).filter λc=>decide (c≠r/\b c=q)).length<=j:=aN (b8 ..) (by rw[bg];lia);have jl:=(ar.mp L).1;rw[aD]at jl;have e9:=s8 _ _ (s7 _ _ e7);walk_at "";refine Xa e9 (v:=Pb.front r b u) rfl ?_;by_cases cu:u=r
   .have fv:Pb.front r b u=V.π:=(by unfold Pb.front;rw[aj cu]);rw[fv];refine⟨by simp[nW],?_⟩;rw[ah (by intro z;cases z)];exact Zr _ _ _ ⟨s8,e8,by rw[vQ L (bw λz=>z.1 cu)],_,rfl⟩
   .have fv:Pb.front r b u=V.int (b u):=(by unfold Pb.front;rw[ah cu]);rw[fv];refine⟨by simp[nW],?_⟩;by_cases cp:b u=q
    .rw[aj (by rw[cp])];refine Xa e9 rfl ⟨e8,eJ (by rw[aa];lia),Zr _ _ _ ⟨s8.put be _,aw,by rw[Gn L (ba ⟨cu,cp⟩),aB];rfl,_,rfl⟩⟩
    .rw[ah (by intro z;injection z;contradiction)];exact Zr _ _ _ ⟨s8,e8,by rw[vQ L (bw λz=>cp z.2)],_,rfl⟩
  .rintro zs X S ⟨s8,e8,ez8,v0,rfl⟩;rw[aa,ql,show t.length+1=(r::t).length from rfl,bo]at ez8;subst ez8;have ci:((r::t).filter λc=>decide (c≠r/\b c=q)).Nodup:=O.nd.filter _;have mk:∀u,u∈((r::t).filter λc=>decide (c≠r/\b c=q))↔u∈kd m d r b q:=λu=>by
    rw[bB g R pr.1 pr.2,bG,decide_eq_true_iff];exact⟨λh=>⟨O.Λ u ((aq.mp h.1).resolve_left h.2.1),h.2⟩,λh=>⟨aq.mpr (O.all u h.1.1 h.1.2),h.2⟩⟩
   have d3:((r::t).filter λc=>decide (c≠r/\b c=q)).length<=t.length+1:=b8 ..;refine⟨pk,rfl,_,μ.of e8,by lia,λlz zs Y pz sz=>?_⟩;have ez:zs=kd m d r b q:=xw (pz.trans (ik ci mW mk)) sz ((zk m d q).filter _);subst ez;have s9:=s7.trans (s8.trans (δ.new (.lst ((kd m d r b q).map V.int)) Y));have aS:=δ.new (.lst ((kd m d r b q).map V.int)) Y _ _ (s8 _ _ aT);have ai:=δ.new (.lst ((kd m d r b q).map V.int)) Y _ _ (s8 _ _ an);have e9:upd S lz (.lst ((kd m d r b q).map V.int)) lz=some (.lst ((kd m d r b q).map V.int)):=aw;generalize upd S lz (.lst ((kd m d r b q).map V.int))=H9 at s9 aS ai e9 ⊢;have pq:bO m d r b I q=q::(kd m d r b q).flatMap (bO m d r b I):=fM g R pr.1 pr.2;have M:Φ m d r b (N++kd m d r b q) (ws'++kd m d r b q):=M;generalize kd m d r b q=B at e9 M pq ⊢;have cn:=fj (m:=m) (by lia) M.nd M.Λ;rw[aO]at cn;have b0:=fj (m:=m) (by lia) M.wnd λw hw=>M.at_ r0 r1 hw;rw[aO]at b0;refine⟨Xj ai,?_⟩;unfold Us;walk_at "";refine⟨_,μ.of e9,λlv ae=>?_⟩;rw[<-d9];have a7:=s9.trans (δ.new (.lst (B.reverse.map V.int)) ae);have au:=δ.new (.lst (B.reverse.map V.int)) ae _ _ aS;have a2:=δ.new (.lst (B.reverse.map V.int)) ae _ _ ai;have a9:upd H9 lv (.lst (B.reverse.map V.int)) lv=some (.lst (B.reverse.map V.int)):=aw;generalize upd H9 lv (.lst (B.reverse.map V.int))=dK at a7 au a2 a9 ⊢;refine⟨e,lv,_,_,rfl,rfl,a2,a9,cg (by rw[aa,aa,aU];lia),hN _ _ _ ?_ ⟨N++B,ws'++B.reverse,f++[q],_,_,rfl,rfl,a7.put bd _,?_,?_,M.perm (g6 _ B.reverse_perm.symm),?_,?_⟩⟩
   .rw[aO,aO,aO,aU];simp only[aD,dY]
    lia
   .rw[aP ab];exact au
   .rw[aw,<-aB]
   .have p1:(f++[q]++(ws'++B.reverse)).Perm (f++(ws'++[q])++B):=by
     rw[bW,bW];refine g6 _ ?_;rw[<-bW];exact List.Perm.append (mn) B.reverse_perm
    exact p1.trans (mF _ pe)
   .rw[<-ep,ij,ij,jK,l9,mI,bD,pq,j9];simp
def xS(T:Txt K U):Sp:=λj H Q _=>E12 λ(i lo g:Addr)(c:Bool)(h:g8)(d:hT)(t e:eu)(m r:Int)(a:fc)(b:fz)=>j=[.ref i,.ref lo,.ref g]/\Μ H i d/\Good m d/\ε m d r a b/\H lo=some (.lst (h.map V.ref))/\Α H r a h (r::t)/\Order m r a t/\t.length+1=m.toNat/\(0<=r/\r<m)/\ϣ K c H g (e.map V.int)/\(e.length:Int)=m/\∀l f,H l=none->δ H f->f l=some (.lst (((bO m d r a b r).map (Ϗ m d r a b (λv=>e.getD v.toNat 0) (Υ d a))).map V.int))->Q (.ref l) f
abbrev pF:Stmt:=top 86
theorem xW:ζ ["tolls","order","laying","load"] ["tolls","order","laying"] (aG pF):=.of
theorem yH:Zi (aG pF) "load":=.of (by kernel_rfl)
abbrev p4(P w base)(T:Txt K U):=Cb P w K U base "_law_load" oP ["tolls","order","laying"] 1 (uM T)
theorem FS(T:Txt K U)(S:b6 (Β P w))(oV:p4 P w base T)(qC:Cb P w K U base "_law_rows_down" lA ["order"] 1 (tL T)):Ok P w K U base "_law_tuple" pF ["tolls","order","laying"] 2 (xS T):=λ_ _ D=>by
 refine D.F.ό xW (by walk_at "v") λτ A B s H vs Q E X h=>?_;obtain⟨dt,lo,la,c,W,e,t,xs,m,r,b,d,rfl,ta,g,R,M,L,O,tl,o,ha,xl,k⟩:=h;have m1:=g.m1;refine⟨_,(ap (t7 (i:=3) xW.nd rfl (Or.inr yH.l) (Ζ oV X S (ag (γ 0) (ag (γ 1) (ag (γ 2) ay))))) (aM (bL (jv rfl (Zn ["place","load"] 1 [3]) (gQ (Ζ qC X S (ag (γ 1) ay))) (λ_ _ _ _=>(fe (i:=0) (show(["place","load"]:hL).Nodup from by decide +kernel) rfl (Or.inl rfl))) (λ_ _ _ _=>lu) (λ_ _ _ _=>(Ε (mQ K rfl) (pv 1) (pv 0))))))),?_⟩;walk_at "s";refine cU λN1 h1=>?_;walk_at "";refine⟨dt,lo,la,c,W,e,t,xs,m,r,b,d,rfl,ta,g,R,M,L,O,ha,xl,λll H1 nl x el=>h1 _ _ ?_⟩;walk_at "";refine⟨lo,W,e,t,m,r,b,d,rfl,g,R,x _ _ M,L.same x,O,tl,o,λlr H2 aT s2 Z=>⟨lr,rfl,⟨_,μ.of Z⟩,λN C=>?_⟩⟩;have Y:=x.trans s2;have pr:∀u∈bO m e r b d r,0<=u/\u<m:=λu p=>((oX g R _ r o.1 o.2).2 u p).1;have G:=s2 _ _ el;refine lW (K:=K) (c:=true) (a:=lr) (xs:=(bO m e r b d r).map V.int) (λj n q f=>δ H2 f/\f N=some (.lst n)/\n=(((bO m e r b d r).take j).map (Ϗ m e r b d (λv=>xs.getD v.toNat 0) (Υ e b))).map V.int/\∃I,q=[I,some (V.ref ll)]) ⟨δ.new _ C,aw,rfl,_,rfl⟩ (λj n q f _ ⟨z,_⟩=>μ.of (z _ _ Z)) ?_ ?_
 .rintro j y n q f N' Zr hj ⟨s6,e6,rfl,I,rfl⟩;obtain⟨u,p,rfl⟩:=List.θ hj;have J:=pr u (aJ p);have jl:=zJ g R o.1 o.2;have il:=(ar.mp p).1;walk_at "";refine Η (s6 _ _ G) (eQ J.1 (by unfold rh;rw[aa,cX];lia)) ?_;rw[qP J.1 J.2];refine⟨e6,eJ (by rw[aa,aa,bg];lia),Zr _ _ _ ⟨s6.put C _,aw,by rw[cI,p,aB,aB];rfl,_,rfl⟩⟩
 .rintro n q f ⟨s6,e6,rfl,I,rfl⟩;rw[aa,bo]at e6;exact k N f (Y.free C) (Y.trans s6) e6
def xB(T:Txt K U):Sp:=λa H Q _=>∃i:Int,a=[.int i]/\Q (.bl true) H
abbrev nI:Stmt:=top 82
theorem GM:ζ ["found"] ["found"] (aG nI):=.of
theorem pM:Ϙ (aG nI) "int":=.of (by kernel_rfl)
theorem pf:Ϙ (aG nI) "bool":=.of (by kernel_rfl)
theorem GO(T:Txt K U)(j:b6 (Β P w)):Ok P w K U base "_law_whole" nI ["found"] 1 (xB T):=λ_ _ D=>by
 refine D.F.ό GM (by walk_at "v") λe A a s H c Q E f h=>?_;obtain⟨i,rfl,k⟩:=h;refine⟨_,(aM (bL (vo (BV uY T.isinstance (ag (γ 0) (ag (DJ (v:=.ty "int") pM.g T.int SJ rfl (hn:=pM.n) (hd:=pM.d)) ay))) (vg (UQ (BV uY T.isinstance (ag (γ 0) (ag (DJ (v:=.ty "bool") pf.g T.bool Sg rfl (hn:=pf.n) (hd:=pf.d)) ay)))))))),?_⟩;walk_at "s";walk_at "";refine⟨_,_,_,true,rfl,.int i,λb h=>by cases h;rfl,_,rfl,?_⟩;rw[aj rfl];refine⟨_,_,_,false,rfl,.int i,λb h=>by cases h;rfl,_,rfl,?_⟩;exact k
def fG(m:Int)(a:eu):Bool:=decide ((a.length:Int)=m)&&a.all λx=>decide (0<=x)
theorem Eo{m:Int}{a:eu}(h:(a.length:Int)=m)(b:∀x∈a,0<=x):fG m a=true:=by
 unfold fG;rw[ba h,jb,fB];exact λx c=>ba (b x c)
theorem Wc{m:Int}{a:eu}(h:fG m a=true):(a.length:Int)=m:=by
 unfold fG at h;rw[b5]at h;exact bZ h.1
theorem Mp{m:Int}{a:eu}(h:fG m a=true):∀x∈a,0<=x:=by
 unfold fG at h;rw[b5,fB]at h;exact λx b=>bZ (h.2 x b)
def xH(T:Txt K U):Sp:=λe H Q _=>E8 λ(p a t:Addr)(c:Bool)(m:Int)(f:g8)(g:hT)(b:eu)=>e=[.ref p,.ref a]/\ο T.Web H p m t f g/\ϣ K c H a (b.map V.int)/\b.length<=1000/\∀d,δ H d->Q (.bl (fG m b)) d
abbrev rC:Stmt:=top 25
theorem GB:ζ ["web","numbers"] ["web","numbers"] (aG rC):=.of
theorem FU(T:Txt K U)(B:b6 (Β P w)):Ok P w K U base "is_filled" rC ["web","numbers"] 1 (xH T):=λ_ _ D=>by
 refine D.F.ό GB (by walk_at "v") λG A o s H L Q E I h=>?_;obtain⟨p,a,t,c,m,u,C,xs,rfl,W,g,J,k⟩:=h;refine⟨_,(aM (bL (vo (kH iH (BV gI T.len (ag (γ 1) ay)) (dz (γ 0) rfl) (gV _)) (vg (BV (Gr rfl) T.all (ag (jv rfl (vW (Nc:=["number"]) 1 (by decide +kernel) (by decide +kernel) rfl (by decide +kernel) rfl) (M7 c (γ 1)) (λ_ _ _ _=>(fe (i:=0) (show(["number"]:hL).Nodup from by decide +kernel) rfl (Or.inl rfl))) (λ_ _ _ _=>lu) (λ_ _ _ _=>(kH Fm (pv 0) aL (gV _)))) ay)))))),?_⟩;walk_at "s";walk_at "";obtain⟨r,ob⟩:=W.ob;have n:μ K H a (xs.map V.int)\/Ι K H a (xs.map V.int):=by
  cases c
  .exact .inr g
  .exact .inl g
 refine⟨_,n,T.Web,r,_,ob,T.lM,T.ϑ,_,kt m t,rfl,?_⟩;rw[aa];by_cases j:(xs.length:Int)=m
 .rw[aj (by rw[j])];refine⟨⟨_,g⟩,λl nl=>?_⟩;refine lW (K:=K) (c:=c) (xs:=xs.map V.int) (λi b f d=>δ H d/\d l=some (.lst b)/\b=((xs.take i).map λx=>decide (0<=x)).map V.bl/\∃v,f=[v]) ⟨δ.new _ nl,aw,rfl,_,rfl⟩ (λi b f d _ z=>δ.XR z.1 g) ?_ ?_
  .rintro i x b f d N hN hx ⟨s2,e2,rfl,v,rfl⟩;rw[aH]at hx;obtain⟨y,q,rfl⟩:=eB.mp hx;walk_at "";refine⟨e2,eJ (by rw[aa,aa,bg];lia),hN _ _ _ ⟨s2.put nl _,aw,?_,_,rfl⟩⟩;rw[bQ,q,aB,aB]
   rfl
  .rintro b f d ⟨s2,e2,rfl,v,rfl⟩;refine⟨l,rfl,_,μ.of e2,?_⟩;have e:(((xs.take (xs.map V.int).length).map λx=>decide (0<=x)).all id)=fG m xs:=by
    rw[aa,bo,List.all_map];unfold fG;rw[ba j,jb]
    rfl
   rw[e];exact k _ s2
 .rw[ah (λz=>j (by injection z))];have e:fG m xs=false:=by
   unfold fG;rw[bw j,jg]
  rw[e]at k;exact k H (δ.refl _)
def tI(T:Txt K U):Sp:=λe H Q E=>E8 λ(p a t:Addr)(c:Bool)(m:Int)(f:g8)(g:hT)(d:eu)=>e=[.ref p,.ref a]/\ο T.Web H p m t f g/\ϣ K c H a (d.map V.int)/\d.length<=1000/\(fG m d=true->∀l b,δ H b->(b l=some (.tup (d.map V.int))\/(c=false/\l=a))->Ι K b l (d.map V.int)->Q (.ref l) b)/\(fG m d=false->∀b,δ H b->E (.ref T.BadLaying) none b)
abbrev nF:Stmt:=top 24
theorem Fq:ζ ["web","numbers"] ["web","numbers"] (aG nF):=.of
theorem pA:Ϙ (aG nF) "BadLaying":=.of (by kernel_rfl)
theorem GV(T:Txt K U)(y:b6 (Β P w))(x:Cb P w K U base "is_filled" rC ["web","numbers"] 1 (xH T)):Ok P w K U base "laying_of" nF ["web","numbers"] 2 (tI T):=λ_ _ D=>by
 refine D.F.XU Fq (by walk_at "v") λB A j s H C Q E u h=>?_;obtain⟨p,a,t,c,m,q,r,i,rfl,W,f,v,k,e⟩:=h;refine⟨_,(ap (dG (kK (mE (ϛ x u dW (ag (γ 0) (ag (γ 1) ay))))) (aM (pP T.uN rfl qY pA.g T.Ia (ag nO ay) (hdb:=pA.d))) cN) (aM (bL (pct kZ T.tuple (ag (γ 1) ay))))),?_⟩;walk_at "s";walk_at "";refine⟨p,a,t,c,m,q,r,i,rfl,W,f,v,λn b=>⟨_,rfl,?_⟩⟩;by_cases z:fG m i=false
 .rw[aj z];exact⟨by decide,e z n b⟩
 .rw[ah z];have o:fG m i=true:=by simpa using z
  cases c
  .exact⟨_,.inr ⟨δ.XR (c:=false) b f,k o a n b (.inr ⟨rfl,rfl⟩) (δ.XR (c:=false) b f)⟩⟩
  .exact⟨_,.inl ⟨δ.XR (c:=true) b f,λl nl=>k o l _ (b.trans (δ.new _ nl)) (.inl aw) (Ι.of aw)⟩⟩
def u8(T:Txt K U):Sp:=λi H Q E=>E9 λ(p a t:Addr)(c:Bool)(m:Int)(h:g8)(g:hT)(e:eu)(r:Int)=>i=[.ref p,.ref a,.int r]/\ο T.Web H p m t h g/\ϣ K c H a (e.map V.int)/\e.length<=1000/\(fG m e=true->0<=r->r<m->∃d f,ε m g r d f/\∀l b,H l=none->δ H b->b l=some (.lst ((rh m g r d f (λv=>e.getD v.toNat 0) (Υ g d)).map V.int))->Q (.ref l) b)/\(fG m e=false->∀b,δ H b->E (.ref T.BadLaying) none b)/\(fG m e=true->¬(0<=r/\r<m)->∀b,δ H b->E (.ref T.NoPlace) none b)
abbrev qk:Stmt:=top 33
theorem IV:ζ ["web","laying","r","counts","place","front"] ["web","laying","r"] (aG qk):=.of
theorem Ib(T:Txt K U)(hq:b6 (Β P w))(jW:jy P w base T)(nB:Cb P w K U base "laying_of" nF ["web","numbers"] 2 (tI T))(kN:jm P w base T):Ok P w K U base "gathered" qk ["web","laying","r"] 8 (u8 T):=λ_ _ D=>by
 refine D.F.XU IV (by walk_at "v") λτ A ac s H vs Q E hr h=>?_;obtain⟨p,a,t,c,m,L,y,xs,r,rfl,W,ha,hz,k,e,e'⟩:=h;have g:=W.go;have Θ:=g.Θ;refine⟨_,(ap (ψ 3 (pct ou T.list (ag (ϛ nB hr dW (ag (γ 0) (ag (γ 1) ay))) ay))) (ap (fq PassesOwn.leaving rfl (gQ (ϛ jW hr dW (ag (γ 0) (ag (γ 2) ay)))) (j0 (n:=2) rfl (cG (ϓ 4) (cG (ϓ 5) iA))) (aM (Si (γ 3) (γ 5) Qw (aZ fN (Ε bF (γ 3) (γ 4)) (ϛ kN hr dW (ag (γ 0) (ag (γ 4) (ag (γ 5) ay))))) xU jT))) (aM (bL (γ 3))))),?_⟩;walk_at "s";walk_at "";refine⟨p,a,t,c,m,L,y,xs,?_⟩;refine an6 rfl W ha hz (λfi l0 H0 s0 _ e0=>?_) e;have xl:(xs.length:Int)=m:=by
  unfold fG at fi;rw[b5]at fi;exact bZ fi.1
 refine⟨l0,rfl,_,.inr e0,λl n1=>?_⟩;have s1:=δ.new (.lst (xs.map V.int)) n1;have f:=s0.trans s1;have nl:=s0.free n1;have Y:upd H0 l (.lst (xs.map V.int)) l=some (.lst (xs.map V.int)):=aw;generalize upd H0 l (.lst (xs.map V.int))=H1 at s1 f Y ⊢;refine⟨p,t,m,L,y,r,?_⟩;refine an4 rfl (W.same f) (λr0 r1=>?_) (λz=>e' fi z H1 f);obtain⟨d,B,R,k⟩:=k fi r0 r1;refine⟨d,B,R,λS J G H2 _ n2 s2 e2 pa O=>?_⟩;have ab:S≠l:=λz=>by rw[z,Y]at n2;cases n2
 refine⟨S,rfl,⟨_,μ.of e2⟩,?_⟩;have ql:J.length=G.reverse.length:=Paired.length pa;refine mL (K:=K) (xs:=J.map V.ref) (λi I j=>δ H j/\j S=some (.lst (J.map V.ref))/\Δ j d J G.reverse/\E3 λ(C:eu)(X M:Option V)=>j l=some (.lst (C.map V.int))/\ϕ m y r d B (λv=>xs.getD v.toNat 0) (Υ y d) (G.drop (G.length-i)) C/\I=[some (V.ref p),some (V.ref a),some (V.int r),some (V.ref l),X,M]) ⟨f.trans s2,e2,pa,xs,_,_,s2 _ _ Y,by rw[gm,fA];exact ϕ.nil xl,rfl⟩ (λi I j _ z=>μ.of z.2.1) ?_ ?_
 .rintro i x I j N BB Ϥ hN hx ⟨s3,e3,ZU,C,X,M,c3,so,rfl⟩;refine Ϥ _ _ ?_;obtain⟨q,v,rfl,hq,hv,eq⟩:=ZU.get hx;obtain⟨⟨o,vn⟩,ev,ae⟩:=O.turn g R so hv;have u:=R.up v o.1 o.2 vn;obtain⟨kk,Z,k0,k1⟩:=lm g R o.1 o.2 vn;have cl:=so.len;walk_at "";refine⟨_,Ι.of eq,rfl,_,_,rfl,_,_,rfl,rfl,?_⟩;refine Η c3 (eQ u.1.1 (by lia)) (Η c3 (eQ o.1 (by lia)) ?_);refine⟨p,t,m,L,y,v,d v,rfl,W.same s3,λk' _ _ _ _ h=>?_,λz=>absurd ⟨o,u.1⟩ z,λ_ _ _ _ z=>by rw[Z]at z;cases z⟩;rw[Z]at h;cases h;refine⟨_,rfl,_,rfl,⟨by lia,by lia⟩,_,rfl,tY c3 u.1.1 (by rw[aa];lia) (hN _ _ ⟨s3.put nl _,?_,?_,ut d (Υ y d) C v,_,_,?_,ae,rfl⟩)⟩
  .rw[aP ab];exact e3
  .exact Paired.imp' (λa b h=>by rw[aP (iR h c3 (by intro z;cases z))];exact h) ZU
  .rw[aw,<-eM];unfold ut Υ;rw[Z]
   rfl
 .rintro BB I j Ϥ ⟨s3,e3,ZU,C,X,M,c3,so,rfl⟩;refine Ϥ _ _ ?_;rw[aa,ql,aU,dP,gS]at so;rw[O.done g R so]at c3;walk_at "";exact k l j nl s3 c3
def JN(T:Txt K U):Sp:=λh H Q E=>E9 λ(p a t:Addr)(c:Bool)(m:Int)(i:g8)(g:hT)(e:eu)(r:Int)=>h=[.ref p,.ref a,.int r]/\ο T.Web H p m t i g/\ϣ K c H a (e.map V.int)/\e.length<=1000/\(fG m e=true->0<=r->r<m->∃d f,ε m g r d f/\∀b,δ H b->Q (.int (Ϗ m g r d f (λv=>e.getD v.toNat 0) (Υ g d) r)) b)/\(fG m e=false->∀b,δ H b->E (.ref T.BadLaying) none b)/\(fG m e=true->¬(0<=r/\r<m)->∀b,δ H b->E (.ref T.NoPlace) none b)
abbrev BA:Stmt:=top 34
theorem Sx:ζ ["web","laying","r"] ["web","laying","r"] (aG BA):=.of
abbrev ri(P w base)(T:Txt K U):=Cb P w K U base "gathered" qk ["web","laying","r"] 8 (u8 T)
theorem RJ(T:Txt K U)(G:b6 (Β P w))(C:ri P w base T):Ok P w K U base "most" BA ["web","laying","r"] 9 (JN T):=λ_ _ D=>by
 refine D.F.XU Sx (by walk_at "v") λI A d s H J Q E y h=>?_;obtain⟨p,a,t,c,m,q,v,u,r,rfl,W,B,z,k,e,x⟩:=h;refine⟨_,(aM (bL (iM bF (ϛ C y dW (ag (γ 0) (ag (γ 1) (ag (γ 2) ay)))) (γ 2) (λ_ _=>rfl)))),?_⟩;walk_at "s";walk_at "";refine⟨p,a,t,c,m,q,v,u,r,?_⟩;refine an7 rfl W B z (λfi b i=>?_) e x;obtain⟨g,f,R,k⟩:=k fi b i;refine⟨g,f,R,λl o L j n=>?_⟩;refine Η n (eQ b ?_) ?_
 .unfold rh;rw[aa,cX];lia
 .rw[qP b i];exact k o j
def Am(T:Txt K U):Sp:=λb H Q _=>∃(p:Addr)(a:eu),b=[.ref p]/\(μ K H p (a.map V.int)\/Ι K H p (a.map V.int))/\Q (.int a.sum) H
abbrev yF:Stmt:=top 26
theorem Rp:ζ ["numbers"] ["numbers"] (aG yF):=.of
theorem PL(T:Txt K U)(g:b6 (Β P w)):Ok P w K U base "total" yF ["numbers"] 1 (Am T):=λ_ _ D=>by
 refine D.F.ό Rp (by walk_at "v") λe A a s H d Q E f h=>?_;obtain⟨p,b,rfl,c,k⟩:=h;refine⟨_,(aM (bL (BV (Av rfl) T.sum (ag (γ 0) ay)))),?_⟩;walk_at "s";walk_at "";exact⟨b,c,k⟩
def zt(T:Txt K U):Sp:=λi H Q E=>E10 λ(p a t:Addr)(c:Bool)(m:Int)(h:g8)(g:hT)(f:eu)(r w:Int)=>i=[.ref p,.int r,.int w,.ref a]/\ο T.Web H p m t h g/\ϣ K c H a (f.map V.int)/\f.length<=1000/\w<=10^60/\-(10^60)<=w/\(0<=r->r<m->1<=w->∃b e,ε m g r b e/\(fG m f=true->∀d,δ H d->Q (.bl (decide (f.sum=ϡ m g r b (cJ m g r b e) w)&&decide (Ϗ m g r b e (λv=>f.getD v.toNat 0) (Υ g b) r<w))) d)/\(fG m f=false->∀d,δ H d->E (.ref T.BadLaying) none d))/\(¬(0<=r/\r<m)->∀d,δ H d->E (.ref T.NoPlace) none d)/\(0<=r->r<m->w<1->∀d,δ H d->E (.ref T.BadWish) none d)
abbrev sS:Stmt:=top 51
theorem Ie:ζ ["web","r","wanted","laying","least","counts"] ["web","r","wanted","laying"] (aG sS):=.of
theorem Iq(T:Txt K U)(hq:b6 (Β P w))(S:Cb P w K U base "enough" uh ["web","r","wanted"] 9 (xh T))(Y:Cb P w K U base "laying_of" nF ["web","numbers"] 2 (tI T))(I:Cb P w K U base "most" BA ["web","laying","r"] 9 (JN T))(L:Cb P w K U base "total" yF ["numbers"] 1 (Am T)):Ok P w K U base "is_worst" sS ["web","r","wanted","laying"] 10 (zt T):=λ_ _ D=>by
 refine D.F.XU Ie (by walk_at "v") λτ A u s H vs Q E n h=>?_;obtain⟨p,a,t,c,m,o,g,j,r,w,rfl,W,O,B,Z,X,G,e,M⟩:=h;refine⟨_,(ap (ψ 4 (ϛ S n dW (ag (γ 0) (ag (γ 1) (ag (γ 2) ay))))) (ap (ψ 5 (ϛ Y n dW (ag (γ 0) (ag (γ 3) ay)))) (aM (bL (vo (kH iH (ϛ L n dW (ag (γ 5) ay)) (aZ fU (γ 4) aL) (gV _)) (vg (kH rJ (ϛ I n dW (ag (γ 0) (ag (γ 5) (ag (γ 1) ay)))) (γ 2) (gV _)))))))),?_⟩;walk_at "s";walk_at "";refine⟨p,t,m,o,g,r,w,rfl,W,Z,X,λv x J=>?_,e,M⟩;obtain⟨b,d,R,k,N⟩:=G v x J;refine⟨b,d,R,λH1 f=>⟨p,a,t,c,m,o,g,j,rfl,W.same f,δ.XR f O,B,λfi l C i _ y=>?_,λz C i=>N z C (f.trans i)⟩⟩;have k:=k fi;show Am T _ _ _ _;refine⟨l,j,rfl,.inr y,_,rfl,rfl,?_⟩;rw[Int.add_sub_cancel];by_cases q:j.sum=ϡ m g r b (cJ m g r b d) w
 .rw[aj (by rw[q])];refine⟨p,l,t,false,m,o,g,j,r,rfl,W.same (f.trans i),y,B,λ_ _ _=>⟨b,d,R,λH3 V=>⟨_,rfl,?_⟩⟩,(λz=>by rw[fi]at z;cases z),λ_ z=>absurd ⟨v,x⟩ z⟩;have:=k _ (f.trans (i.trans V));rw[ba q,jb]at this;exact this
 .rw[ah (by intro z;injection z;contradiction)];have:=k _ (f.trans i);rw[bw q,jg]at this;exact this
theorem Lm{m:Int}{b:hT}{r:Int}{a:fc}{c:fz}(g:Good m b)(R:ε m b r a c)(k:Int)(e:0<=k)(f:k<m)(d:k≠r):1<=cK b a k/\cK b a k<=1000000:=by
 have:=gP g R e f d;unfold cK
 lia
def sC(T:Txt K U):Sp:=λx H Q _=>E23 λ(o p t:Addr)(m:Int)(q:g8)(c:hT)(r:Int)(a:fc)(b:fz)(f:eu)(ld n z s B:Addr)(y:g8)(A:List V)(v:Int)(i j:Addr)(d e:eu)(h:Int)=>x=[.ref o,.int v,.ref i,.ref j]/\ϒ T.Web T.Tally H o p t m q c r a b f ld n z s B y A (λv=>0<=v/\v<m)/\(0<=v/\v<m)/\H i=some (.lst (d.map V.int))/\H j=some (.lst (e.map V.int))/\(d.length:Int)=m/\(e.length:Int)=m/\(∀u,0<=u->u<m->0<=d.getD u.toNat 0)/\d.getD v.toNat 0+1<=2^45/\((kd m c r a v).map λk=>d.getD k.toNat 0/tup c a k).sum<=d.getD v.toNat 0/\(∀u,0<=u->u<m->(e.getD u.toNat 0).natAbs<=2^(50000+600*oR m c r a b u))/\Rk (ϗ m c r a b f) (Ϝ m c r a b f) (λk g=>ϯ m c r a b f k (υ (cK c a k) g)) (kd m c r a v) (d.getD v.toNat 0).toNat ((kd m c r a v).map λk=>(k,(d.getD k.toNat 0/tup c a k).toNat,e.getD k.toNat 0)) h/\∀(l:Hp),h.natAbs<=2^(50000+600*oR m c r a b v)->δ H l->Q (.int h) l
abbrev iw:Stmt:=top 69
theorem mf:ζ ["tally","place","held","numbers","number","left","at","kid","given"] ["tally","place","held","numbers"] (aG iw):=.of
theorem oj:ZE (aG iw) "number":=.of (by kernel_rfl)
theorem u6:ZE (aG iw) "left":=.of (by kernel_rfl)
theorem rV:Ϙ (aG iw) "enumerate":=.of (by kernel_rfl)
theorem yU(T:Txt K U)(hq:b6 (Β P w))(kN:jm P w base T)(dq:ke P w base T)(lq:oD P w base T):Ok P w K U base "number_beneath" iw ["tally","place","held","numbers"] 8 (sC T):=λ_ _ D=>by
 refine D.F.ό mf (by walk_at "v") λτ A b3 s H vs Q E hr h=>?_;obtain⟨o,p,t,m,ps,B,r,a,G,tl,ld,lw,lb,lk,lr,kl,rv,v,lh,ln,J,ns,Yn,rfl,TA,I,eh,en,hl,nl,h0,hv,a8,nb,a3,q⟩:=h;have hu:=oS hr;have g:=TA.web.go;have R:=TA.rt;have d2:(kd m B r a v).length<=24:=AH g;refine⟨_,(ap (ψ 4 aL) (ap (ψ 5 (Ε bF (γ 2) (γ 1))) (ap (fq PassesOwn.never rfl (yq true rV.g T.enumerate (Ε bF (dz (γ 0) rfl) (γ 1))) (j0 (n:=2) rfl (cG (ϓ 6) (cG (ϓ 7) iA))) (ap (ψ 8 (aZ fN (Ε bF (γ 2) (γ 7)) (Ζ kN hr hq (ag (dz (γ 0) rfl) (ag (γ 7) (ag (γ 1) ay)))))) (ap (tH (i:=4) mf.nd rfl (Or.inl oj.l) (Ζ lq hr hq (ag (γ 0) (ag (γ 1) (ag (γ 6) (ag (γ 5) (ag (γ 8) ay)))))) xU) (ap (tH (i:=5) mf.nd rfl (Or.inl u6.l) (γ 8) Gs) (aM (tH (i:=4) mf.nd rfl (Or.inl oj.l) (aZ nj (Ε bF (γ 3) (γ 7)) (Ζ dq hr hq (ag (Ε bF (iM bF (dz (γ 0) rfl) (γ 1) (λ_ _=>rfl)) (aZ dR (γ 6) aL)) (ag (γ 5) ay)))) xU)))))) (aM (bL (γ 4)))))),?_⟩;walk_at "s";refine cU λN1 h1=>?_;walk_at "";refine h1 _ _ (cU λN2 h2=>?_);walk_at "";refine Η eh (eQ I.1 (by lia)) (h2 _ _ (cU λN3 h3=>?_));walk_at "";obtain⟨dx,ob⟩:=TA.ob;have a9:(cY m.toNat)[v.toNat]?=some v:=by rw[f9 (by lia),bn I.1]
 obtain⟨Ϸ,Yg,Xd⟩:=uf TA.kp a9;refine⟨T.Tally,dx,_,ob,T.cZ,T.rX,_,qD _ _ _ _ _ _,Η TA.hk (cB I.1 (by rw[aH,Yg];rfl)) ⟨Ϸ,rfl,⟨_,μ.of Xd⟩,?_⟩⟩;refine Ax (K:=K) (c:=true) (xs:=(kd m B r a v).map V.int) (λi σ S=>δ H S/\E5 λ(nu left:Int)(v6 v7 v8:Option V)=>left=J.getD v.toNat 0-(((kd m B r a v).take i).map λk=>J.getD k.toNat 0/tup B a k).sum/\nu.natAbs<=i*2^(50000+600*oR m B r a G v-590)/\(∃nr,Rk (ϗ m B r a G tl) (Ϝ m B r a G tl) (λk g=>ϯ m B r a G tl k (υ (cK B a k) g)) ((kd m B r a v).drop i) left.toNat (((kd m B r a v).drop i).map λk=>(k,(J.getD k.toNat 0/tup B a k).toNat,ns.getD k.toNat 0)) nr/\Yn=nu+nr)/\σ=[some (V.ref o),some (V.int v),some (V.ref lh),some (V.ref ln),some (V.int nu),some (V.int left),v6,v7,v8]) ⟨δ.refl _,0,_,_,_,_,(nV _).symm,bx _,⟨Yn,a3,(cW _).symm⟩,rfl⟩ (λi σ S y=>μ.of (y.1 _ _ Xd)) ?_ ?_
 .rintro i x σ S q' N hN hx ⟨s2,nu,left,v6,v7,v8,el,nn,⟨nr,rk,adn⟩,rfl⟩ nq;obtain⟨k,hk,rfl⟩:=List.θ hx;have il:=(ar.mp hk).1;have s3:=s2.trans (δ.new (HO.tup [V.int (i:Int),V.int k]) nq);have bp:upd S q' (HO.tup [V.int (i:Int),V.int k]) q'=some (.tup [V.int (i:Int),V.int k]):=aw;walk_at "";refine⟨_,Ι.of bp,rfl,_,_,rfl,_,_,rfl,rfl,?_⟩;generalize upd S q' (HO.tup [V.int (i:Int),V.int k])=H3 at s3 ⊢;have Z:=TA.same s3;obtain⟨bt,bs⟩:=Z.ob;obtain⟨b0,lp,ZW,Io,Le,cs,csk,C,c1,c2⟩:=Z.co I hk;obtain⟨k1,k2,k3⟩:=(bB g R I.1 I.2).mp (aJ hk);have et:tup B a k=(cK B a k:Int):=by
   unfold tup;rw[k3,C.tl]
   rfl
  have eb:=C.c2.1;have a0:=C.c2.2;have ts:=AB (f:=λk=>J.getD k.toNat 0/tup B a k) hk;have f0:∀u∈kd m B r a v,0<=J.getD u.toNat 0/tup B a u:=λu h=>by
   obtain⟨L,u2,u3⟩:=(bB g R I.1 I.2).mp h;exact jR (h0 u L.1 L.2) (by have:=(gP g R L.1 L.2 u2).1;lia)
  have Yn:(((kd m B r a v).take (i+1)).map λk=>J.getD k.toNat 0/tup B a k).sum<=J.getD v.toNat 0:=by
   refine bE ?_ a8;have e:((kd m B r a v).map λk=>J.getD k.toNat 0/tup B a k).sum=(((kd m B r a v).take (i+1)).map λk=>J.getD k.toNat 0/tup B a k).sum+(((kd m B r a v).drop (i+1)).map λk=>J.getD k.toNat 0/tup B a k).sum:=(by rw[<-eE,<-aB,cw]);have:=I0 (f:=λk=>J.getD k.toNat 0/tup B a k) (l:=(kd m B r a v).drop (i+1)) λu h=>f0 u (cj h)
   lia
  have t0:=I0 (f:=λk=>J.getD k.toNat 0/tup B a k) (l:=(kd m B r a v).take i) λu h=>f0 u (fJ h);have fk:=f0 k (aJ hk);refine Η (s3 _ _ eh) (eQ k1.1 (by lia)) ⟨T.Tally,bt,_,bs,T.cZ,T.Ge,_,pT _ _ _ _ _ _,p,t,m,ps,B,k,v,rfl,Z.web,λc' _ _ _ _ Zx=>?_,λno=>absurd ⟨k1,I⟩ no,λ_ _ _ _ Zx=>absurd (C.tl.symm.trans Zx) (by intro z;cases z)⟩;have:c'=(cK B a k:Int):=br (Zx.symm.trans C.tl);subst this;refine⟨_,rfl,_,rfl,⟨by lia,by lia⟩,?_⟩;rw[<-et];rw[cq il,br ((ao il).symm.trans hk),az]at rk;obtain⟨_,aS,Y,X⟩:=rk.Y8;generalize hg:J.getD k.toNat 0/tup B a k=gz at ts fk Y X ⊢;obtain⟨M,rfl⟩:∃M:Nat,gz=M:=⟨gz.toNat,by lia⟩;generalize hw:(((kd m B r a v).take i).map λk=>J.getD k.toNat 0/tup B a k).sum=S0 at ts el t0;rw[ts]at Yn;obtain⟨O,rfl⟩:∃O:Nat,left=O:=⟨left.toNat,by lia⟩;rw[bu,bu]at Y X;obtain⟨lf,a4⟩:∃lf:Nat,(O:Int)-(M:Int)=lf:=⟨O-M,by lia⟩;have ac:O-M=lf:=by lia
  have bv:=JJ (fr:=ϗ m B r a G tl) (be:=Ϝ m B r a G tl) (c:=cK B a) g R (Lm g R) I.1 I.2 hk c1 c2 (left:=O) (g:=M) (by lia);refine⟨o,p,t,lk,b0,lr,lp,ZW,Io,Le,m,ps,B,v,k,(O:Int),cK B a k,i,cs,csk,_,_,M,rfl,C,by lia,by lia,by lia,by lia,λH5 s5=>⟨_,rfl,?_⟩⟩;have ai:=s3.trans s5;have C5:=C.same s5;obtain⟨a7,bi,ca,dS,dg,bY⟩:=C5.ob;obtain⟨eo,bm,dp,r1,r2,r3,r4,r5,r6⟩:=C5.re;have gl:ϥ bm ((i:Int)+1)=some (.ref ZW):=cB (by lia) (by rw[show((i:Int)+1).toNat=i+1 by lia];exact r4);refine Η (ai _ _ en) (eQ k1.1 (by lia)) ⟨T.Tally,a7,bi,ca,T.cZ,T.Ϯ,_,bY,Η r1 (cB I.1 r2) ⟨_,rfl,Η r3 gl ?_⟩⟩;rw[a4];have aT:=C.cl.1;refine⟨ZW,cs,(lf:Int),rfl,μ.of C5.ed,by lia,by lia,hZ (k:=65) (by lia) (by decide),Bi C.cb.1,λj hj=>vS (by lia) (by lia) (by lia),λH6 s6=>?_⟩;rw[pU,c1.val];have wk:=Sq (m:=m.toNat) (cs:=cs) (csk:=csk) (c:=cK B a k) (z:=(O:Int)) (g:=M) (by have:=g.Θ;lia) (by lia) (by lia) (by lia) a0 aT C.cl.2 C.cb.1 C.cb.2;have wo:=(yD (fr:=ϗ m B r a G tl) (be:=Ϝ m B r a G tl) (W:=ϯ m B r a G tl) (c:=cK B a) (d:=oR m B r a G) (ks:=(kd m B r a v).drop (i+1)) (λu h=>by
   obtain⟨L,u2,u3⟩:=(bB g R I.1 I.2).mp (cj h);exact Ci g R (Lm g R) _ L.1 L.2 (ax _)) λu h=>by
   obtain⟨L,u2,u3⟩:=(bB g R I.1 I.2).mp (cj h);exact Lm g R u L.1 L.2 u2).2 45 lf (by lia)
  have d1:=tW (λk=>oR m B r a G k+1) (kd m B r a v) i;have a5:(kd m B r a v)[i]=k:=br ((ao il).symm.trans hk);rw[jA g R I.1 I.2,cq il,a5,az,aW]at d1;have dl:=py g R I.1 I.2;have Θ:=g.Θ;obtain⟨mo,bS⟩:=RD (b:=if ϗ m B r a G tl k=true then Ξ (Ϣ (ϩ m.toNat (ϵ cs csk (cK B a k) (O:Int)))) M 0 else 0) nn (by
   split
   .exact wk
   .exact bx _) (nb k k1.1 k1.2) wo d1 (by lia)
  exact⟨_,rfl,_,rfl,mo,hN _ _ ⟨ai.trans s6,_,_,_,_,_,by lia,bS,⟨aS,by rw[bu,<-ac];exact Y,by rw[bv,adn,X,ac];unfold ϯ;lia⟩,rfl⟩⟩
 .rintro σ S ⟨s2,nu,left,v6,v7,v8,el,nn,⟨nr,rk,adn⟩,rfl⟩;rw[aa]at nn rk;rw[fA]at rk;have:nu=Yn:=by rw[adn,rk.bV,lI]
  subst this;refine h3 _ _ ?_;walk_at "";refine q S (aN nn (aN (dA _ (show _<=2^5 by lia)) ?_)) s2;rw[<-eG];exact bP (by decide) (by lia)
def yc(T:Txt K U):Sp:=λq H Q _=>E22 λ(o p t:Addr)(m:Int)(l:g8)(c:hT)(r:Int)(a:fc)(b:fz)(e:eu)(ld j y n A:Addr)(x:g8)(z:List V)(f:Addr)(d:eu)(h s:fz)(g:fc)=>q=[.ref o,.ref f]/\ϒ T.Web T.Tally H o p t m l c r a b e ld j y n A x z (λv=>0<=v/\v<m)/\(0<=r/\r<m)/\H f=some (.lst (d.map V.int))/\(d.length:Int)=m/\(∀u,0<=u->u<m->0<=d.getD u.toNat 0/\d.getD u.toNat 0+1<=2^45/\((kd m c r a u).map λk=>d.getD k.toNat 0/tup c a k).sum<=d.getD u.toNat 0)/\ϭ m c r a b (ϗ m c r a b e) (Ϝ m c r a b e) (cK c a) h s g/\(∀u,0<=u->u<m->d.getD u.toNat 0=h u)/\∀(i:Hp),δ H i->Q (.int (g r)) i
abbrev pD:Stmt:=top 68
theorem Gw:ζ ["tally","held","numbers","place"] ["tally","held"] (aG pD):=.of
theorem va:Ϙ (aG pD) "reversed":=.of (by kernel_rfl)
theorem Hh(T:Txt K U)(hq:b6 (Β P w))(pR:Cb P w K U base "number_beneath" iw ["tally","place","held","numbers"] 8 (sC T)):Ok P w K U base "number_of" pD ["tally","held"] 9 (yc T):=λ_ _ D=>by
 refine D.F.ό Gw (by walk_at "v") λτ A ae s H vs Q E hr h=>?_;obtain⟨o,p,t,m,ps,f,r,a,b,tl,ld,lw,lb,lk,lr,kl,rv,lh,hs,cn,gv,n,rfl,TA,rm,eh,hl,hh,NS,I,q⟩:=h;have l:=oS hr;have g:=TA.web.go;have R:=TA.rt;have m1:=g.m1;have Θ:=g.Θ;refine⟨_,(ap (ψ 2 (aZ qA (eI (ag aL ay)) (dz (dz (γ 0) rfl) rfl))) (ap (fq PassesOwn.never rfl (rN va.g T.reversed (dz (γ 0) rfl)) (ϓ 3) (aM (mw (Ζ pR hr hq (ag (γ 0) (ag (γ 3) (ag (γ 1) (ag (γ 2) ay))))) (ow (γ 2) (γ 3) jT)))) (aM (bL (Ε bF (γ 2) (iM bF (dz (γ 0) rfl) aL (λ_ _=>rfl))))))),?_⟩;walk_at "s";refine cU λN1 h1=>?_;walk_at "";obtain⟨Z,ob⟩:=TA.ob;obtain⟨dw,wb⟩:=TA.web.ob;refine⟨cg (by simp),λW ab=>?_⟩;have J:=δ.new (HO.lst [V.int 0]) ab;have e0:upd H W (HO.lst [V.int 0]) W=some (.lst [V.int 0]):=aw;generalize upd H W (HO.lst [V.int 0])=H0 at J e0 ⊢;refine⟨T.Tally,Z,_,J _ _ ob,T.cZ,T.Ge,_,pT _ _ _ _ _ _,p,rfl,T.Web,dw,_,J _ _ wb,T.lM,T.ϑ,_,kt _ _,W,m,_,rfl,rfl,e0,by lia,by lia,cg (by show 1*m.toNat<=100000;lia),λC ZX=>h1 _ _ (cU λN2 h2=>?_)⟩;rw[BL,<-gq];have O:=J.trans (δ.new (HO.lst ((List.replicate m.toNat (0:Int)).map V.int)) ZX);have e1:upd H0 C (HO.lst ((List.replicate m.toNat (0:Int)).map V.int)) C=some (.lst ((List.replicate m.toNat (0:Int)).map V.int)):=aw;have af:=J.free ZX;generalize upd H0 C (HO.lst ((List.replicate m.toNat (0:Int)).map V.int))=H1 at O e1 ⊢;walk_at "";refine⟨T.Tally,Z,_,O _ _ ob,T.cZ,T.vd,_,qu _ _ _ _ _ _,?_⟩;refine⟨ld,rfl,_,μ.of (O _ _ TA.hd),?_⟩;have pr:∀u∈bO m f r a b r,0<=u/\u<m:=λu l=>by
  rw[TA.et]at l;rcases aq.mp l with rfl|y
  .exact rm
  .exact TA.or.Λ u y
 refine pN (K:=K) (xs:=(bO m f r a b r).map V.int) (λi S B=>δ H B/\∃(j:eu)(Y:Option V),B C=some (.lst (j.map V.int))/\(j.length:Int)=m/\(∀u,0<=u->u<m->(j.getD u.toNat 0).natAbs<=2^(50000+600*oR m f r a b u))/\(∀u∈(bO m f r a b r).reverse.take i,j.getD u.toNat 0=n u)/\S=[some (V.ref o),some (V.ref lh),some (V.ref C),Y]) ⟨O,_,none,e1,by rw[bU];lia,λu _ _=>?_,λu l=>(by cases l),rfl⟩ (λi S B _ z=>μ.of (z.1 _ _ TA.hd)) ?_ ?_
 .rw[bH,d5];split<;>exact bx _
 .rintro i x S B N hN hx ⟨s5,j,Y,e5,nl,nb,dn,rfl⟩;rw[<-d9]at hx;obtain⟨v,hv,rfl⟩:=List.θ hx;have d:=pr v (dM.mp (aJ hv));have X:∀k∈kd m f r a v,k∈(bO m f r a b r).reverse.take i:=by
   have L:=hv;rw[TA.et]at L ⊢;exact ME g R TA.or L d.1 d.2
  have eF:((kd m f r a v).map λk=>(k,(hs.getD k.toNat 0/tup f a k).toNat,j.getD k.toNat 0))=(kd m f r a v).map λk=>(k,gv k,n k):=bX λk hk=>by
   obtain⟨G,k2,k3⟩:=(bB g R d.1 d.2).mp hk;have t2:=(gP g R G.1 G.2 k2).1;have e:=C2 (c:=cK f a k) (i:=gv k) (by unfold cK;lia);rw[<-NS.up k G.1 G.2 k2,show((cK f a k:Nat):Int)=tup f a k from bn (by lia)]at e;rw[dn k (X k hk),I k G.1 G.2,e,JZ t2,bu]
  walk_at "";refine⟨o,p,t,m,ps,f,r,a,b,tl,ld,lw,lb,lk,lr,kl,rv,v,lh,C,hs,j,n v,rfl,TA.same s5,d,s5 _ _ eh,e5,hl,nl,λu M u1=>(hh u M u1).1,(hh v d.1 d.2).2.1,(hh v d.1 d.2).2.2,nb,by rw[eF,I v d.1 d.2];exact NS.at_ v d.1 d.2,λH6 xb s6=>?_⟩;refine tY (s6 _ _ e5) d.1 (by rw[aa];lia) (hN _ _ ⟨(s5.trans s6).put af _,j.set v.toNat (n v),_,by rw[aw,<-eM],by rw[dB];exact nl,λu M u1=>?_,λu l=>?_,rfl⟩)
  .rw[oB _ _ _ _ (by lia)];by_cases c:u=v
   .rw[c,aj rfl];exact xb
   .rw[ah (by lia)];exact nb u M u1
  .rw[oB _ _ _ _ (by lia)];by_cases c:u=v
   .rw[c,aj rfl]
   .rw[cI,hv]at l;have M:=(pr u (dM.mp ((aV.mp l).elim fJ λy=>absurd (aE.mp y) c))).1;rw[ah (by lia)];exact dn u ((aV.mp l).resolve_right λy=>c (aE.mp y))
 .rintro S B ⟨s5,j,Y,e5,nl,nb,dn,rfl⟩;refine h2 _ _ ?_;walk_at "";have gd:ϥ ((bO m f r a b r).map V.int) 0=some (V.int r):=by
   rw[TA.et];exact cB (bC 0) rfl
  exact⟨T.Tally,Z,_,s5 _ _ ob,T.cZ,T.vd,_,qu _ _ _ _ _ _,Η (s5 _ _ TA.hd) gd (Η e5 (eQ rm.1 (by lia)) (by rw[dn r (by rw[aa,<-aU,bo,dM,TA.et];exact .head _)];exact q B s5))⟩
def qm(T:Txt K U):Sp:=λl H Q E=>E10 λ(p a t:Addr)(c:Bool)(m:Int)(k:g8)(e:hT)(g:eu)(r w:Int)=>l=[.ref p,.int r,.int w,.ref a]/\ο T.Web H p m t k e/\ϣ K c H a (g.map V.int)/\g.length<=1000/\w<=10^60/\-(10^60)<=w/\(0<=r->r<m->1<=w->∃b d,ε m e r b d/\(1000000000000<ϡ m e r b (cJ m e r b d) w+1->∀f,δ H f->E (.ref T.TooMany) none f)/\(ϡ m e r b (cJ m e r b d) w+1<=1000000000000->(fG m g=false->∀f,δ H f->E (.ref T.BadLaying) none f)/\(fG m g=true->((g.sum=ϡ m e r b (cJ m e r b d) w/\Ϗ m e r b d (λv=>g.getD v.toNat 0) (Υ e b) r<w)->∀h,Order m r b h->bO m e r b d r=r::h->E3 λ(j n:fz)(i:fc)=>ϭ m e r b d (ϗ m e r b d h) (Ϝ m e r b d h) (cK e b) j n i/\(∀u,0<=u->u<m->Ϗ m e r b d (λv=>g.getD v.toNat 0) (Υ e b) u=j u)/\∀(f:Hp),δ H f->Q (.int (i r)) f)/\(¬(g.sum=ϡ m e r b (cJ m e r b d) w/\Ϗ m e r b d (λv=>g.getD v.toNat 0) (Υ e b) r<w)->∀f,δ H f->E (.ref T.NoNumber) none f))))/\(¬(0<=r/\r<m)->∀f,δ H f->E (.ref T.NoPlace) none f)/\(0<=r->r<m->w<1->∀f,δ H f->E (.ref T.BadWish) none f)
abbrev jp:Stmt:=top 54
theorem BS:ζ ["web","r","wanted","laying"] ["web","r","wanted","laying"] (aG jp):=.of
theorem nZ:Ϙ (aG jp) "NoNumber":=.of (by kernel_rfl)
theorem pX:Ϙ (aG jp) "Tally":=.of (by kernel_rfl)
theorem B4(T:Txt K U)(hq:b6 (Β P w)){ι:Addr}{eA:FuncData}(gJ:Y2 K "__init__" "Tally.__init__" eL ι eA)(oH:Binds K eA ["self","web","r"] [])(oJ:Mk K T.Tally ι)(ω:Ψ P w K U base (Β P w) 10 ι eA ["self","web","r"] (me T))(mh:oT P w base T)(oN:ri P w base T)(wu:Cb P w K U base "is_worst" sS ["web","r","wanted","laying"] 10 (zt T))(uZ:Cb P w K U base "number_of" pD ["tally","held"] 9 (yc T)):Ok P w K U base "worst_number" jp ["web","r","wanted","laying"] 12 (qm T):=λ_ _ D=>by
 refine D.F.XU BS (by walk_at "v") λτ A af s H vs Q E N h=>?_;obtain⟨p,a,t,c,m,I,j,n,r,w,rfl,W,ha,hl,w2,w0,k,e,e'⟩:=h;have g:=W.go;refine⟨_,(ap (dI (ϛ mh N dW (ag (γ 0) (ag (γ 1) (ag (γ 2) ay))))) (ap (dG (kK (mE (ϛ wu N dW (ag (γ 0) (ag (γ 1) (ag (γ 2) (ag (γ 3) ay))))))) (aM (pP T.sJ rfl qY nZ.g T.wI (ag nO ay) (hdb:=nZ.d))) cN) (aM (bL (ϛ uZ N dW (ag (yy oJ ω (N.mono (by decide)) pX.g T.C7 oH .nil dW (ag (γ 0) (ag (γ 1) ay)) (hdb:=pX.d)) (ag (ϛ oN N dW (ag (γ 0) (ag (γ 3) (ag (γ 1) ay)))) ay))))))),?_⟩;walk_at "s";walk_at "";refine⟨p,t,m,I,j,r,w,rfl,W,w2,w0,λM J w1=>?_,e,e'⟩;obtain⟨f,i,R,k2,V⟩:=k M J w1;refine⟨f,i,R,λcb H1 O=>?_,k2⟩;obtain⟨k3,k4⟩:=V cb;refine⟨p,a,t,c,m,I,j,n,r,w,rfl,W.same O,δ.XR O ha,hl,w2,w0,λ_ _ _=>⟨f,i,R,λfi G s2=>⟨_,rfl,?_⟩,λfi G s2=>k3 fi G (O.trans s2)⟩,λz=>absurd ⟨M,J⟩ z,λ_ _ z=>absurd z (by lia)⟩;obtain⟨k5,k6⟩:=k4 fi;have Y:=O.trans s2;by_cases L:n.sum=ϡ m j r f (cJ m j r f i) w/\Ϗ m j r f i (λv=>n.getD v.toNat 0) (Υ j f) r<w
 .rw[ba L.1,ba L.2,ah (by decide)];intro x S hx Z ne;have ae:upd G S (.own x) x=none:=by rw[aP ne.symm];exact hx
  have s0:δ G (upd (upd G S (.own x)) x (.ins T.Tally S [])):=(δ.new _ Z).trans (δ.new _ ae);refine⟨x,S,p,t,m,I,j,r,rfl,aw,(W.same Y).same s0,⟨M,J⟩,f,i,R,λtl ld lw lb lk lr kl rv H3 TA kp=>⟨rfl,?_⟩⟩;have s3:δ G H3:=λb o e=>kp b o (s0 b o e) (b9 e hx);have C:=Y.trans s3;have x0:=Mp fi;refine⟨p,a,t,c,m,I,j,n,r,rfl,W.same C,δ.XR C ha,hl,λ_ _ _=>⟨f,i,R,λl H4 nl s4 el=>?_⟩,(λz=>by rw[fi]at z;cases z),λ_ z=>absurd ⟨M,J⟩ z⟩;have ad:((rh m j r f i (λv=>n.getD v.toNat 0) (Υ j f)).length:Int)=m:=by
   have:=g.m1;unfold rh;rw[aa,cX]
   lia
  have X:∀v:Int,0<=n.getD v.toNat 0/\n.getD v.toNat 0<=1000000000000:=λv=>by
   rw[List.getD];cases e:n[v.toNat]? with
   | none=>exact⟨bC _,(by decide:(0:Int)<=1000000000000)⟩
   | some y=>
     have h1:=x0 y (aJ e);have h2:=CD x0 (aJ e);exact⟨h1,show y<=_ by lia⟩
  obtain⟨cn,gv,nb,NS,ec,kq⟩:=k5 L tl TA.or TA.et;refine⟨x,p,t,m,I,j,r,f,i,tl,ld,lw,lb,lk,lr,kl,rv,l,_,cn,gv,nb,rfl,TA.same s4,⟨M,J⟩,el,ad,λu q B=>?_,NS,λu q B=>by rw[qP q B];exact ec u q B,λH5 s5=>kq H5 (C.trans (s4.trans s5))⟩;have d:=py g R q B;have Θ:=g.Θ;have cd:=Jh g R X _ u rfl q B;rw[qP q B];refine⟨Bl g (λv=>(X v).1) u,by lia,?_⟩;rw[rf g R q B];have h1:=(X u).1;have e:((kd m j r f u).map λk=>(rh m j r f i (λv=>n.getD v.toNat 0) (Υ j f)).getD k.toNat 0/tup j f k).sum=((bT m j (front r f u) u).map λc=>Υ j f c (Ϗ m j r f i (λv=>n.getD v.toNat 0) (Υ j f) c)).sum:=oQ λk hk=>by
   obtain⟨V,_,_⟩:=(bB g R q B).mp hk;rw[qP V.1 V.2]
   rfl
  rw[e]
  lia
 .rw[show(decide (n.sum=ϡ m j r f (cJ m j r f i) w)&&decide (Ϗ m j r f i (λv=>n.getD v.toNat 0) (Υ j f) r<w))=false by
   rw[<-Bool.decide_and];exact bw L]
  exact⟨cg (by simp),k6 L _ Y⟩
def tK(T:Txt K U):Sp:=λn H Q _=>E20 λ(p o j lo h:Addr)(l i:g8)(c:hT)(t f:eu)(m r w d:Int)(a:fc)(b:fz)(e:eu)(g s:fz)(q:fc)=>n=[.ref p,.ref j,.ref lo,.int w,.ref h,.int d]/\ο T.Web H p m o l c/\Μ H j c/\ε m c r a b/\H lo=some (.lst (i.map V.ref))/\Α H r a i (r::t)/\Order m r a t/\t.length+1=m.toNat/\(0<=r/\r<m)/\H h=some (.lst (f.map V.int))/\(f.length:Int)=m/\bO m c r a b r=r::e/\Order m r a e/\1<=w/\w<=10^60/\ϡ m c r a (cJ m c r a b) w+1<=1000000000000/\ϭ m c r a b (ϗ m c r a b e) (Ϝ m c r a b e) (cK c a) g s q/\(g r:Int)=w-1/\(∀v,0<=v->v<m->f.getD v.toNat 0=if kd m c r a v=[]then(g v:Int)else 0)/\(0<=d/\d<ϯ m c r a b e r (w-1).toNat)/\∀k,δ H k->Q (.bl true) k
abbrev lJ:Stmt:=top 88
theorem AG:ζ ["web","tolls","order","wanted","laying","number","r","need","mine","told","ahead_of"] ["web","tolls","order","wanted","laying","number"] (aG lJ):=.of
theorem lU:Ϙ (aG lJ) "tuple":=.of (by kernel_rfl)
abbrev sX(P w base)(T:Txt K U):=Cb P w K U base "_law_bound" pp ["tolls","order","weights","wanted"] 1 (tN T)
abbrev td(P w base)(T:Txt K U):=Cb P w K U base "_law_least" lS ["tolls","order"] 1 (p8 T)
abbrev tA(P w base)(T:Txt K U):=Cb P w K U base "worst_number" jp ["web","r","wanted","laying"] 12 (qm T)
theorem zN(T:Txt K U)(S:b6 (Β P w))(nD:sX P w base T)(jG:td P w base T)(oV:p4 P w base T)(rp:Cb P w K U base "_law_tuple" pF ["tolls","order","laying"] 2 (xS T))(lR:Cb P w K U base "_law_whole" nI ["found"] 1 (xB T))(mV:pZ P w base T)(jq:tA P w base T):Ok P w K U base "_law_both_ways" lJ ["web","tolls","order","wanted","laying","number"] 13 (tK T):=λ_ _ D=>by
 refine D.F.ό AG (by walk_at "v") λτ A eb s H vs Q E I h=>?_;obtain⟨p,t0,dt,lo,la,ps,qs,q,t,xs,m,r,w,b3,f,o,tl,Y,gv,nb,rfl,W,ta,R,ho,pa,O,a3,C,ab,xl,et,Ot,w1,w2,cb,NS,L,xv,nn,k⟩:=h;have g:=W.go;have m1:=g.m1;have Θ:=g.Θ;have X:=oS I;have hv:=I.units;refine⟨_,(ap (ψ 6 (Ε ia (iM bF (γ 2) aL (λ_ _=>rfl)) aL)) (ap (ψ 7 (aZ dR (Ζ nD I S (ag (γ 1) (ag (γ 2) (ag (Ζ jG I S (ag (γ 1) (ag (γ 2) ay))) (ag (γ 3) ay))))) aL)) (ap (ψ 8 (Ζ jq I S (ag (γ 0) (ag (γ 6) (ag (γ 3) (ag (pct ou T.list (ag (γ 4) ay)) ay)))))) (ap (dG (PW.pt (wK (kK (mE (Ζ lR I S (ag (γ 8) ay)))) (wK (Ϫ rJ (γ 8) aL) (ye (nC (Na hv) (Ζ mV I S (ag (γ 0) (ag (γ 6) (ag (γ 3) (ag (γ 8) ay))))) (pct kZ T.tuple (ag (γ 4) ay)) (gV _)))))) (aM (bL qz)) cN) (ap (ψ 9 (Ζ mV I S (ag (γ 0) (ag (γ 6) (ag (γ 3) (ag (γ 5) ay)))))) (ap (dG (PW.pt (wK (kK (mE (BV uY T.isinstance (ag (γ 9) (ag (DJ (v:=.ty "tuple") lU.g T.tuple Gb rfl (hn:=lU.n) (hd:=lU.d)) ay))))) (ye (kK (mE (BV (Gr rfl) T.all (ag (jv rfl (vW (Nc:=["held"]) 1 (by decide +kernel) (by decide +kernel) rfl (by decide +kernel) rfl) (vF (γ 9)) (λ_ _ _ _=>(fe (i:=0) (show(["held"]:hL).Nodup from by decide +kernel) rfl (Or.inl rfl))) (λ_ _ _ _=>lu) (λ_ _ _ _=>(vo (qX lR.G (I.mono (by decide)) (by rfl) lR.D.m lR.D.F.kp lR.D.b .nil (uz S) (ag (pv 0) ay)) (vg (kH Fm (pv 0) aL (gV _)))))) ay))))))) (aM (bL qz)) cN) (ap (dG (PW.pt (wK (Ϫ pL (BV gI T.len (ag (γ 9) ay)) (BV gI T.len (ag (γ 2) ay))) (wK (Ϫ pL (BV (Av rfl) T.sum (ag (γ 9) ay)) (aZ fU (γ 7) aL)) (ye (nC Fm (iM bF (Ζ oV I S (ag (γ 1) (ag (γ 2) (ag (γ 9) ay)))) (γ 6) (λ_ _=>rfl)) (γ 3) (gV _)))))) (aM (bL qz)) cN) (ap (dG (nC pL (Ζ jq I S (ag (γ 0) (ag (γ 6) (ag (γ 3) (ag (γ 9) ay))))) (γ 5) (gV _)) (aM (bL qz)) cN) (ap (ψ 10 (kH (TM hv) (Ζ rp I S (ag (γ 1) (ag (γ 2) (ag (γ 4) ay)))) (Ζ rp I S (ag (γ 1) (ag (γ 2) (ag (γ 9) ay)))) (gV _))) (aM (bL (vo (kH iH (γ 10) (kH rJ (γ 8) (γ 5) (gV _)) (gV _)) (vg (kH iH (kH (Nd hv) (pct kZ T.tuple (ag (γ 4) ay)) (γ 9) (gV _)) (kH iH (γ 8) (γ 5) (gV _)) (gV _))))))))))))))),?_⟩;walk_at "s";have ql:qs.length=(r::t).length:=Paired.length pa;rw[aD]at ql;obtain⟨q0,v0,e0,f0,f1,f2⟩:=pa.get (i:=0) (x:=V.ref (qs.headD 0)) (by
  cases qs with
  | nil=>simp at ql
  | cons a l=>rfl)
 cases(show v0=r by simpa using f1.symm);obtain⟨n,rfl⟩:∃n:Nat,w=((n+1:Nat):Int):=⟨(w-1).toNat,by lia⟩;have en:((n+1:Nat):Int)-1=(n:Int):=by lia
 rw[en]at L nn;rw[bu]at nn;have M:∀(B:eu)(Y gv:fz)(nb:fc),ϭ m q r f o (ϗ m q r f o tl) (Ϝ m q r f o tl) (cK q f) Y gv nb->(Y r:Int)=n->(B.length:Int)=m->(∀v,0<=v->v<m->B.getD v.toNat 0=if kd m q r f v=[]then(Y v:Int)else 0)->(∀z∈B,0<=z)/\fG m B=true/\(B.sum=ϡ m q r f (cJ m q r f o) (n+1:Nat)/\Ϗ m q r f o (λv=>B.getD v.toNat 0) (Υ q f) r<(n+1:Nat))/\∀u,0<=u->u<m->Ϗ m q r f o (λv=>B.getD v.toNat 0) (Υ q f) u=Y u:=λB Y gv nb NS L zl zv=>by
  have SP:=NS.ajZ g R Ot (λ_=>rfl) (λ_=>rfl) λ_=>rfl;rw[L]at SP;have eg:=SP.Ϗ g R zv;have Yn:=SP.total g R zv C.1 C.2 et Ot;have z0:∀x∈B,0<=x:=λx hx=>by
   obtain⟨i,hi,rfl⟩:=List.mem_iff_getElem.mp hx;have:=zv (i:Int) (by lia) (by lia);rw[bu,bH,ao hi]at this;have e:B[i]=if kd m q r f (i:Int)=[]then(Y (i:Int):Int)else 0:=this;rw[e];split<;>lia
  rw[DQ (by lia)]at Yn;exact⟨z0,Eo zl z0,⟨Yn,by rw[eg _ r rfl C.1 C.2,L];lia⟩,λu u0 u1=>eg _ u rfl u0 u1⟩
 obtain⟨x0,db,gx,be⟩:=M xs Y gv nb NS L xl xv;have bd:=NS.bd g R C.1 C.2;have dg:Y r=n:=by lia
 rw[dg]at bd;refine cU λN1 h1=>?_;walk_at "";refine Η ho (cB (by decide) (v:=V.ref q0) (by rw[show(0:Int).toNat=0 from rfl,aH,f0];rfl)) (Xa f2 rfl (h1 _ _ (cU λN2 h2=>?_)));walk_at "";refine⟨dt,lo,qs,q,t,m,r,f,o,rfl,ta,g,R,ho,pa,O,a3,λlw H1 nw s1 ew=>?_⟩;have dV:=uJ g R;have dS:((cJ m q r f o).length:Int)=m:=by rw[mC];lia
 refine⟨dt,lo,lw,qs,q,t,_,m,r,_,f,o,rfl,ta.same s1,g,R,s1 _ _ ho,pa.same s1,O,C,ew,dS,dV,B3 (by lia) w2,λH2 s2=>⟨_,rfl,h2 _ _ (cU λN3 h3=>?_)⟩⟩;have Zo:=s1.trans s2;have same:∀(B:eu)(Xk cd:fz)(XE:fc),ϭ m q r f o (ϗ m q r f o tl) (Ϝ m q r f o tl) (cK q f) Xk cd XE->(Xk r:Int)=n->(B.length:Int)=m->(∀v,0<=v->v<m->B.getD v.toNat 0=if kd m q r f v=[]then(Xk v:Int)else 0)->XE r=nb r->B=xs:=λB Xk cd XE dr eH zl zv e=>by
  refine List.ext_getElem (by lia) λi h1 h2=>?_;have a:=zv (i:Int) (by lia) (by lia);have b:=xv (i:Int) (by lia) (by lia);rw[(dr.inj NS g R (by lia) e _ (i:Int) rfl (by lia) (by lia)).1,<-b,bu,bH,bH,ao h1,ao h2]at a;exact a
 walk_at "";refine⟨_,.inl (μ.of (Zo _ _ ab)),λll d0=>?_⟩;have s3:=Zo.trans (δ.new (.lst (xs.map V.int)) d0);have el:upd H2 ll (.lst (xs.map V.int)) ll=some (.lst (xs.map V.int)):=aw;generalize upd H2 ll (.lst (xs.map V.int))=H3 at s3 el ⊢;refine⟨p,ll,t0,true,m,ps,q,xs,r,_,rfl,W.same s3,μ.of el,by lia,w2,by lia,λ_ _ _=>⟨f,o,R,λz=>absurd z (by lia),λ_=>⟨λz=>(by rw[db]at z;cases z),λ_=>⟨λ_ ZO O' ZN=>?_,λz=>absurd gx z⟩⟩⟩,λz=>absurd C z,λ_ _ z=>absurd z (by lia)⟩;have tt:tl=ZO:=(dy (et.symm.trans ZN)).2;subst tt;refine⟨Y,gv,nb,NS,be,λH4 s4=>h3 _ _ (cU λN4 h4=>?_)⟩;have cl:=s3.trans s4;walk_at "";refine⟨_,rfl,_,rfl,?_⟩;rw[ah (by decide),ah (by lia)];refine⟨p,t0,m,ps,q,r,_,nb r,rfl,W.same cl,w2,by lia,λ_ _ _=>⟨f,o,R,λ_ ZO O' ZN=>?_,λz=>absurd z (by lia)⟩,λz=>absurd C z,λ_ _ z=>absurd z (by lia)⟩;have tt:tl=ZO:=(dy (et.symm.trans ZN)).2;subst tt;rw[en,bu];refine⟨λ_ l5 B d3 c1 c4 H5 dK d1 cZ dO ed gk s5 c5=>?_,λz=>absurd bd z⟩;have ez:=same B d3 c1 c4 dK d1 dO ed cZ;subst ez;have a8:=cl.trans s5;refine⟨_,.inl ⟨μ.of (a8 _ _ ab),λl6 bs=>Pa (δ.new _ bs _ _ c5) aw ⟨_,rfl,?_⟩⟩⟩;have a2:=a8.trans (δ.new (.tup (B.map V.int)) bs);generalize upd H5 l6 (.tup (B.map V.int))=H6 at a2 ⊢;rw[ba rfl,ah (by decide)];refine h4 _ _ (cU λN5 h5=>?_);walk_at "";refine⟨p,t0,m,ps,q,r,_,b3,rfl,W.same a2,w2,by lia,λ_ _ _=>⟨f,o,R,λ_ ZO O' ZN=>?_,λz=>absurd z (by lia)⟩,λz=>absurd C z,λ_ _ z=>absurd z (by lia)⟩;have tt:tl=ZO:=(dy (et.symm.trans ZN)).2;subst tt;rw[en,bu];refine⟨λ_ lt ys ai aC a6 H7 Z b2 aT yl yv fl s7 ac=>h5 _ _ (cU λN6 h6=>?_),λz=>absurd nn z⟩;obtain⟨y0,ea,gy,ci⟩:=M ys ai aC a6 Z b2 yl yv;have ds:=a2.trans s7;walk_at "";refine⟨_,_,_,true,rfl,.tup ac,λcv h=>by cases h;rfl,_,rfl,?_⟩;rw[ah (by decide)];refine⟨⟨_,Ι.of ac⟩,λlb bS=>?_⟩;refine lW (K:=K) (c:=false) (a:=lt) (xs:=ys.map V.int) (λj B σ H8=>δ H7 H8/\H8 lb=some (.lst B)/\B=(List.replicate j true).map V.bl/\∃v0,σ=[v0]) ⟨δ.new _ bS,aw,rfl,_,rfl⟩ (λj B σ H8 _ ⟨z,_⟩=>Ι.of (z _ _ ac)) ?_ ?_
 .rintro j y B σ H8 N' Zr hj ⟨s8,e8,rfl,v0,rfl⟩;obtain⟨u,X,rfl⟩:=List.θ hj;have il:=(ar.mp X).1;have u0:=y0 u (aJ X);walk_at "";refine⟨_,rfl,_,rfl,?_⟩;rw[aj rfl,ba u0];exact⟨e8,eJ (by rw[aa,bU];lia),Zr _ _ _ ⟨s8.put bS _,aw,by rw[List.replicate_succ',aB];rfl,_,rfl⟩⟩
 .rintro B σ H8 ⟨s8,e8,rfl,v0,rfl⟩;refine⟨lb,rfl,_,μ.of e8,?_⟩;rw[show(List.replicate (ys.map V.int).length true).all id=true by rw[fB];intro x hx;exact gB hx,ah (by decide)];refine h6 _ _ (cU λN7 h7=>?_);have J:=ds.trans s8;have ad:=s8 _ _ ac;walk_at "";refine⟨_,.inr (Ι.of ad),_,.inl (μ.of (J _ _ ho)),?_⟩;rw[ah (by rw[aa,aa];lia)];refine⟨_,.inr (Ι.of ad),?_⟩;rw[ah (by rw[gy.1];lia)];refine⟨dt,lo,lt,false,qs,q,t,ys,m,r,f,o,rfl,ta.same J,g,R,J _ _ ho,pa.same J,O,Ι.of ad,yl,λlg H9 gd s9 eg=>?_⟩;refine Η eg (eQ C.1 (by unfold rh;rw[aa,cX];lia)) ⟨_,rfl,?_⟩;rw[qP C.1 C.2,ah (by have:=gy.2;lia)];refine h7 _ _ (cU λN8 h8=>?_);have b1:=J.trans s9;have bp:=s9 _ _ ad;walk_at "";refine⟨p,lt,t0,false,m,ps,q,ys,r,_,rfl,W.same b1,Ι.of bp,by lia,w2,by lia,λ_ _ _=>⟨f,o,R,λz=>absurd z (by lia),λ_=>⟨λz=>(by rw[ea]at z;cases z),λ_=>⟨λ_ ZO O' ZN=>?_,λz=>absurd gy z⟩⟩⟩,λz=>absurd C z,λ_ _ z=>absurd z (by lia)⟩;have tt:tl=ZO:=(dy (et.symm.trans ZN)).2;subst tt;refine⟨ai,aC,a6,Z,ci,λgb b0=>⟨rfl,?_⟩⟩;rw[aT,ah λz=>z rfl];refine h8 _ _ (cU λN9 h9=>?_);have N:=b1.trans b0;have cc:=b0 _ _ bp;have a4:=NS.order Z g R (λk k0 k1 kr=>by have:=(gP g R k0 k1 kr).1;unfold cK;lia) C.1 C.2 (by lia);rw[aT]at a4;have pr:∀u∈bO m q r f o r,0<=u/\u<m:=λu X=>((oX g R _ r C.1 C.2).2 u X).1;have tx:(bO m q r f o r).map (Ϗ m q r f o (λv=>B.getD v.toNat 0) (Υ q f))=Xx m q r f o Y r:=bX λu X=>be u (pr u X).1 (pr u X).2;have ty:(bO m q r f o r).map (Ϗ m q r f o (λv=>ys.getD v.toNat 0) (Υ q f))=Xx m q r f o ai r:=bX λu X=>ci u (pr u X).1 (pr u X).2;walk_at "";refine⟨dt,lo,la,true,qs,q,t,B,m,r,f,o,rfl,ta.same N,g,R,N _ _ ho,pa.same N,O,a3,C,μ.of (N _ _ ab),xl,λdw e7 gg a0 dm=>?_⟩;have ae:=N.trans a0;refine⟨dt,lo,lt,false,qs,q,t,ys,m,r,f,o,rfl,ta.same ae,g,R,ae _ _ ho,pa.same ae,O,a3,C,Ι.of (a0 _ _ cc),yl,λdv f3 e9 bY c6=>?_⟩;have bi:=ae.trans bY;refine⟨dw,dv,_,_,rfl,rfl,μ.of (bY _ _ dm),μ.of c6,by rw[aa,aa],?_⟩;rw[tx,ty,a4.1];refine h9 _ _ ?_;walk_at "";refine⟨_,.inl ⟨μ.of (bi _ _ ab),λfg a9=>Re aw (δ.new _ a9 _ _ (bY _ _ (a0 _ _ cc))) ⟨by simp[nW],?_⟩⟩⟩;have c3:=bi.trans (δ.new (.tup (B.map V.int)) a9);have e:decide (B=ys)=decide (nb r=b3):=iX.mpr ⟨λz=>?_,λz=>?_⟩
  .rw[e,ba rfl];exact k _ c3
  .subst z;refine a4.2.mp (tx.symm.trans ty)
  .refine(same ys ai aC a6 Z b2 yl yv ?_).symm;rw[aT,z]
def uV(T:Txt K U):Sp:=λb H Q _=>E3 λ(a:Addr)(c:eu)(k:Int)=>b=[.ref a,.int k]/\μ K H a (c.map V.int)/\0<=k/\∀v,Q (.int v) H
abbrev qj:Stmt:=top 71
theorem HA:ζ ["script","k"] ["script","k"] (aG qj):=.of
theorem HZ(T:Txt K U)(j:b6 (Β P w)):Ok P w K U base "_law_cell" qj ["script","k"] 1 (uV T):=λ_ _ D=>by
 refine D.F.ό HA (by walk_at "v") λl A d s H n Q E m h=>?_;obtain⟨a,b,i,rfl,e,g,k⟩:=h;refine⟨_,(ap (dG (Ϫ rJ (γ 1) (BV gI T.len (ag (γ 0) ay))) (aM (bL (Ε bF (γ 0) (γ 1)))) cN) (aM (bL aL))),?_⟩;walk_at "s";walk_at "";refine⟨_,.inl e,?_⟩;rw[aa];by_cases c:i<(b.length:Int)
 .rw[aj c];have f:i.toNat<b.length:=by lia
  exact ixS e (cB g (v:=.int b[i.toNat]) (by rw[aH,ao f];rfl)) (k _)
 .rw[ah c];exact k 0
def zi(T:Txt K U):Sp:=λg H Q _=>E4 λ(d:Addr)(e:hT)(m r:Int)=>g=[.int m,.ref d,.int r]/\Μ H d e/\Good m e/\(0<=r/\r<m)/\∃a c,ε m e r a c/\∀lo f t b,H lo=none->δ H b->b lo=some (.lst (f.map V.ref))->Α b r a f (r::t)->Order m r a t->Q (.ref lo) b
abbrev mR:Stmt:=top 78
theorem uS:ζ ["many","tolls","r","order","at","place","near"] ["many","tolls","r"] (aG mR):=.of
theorem yS:Zi (aG mR) "place":=.of (by kernel_rfl)
theorem zF:Zi (aG mR) "near":=.of (by kernel_rfl)
theorem yW:Ϙ (aG mR) "range":=.of (by kernel_rfl)
theorem IR(T:Txt K U)(hq:b6 (Β P w)):Ok P w K U base "_law_down" mR ["many","tolls","r"] 1 (zi T):=λ_ _ D=>by
 refine D.F.ό uS (by walk_at "v") λτ A bk s H vs Q E hr h=>?_;obtain⟨d,u,m,r,rfl,ta,g,rr,f,ci,R,k⟩:=h;have hu:=oS hr;have Θ:=g.Θ;refine⟨_,(ap (ψ 3 (eI (ag (jd (ag (γ 2) (ag B9 ay))) ay))) (ap (ψ 4 aL) (ap (pQ PassesOwn.never (Ϫ rJ (γ 4) (BV gI T.len (ag (γ 3) ay))) (ap (mw (Ε bF (γ 3) (γ 4)) (j0 (n:=2) rfl (cG (fe (i:=5) uS.nd rfl (Or.inr yS.l)) (cG (fe (i:=6) uS.nd rfl (Or.inr zF.l)) iA)))) (ap (dI (j4 PySem.F.plainAttrs_list PySem.F.slot_list_extend PySem.F.type_list_extend D9 (γ 3) (ag (jv rfl (Zn ["other","place","near","tolls"] 1 [5,6,1]) (mM yW.g T.range (ag (γ 0) ay)) (λ_ _ _ _=>(fe (i:=0) (show(["other","place","near","tolls"]:hL).Nodup from by decide +kernel) rfl (Or.inl rfl))) (λ_ _ _ _=>(sV (PW.pt (GN (Ϫ pL (pv 0) (pv 2)) (Dq (Ce (V5 hu (jd (ag (pv 1) (ag (pv 0) ay))) (pv 3)))))))) (λ_ _ _ _=>(jd (ag (pv 0) (ag (pv 1) ay))))) ay))) (aM (ψ 4 (aZ dR (γ 4) aL)))))) (aM (bL (γ 3)))))),?_⟩;walk_at "s";walk_at "";refine⟨cg (by simp),λo n0=>⟨cg (by simp),λlo y=>?_⟩⟩;have s1:=δ.new (.tup [V.int r,V.π]) n0;have ai:=s1.free y;have s2:=s1.trans (δ.new (.lst [V.ref o]) y);have bm:o≠lo:=λz=>by rw[<-z,aw]at y;cases y
 have I:upd (upd H o (.tup [V.int r,V.π])) lo (.lst [V.ref o]) lo=some (.lst [V.ref o]):=aw;have f2:upd (upd H o (.tup [V.int r,V.π])) lo (.lst [V.ref o]) o=some (.tup (vPr r f r)):=by
  rw[aP bm,aw];unfold vPr Pb.front;rw[aj rfl]
 generalize upd (upd H o (.tup [V.int r,V.π])) lo (.lst [V.ref o])=H2 at s2 I f2 ⊢;have ae:∀{t:eu}{ws:eu},Φ m u r f t ws->(r::t).length<=m.toNat:=λ{t ws} J=>by
  have:=fj (m:=m) (by lia) (bf.mpr ⟨J.nr,J.nd⟩) λv hv=>by
   rcases aq.mp hv with e|e
   .rw[e];exact rr
   .exact J.Λ v e
  lia
 refine vy (λn O W=>E5 λ(t:eu)(B:g8)(k:Nat)(v5 v6:Option V)=>n=m.toNat-k/\k<=(r::t).length/\O=[some (.int m),some (.ref d),some (.int r),some (.ref lo),some (.int (k:Nat)),v5,v6]/\δ H W/\W lo=some (.lst (B.map V.ref))/\Α W r f B (r::t)/\Bfs m u r f t k) m.toNat ⟨[],[o],0,_,_,rfl,bx _,rfl,s2,I,.cons f2 .nil,Bfs.start⟩ ?_;rintro n O W NW Z XD ⟨t,B,G,v5,v6,rfl,cr,rfl,s4,M,pa,S⟩;have tl:=ae S.J;have ql:B.length=(r::t).length:=Paired.length pa;walk_at "";refine⟨_,.inl (μ.of M),?_⟩;rw[aa,ql];by_cases c:G=(r::t).length
 .rw[ah (by lia)];exact k lo B t W ai s4 M pa (S.done R (by lia))
 .rw[aj (by lia)];have am:G<(r::t).length:=by lia
  obtain⟨p,hp⟩:∃p,(r::t)[G]?=some p:=⟨_,ao am⟩;have S':=S.step g R rr.1 rr.2 hp;have ZO:=ae S'.J;have pr:0<=p/\p<m:=by
   rcases aq.mp (aJ hp)with e|e
   .rw[e];exact rr
   .exact S.J.Λ p e
  refine⟨NW,λcy H' z=>?_,?_⟩
  .obtain⟨m',lt,t',j,k',a5,a6,X,I,e3⟩:=XD _ _ z
   first|exact⟨m',lt,t',j,k',a5,a6,X,I,e3⟩|exact⟨m',lt,t',j,k',X,I,a5,a6,e3⟩
  obtain⟨qx,Y⟩:∃qx,B[G]?=some qx:=⟨_,ao (by lia)⟩;obtain⟨qp,pv,X,I,e3,e4⟩:=pa.get (i:=G) (x:=.ref qx) (by rw[aH,Y];rfl);injection X with X
  subst X;rw[hp]at e3;cases e3;refine Η M (JQ (by rw[aH,Y];rfl)) ⟨qx,rfl,_,Ι.of e4,rfl,_,_,rfl,_,_,rfl,rfl,?_⟩;refine⟨Xj M,by lia,by lia,λpc Yo=>?_⟩;have mk:∀v,v∈bT m u (Pb.front r f p) p->(0<=v/\v<m)/\v≠r/\f v=p:=λv=>(bB g R pr.1 pr.2).mp;have be:∀i:Nat,i<m.toNat->(c9 u p (i:Int)).isSome=true->V.int (i:Int)≠Pb.front r f p->(i:Int)∈bT m u (Pb.front r f p) p:=λi hi h1 h2=>by
   rw[<-BG];unfold lK;exact bG.mpr ⟨bG.mpr ⟨gM.mpr ⟨by lia,by lia⟩,h1⟩,ba h2⟩
  have ab:∀i:Nat,i<=m.toNat->(lK u (Pb.front r f p) p i).length<=24:=λi hi=>by
   unfold lK;refine aN (b8 _ _) (aN (b8 _ _) ?_);rw[cX]
   lia
  have bd:∀i:Int,nW (.int i) (Pb.front r f p)=true:=λi=>by
   unfold Pb.front;by_cases z:p=r
   .rw[aj z];rfl
   .rw[ah z];rfl
  rw[<-BG]at S' ZO;have ct:lo≠pc:=λz=>by rw[<-z,M]at Yo;cases Yo
  refine qE (λi zs O C=>δ W C/\C pc=some (.lst zs)/\(∃j:List Addr,zs=j.map V.ref/\Α C r f j (lK u (Pb.front r f p) p i))/\∃v,O=[v,some (.int p),some (Pb.front r f p),some (.ref d)]) ⟨δ.new _ Yo,aw,⟨[],rfl,.nil⟩,_,rfl⟩ ?_ ?_
  .rintro i zs O C N Z hi ⟨s5,hc,⟨j,rfl,pa'⟩,v7,rfl⟩;rw[cW];have kl:=ab i (by lia);have bp:j.length=(lK u (Pb.front r f p) p i).length:=Paired.length pa';walk_at "";refine⟨bd _,?_⟩;by_cases c1:V.int (i:Int)=Pb.front r f p
   .rw[ah (λz=>z c1)];exact Z _ _ _ ⟨s5,hc,⟨j,rfl,by rw[AR (λ_ z=>z c1)];exact pa'⟩,_,rfl⟩
   .rw[aj c1];refine⟨cg (by simp),λq nq=>?_⟩;have L:=δ.new (.tup [V.int p,V.int (i:Int)]) nq;obtain⟨η,X1,hv⟩:=(ta.same (s4.trans s5)).ex;have hg:=ϔ.t (k:=[.inl p,.inl (i:Int)]) (L _ _ X1) aw;rw[hv]at hg;refine⟨_,hg,?_⟩;by_cases c2:(c9 u p (i:Int)).isSome=true
    .rw[aj (by rw[gK];exact c2)];obtain⟨_,kr,kp⟩:=mk _ (be i hi c2 c1);refine⟨cg (by simp),λq' YJ=>?_⟩;have s7:=L.trans (δ.new (.tup [V.int (i:Int),V.int p]) YJ);have af:=s7 _ _ hc;have a8:q'≠pc:=λz=>by rw[z,L _ _ hc]at YJ;cases YJ
     refine⟨af,eJ (by rw[aa];lia),Z _ _ _ ⟨(s5.trans s7).put Yo _,aw,⟨j++[q'],by rw[aB];rfl,?_⟩,_,rfl⟩⟩;rw[Lh c2 c1];refine Α.snoc ?_ (Paired.imp' (λa b h=>by rw[aP (iR (s7 _ _ h) af (by intro z;cases z))];exact s7 _ _ h) pa');rw[aP a8,aw];unfold vPr Pb.front;rw[ah kr,kp]
    .rw[ah (by rw[gK];exact c2)];exact Z _ _ _ ⟨s5.trans L,L _ _ hc,⟨j,rfl,by rw[AR (λz=>absurd z c2)];exact Α.same L pa'⟩,_,rfl⟩
  .rintro zs O C ⟨s5,hc,⟨j,rfl,pa'⟩,v7,rfl⟩;have bp:j.length=(lK u (Pb.front r f p) p m.toNat).length:=Paired.length pa';have kl:=ab m.toNat (ax _);have an:=s5 _ _ M;rw[aD]at tl am;refine⟨lo,pc,_,_,rfl,rfl,an,hc,cg (by rw[aa,aa,ql,aD];lia),?_⟩;refine Z (m.toNat-(G+1)) _ _ (by lia) ⟨_,B++j,G+1,_,_,rfl,by rw[aD,aO];lia,rfl,(s4.trans s5).put ai _,by rw[aw,aB],?_,S'⟩;have kp:∀a b,C a=some (.tup (vPr r f b))->upd C lo (.lst (B.map V.ref++j.map V.ref)) a=some (.tup (vPr r f b)):=λa b h=>by rw[aP (iR h an (by intro z;cases z))];exact h
   exact JW (Paired.imp' kp pa') (Paired.imp' kp (Α.same s5 pa))
theorem Qf(c k:Int)(j:0<=k)(m:k<=1000):∃a b d:Int,(c%998244353+7919*k+11)*48271%2147483647=a/\a*a%2147483629=b/\(b+104729*k+7)*b%1000000007=d/\Xz 7919 k/\Xz (c%998244353+7919*k+11) 48271/\Xz a a/\Xz 104729 k/\Xz (b+104729*k+7) b/\Xz d 16807/\0<=d*16807%2147483647/8/\d*16807%2147483647/8<=2147483647:=by
 have e:∀(x n:Int),0<n->0<=x%n/\x%n<n:=λx n h=>⟨dj x (nS h),cC x h⟩;refine⟨_,_,_,rfl,rfl,rfl,?_⟩;have i:=e ((c%998244353+7919*k+11)*48271) 2147483647 (by decide);generalize (c%998244353+7919*k+11)*48271%2147483647=a at i ⊢;have f:=e (a*a) 2147483629 (by decide);generalize a*a%2147483629=b at f ⊢;have g:=e ((b+104729*k+7)*b) 1000000007 (by decide);generalize (b+104729*k+7)*b%1000000007=d at g ⊢;have l:=e (d*16807) 2147483647 (by decide);exact⟨.inl ⟨by decide,by decide⟩,.inr ⟨by decide,by decide⟩,.inl ⟨by lia,by lia⟩,.inl ⟨by decide,by decide⟩,.inr ⟨by lia,by lia⟩,.inr ⟨by decide,by decide⟩,by lia,by lia⟩
def yb(T:Txt K U):Sp:=λa H Q _=>∃(c k:Int),a=[.int c,.int k]/\0<=k/\k<=1000/\∀v,0<=v->v<=2147483647->Q (.int v) H
abbrev rG:Stmt:=top 72
theorem Gc:ζ ["cell","k","m"] ["cell","k"] (aG rG):=.of
theorem F7(T:Txt K U)(x:b6 (Β P w)):Ok P w K U base "_law_mixed" rG ["cell","k"] 1 (yb T):=λ_ _ D=>by
 refine D.F.ό Gc (by walk_at "v") λy A e s H B Q E z h=>?_;obtain⟨c,i,rfl,u,r,k⟩:=h;obtain⟨a,b,d,f,p,m,q,t,j,l,g,o,n,v⟩:=Qf c i u r;refine⟨_,(ap (ψ 2 (aZ eU (aZ kO (aZ dR (aZ dR (aZ eU (γ 0) aL) (aZ kO aL (γ 1))) aL) aL) aL)) (ap (ψ 2 (aZ eU (aZ kO (γ 2) (γ 2)) aL)) (ap (ψ 2 (aZ eU (aZ kO (aZ dR (aZ dR (γ 2) (aZ kO aL (γ 1))) aL) (γ 2)) aL)) (aM (bL (aZ fN (aZ eU (aZ kO (γ 2) aL) aL) aL)))))),?_⟩;walk_at "s";walk_at "";rw[f,p,m];exact⟨by decide,q,t,by decide,j,by decide,l,g,by decide,o,by decide,⟨by decide,by decide⟩,k _ n v⟩
def vD(T:Txt K U):Sp:=λd H Q _=>E3 λ(a:Addr)(e:eu)(m:Int)=>d=[.ref a,.int m]/\μ K H a (e.map V.int)/\0<=m/\m<=800/\∀(l:Addr)(c:eu)(b:Hp),H l=none->δ H b->b l=some (.lst (c.map V.int))->(c.length:Int)=m->Q (.ref l) b
abbrev m5:Stmt:=top 73
theorem Dh:ζ ["script","many","rest","numbers","k"] ["script","many"] (aG m5):=.of
theorem wD:Ϙ (aG m5) "range":=.of (by kernel_rfl)
theorem DL(T:Txt K U)(j:b6 (Β P w))(u:Cb P w K U base "_law_cell" qj ["script","k"] 1 (uV T))(t:Cb P w K U base "_law_mixed" rG ["cell","k"] 1 (yb T)):Ok P w K U base "_law_numbers" m5 ["script","many"] 2 (vD T):=λ_ _ D=>by
 refine D.F.ό Dh (by walk_at "v") λI A q s H L Q E n h=>?_;obtain⟨a,r,m,rfl,v,G,J,k⟩:=h;refine⟨_,(ap (ψ 2 (Ζ u n j (ag (γ 0) (ag aL ay)))) (ap (ψ 3 (eI ay)) (ap (fq PassesOwn.never rfl (mM wD.g T.range (ag (γ 1) ay)) (ϓ 4) (aM (dG (Ϫ iH (aZ eU (Ζ u n j (ag (γ 0) (ag aL ay))) aL) aL) (ap (dI (j4 PySem.F.plainAttrs_list PySem.F.slot_list_append PySem.F.type_list_append f6 (γ 3) (ag (aZ eU (γ 2) (aZ GC aL aL)) ay))) (aM (ψ 2 (aZ wq (γ 2) (aZ GC aL aL))))) (aM (dI (j4 PySem.F.plainAttrs_list PySem.F.slot_list_append PySem.F.type_list_append f6 (γ 3) (ag (aZ dR (aZ kO (Ζ t n j (ag (γ 2) (ag (γ 4) ay))) aL) (Ζ t n j (ag (γ 2) (ag (aZ dR (γ 4) aL) ay)))) ay))))))) (aM (bL (γ 3)))))),?_⟩;walk_at "s";walk_at "";refine⟨a,r,1,rfl,v,by decide,λrest=>⟨by decide,λl nl=>⟨by lia,by lia,?_⟩⟩⟩;refine sF (λi o d=>δ H d/\E3 λ(rest:Int)(b:eu)(p:Option V)=>d l=some (.lst (b.map V.int))/\b.length=i/\o=[some (.ref a),some (.int m),some (.int rest),some (.ref l),p]) ⟨δ.new _ nl,rest,[],_,aw,rfl,rfl⟩ ?_ ?_
 .rintro i o d N hN hi ⟨s2,rest,b,p,e2,xl,rfl⟩;rw[cW];have B:=δ.seq s2 v;have e:∀(z rest:Int),N [some (V.ref a),some (V.int m),some (V.int rest),some (V.ref l),some (V.int (i:Int))] (upd d l (.lst (b.map V.int++[V.int z]))):=λz rest=>
   hN _ _ ⟨s2.put nl _,rest,b++[z],_,by rw[aw,aB];rfl,by rw[aO,xl];rfl,rfl⟩
  walk_at "";refine⟨a,r,0,rfl,B,by decide,λc=>⟨c,rfl,by decide,?_⟩⟩;have f:VB 10 20:=⟨by decide,by decide,by decide⟩;by_cases z:c%2=0
  .rw[aj z];exact⟨Xj e2,f,by decide +kernel,qN e2 (eJ (by rw[aa];lia)) ⟨f,⟨by decide +kernel,by decide +kernel⟩,e _ _⟩⟩
  .rw[ah z];exact⟨Xj e2,rest,(i:Int),rfl,by lia,by lia,λx M C=>⟨x,rfl,.inr ⟨by decide,by decide⟩,rest,(i:Int)+100,rfl,by lia,by lia,λy _ _=>⟨y,rfl,qN e2 (eJ (by rw[aa];lia)) (e _ _)⟩⟩⟩
 .rintro o d ⟨s2,rest,b,p,e2,xl,rfl⟩;walk_at "";exact k l b d nl s2 e2 (by lia)
def Zt(i:Nat):Nat:=10^60*(10^6)^i
theorem PP(i:Nat):Zt (i+1)=Zt i*1000000:=by
 unfold Zt;rw[show(10^6:Nat)^(i+1)=(10^6)^i*10^6 from gc ..,<-Nat.mul_assoc]
theorem T7{i:Nat}(h:i<=24):Zt i<=Zt 24:=ip _ (bP (by decide) h)
theorem Vq:Zt 24<2^700:=by unfold Zt;decide +kernel
theorem RQ(i:Nat):0<Zt i:=Nat.mul_pos (by decide) (Nat.pow_pos (by decide))
def wR(T:Txt K U):Sp:=λl H Q _=>E11 λ(k lo:Addr)(j:g8)(c:hT)(t:eu)(m r w b:Int)(a:fc)(d:fz)=>l=[.ref k,.ref lo,.int w,.int b]/\Μ H k c/\Good m c/\ε m c r a d/\H lo=some (.lst (j.map V.ref))/\Α H r a j (r::t)/\Order m r a t/\t.length+1=m.toNat/\(0<=r/\r<m)/\1<=w/\w<=10^60/\∀(h g ld:Addr)(e i:eu)(f:Hp),H g=none->δ H f->f h=some (.tup [.ref g,.ref ld])->f g=some (.lst (e.map V.int))->(e.length:Int)=m->(∀x∈e,0<=x/\x<2^720)->(∃n,Zj m c r a d w (λv=>i.getD v.toNat 0) n/\∀v,0<=v->v<m->e.getD v.toNat 0=if kd m c r a v=[]then i.getD v.toNat 0 else 0)->Q (.ref h) f
abbrev jN:Stmt:=top 83
theorem m8:ζ ["tolls","order","wanted","cell","weights","laying","load","rest","place","near","kids_v","heavy","left","kid","gives"] ["tolls","order","wanted","cell"] (aG jN):=.of
theorem vM:Zi (aG jN) "weights":=.of (by kernel_rfl)
theorem xf:Zi (aG jN) "place":=.of (by kernel_rfl)
theorem wr:ZE (aG jN) "kids_v":=.of (by kernel_rfl)
theorem xa:ZE (aG jN) "heavy":=.of (by kernel_rfl)
theorem Ev(T:Txt K U)(hq:b6 (Β P w))(jG:td P w base T):Ok P w K U base "_law_spread" jN ["tolls","order","wanted","cell"] 2 (wR T):=λ_ _ D=>by
 refine D.F.ό m8 (by walk_at "v") λτ A et s H vs Q E hr h=>?_;obtain⟨dt,lo,qs,C,t,m,r,w,ad,b,d,rfl,ta,g,R,ho,pa,O,tl,⟨r0,r1⟩,w1,w2,k⟩:=h;have m1:=g.m1;have Θ:=g.Θ;have hu:=oS hr;have hv:=hr.units;have ql:qs.length=(r::t).length:=Paired.length pa;rw[aD]at ql;refine⟨_,(ap (t7 (i:=4) m8.nd rfl (Or.inr vM.l) (Ζ jG hr hq (ag (Ϭ 0) (ag (γ 1) ay)))) (ap (ψ 5 (aZ qA (eI (ag aL ay)) (BV gI T.len (ag (γ 1) ay)))) (ap (ψ 6 (aZ qA (eI (ag aL ay)) (BV gI T.len (ag (γ 1) ay)))) (ap (mw (aZ fU (γ 2) aL) (ow (γ 6) (Ε ia (iM bF (γ 1) aL (λ_ _=>rfl)) aL) jT)) (ap (ψ 7 (γ 3)) (ap (fq PassesOwn.never rfl (gQ (γ 1)) (j0 (n:=2) rfl (cG (fe (i:=8) m8.nd rfl (Or.inr xf.l)) (cG (ϓ 9) iA))) (ap (wH (i:=10) m8.nd rfl wr.l rfl (Zn ["pair","place"] 1 [8]) (gQ (γ 1)) (λ_ _ _ _=>(fe (i:=0) (show(["pair","place"]:hL).Nodup from by decide +kernel) rfl (Or.inl rfl))) (λ_ _ _ _=>(sV (Ϫ iH (Ε (yh K rfl) (pv 0) aL) (pv 1)))) (λ_ _ _ _=>(Ε (yh K rfl) (pv 0) aL))) (ap (wH (i:=11) m8.nd rfl xa.l rfl (Zn ["kid","weights","place","tolls"] 1 [4,8,0]) (gQ (γ 10)) (λ_ _ _ _=>(fe (i:=0) (show(["kid","weights","place","tolls"]:hL).Nodup from by decide +kernel) rfl (Or.inl rfl))) (λ_ _ _ _=>(sV (nC iH (aZ nj (Ε (mQ K rfl) (pv 1) (pv 0)) (tf hu (pv 3) (jd (ag (pv 0) (ag (pv 2) ay))) (λ_ _=>rfl))) (Ε (mQ K rfl) (pv 1) (pv 2)) (gV _)))) (λ_ _ _ _=>(pv 0))) (ap (ψ 12 (Ε bF (γ 6) (Ϭ 8))) (ap (fq PassesOwn.never rfl (gQ (γ 10)) (ϓ 13) (ap (ψ 14 aL) (ap (dG (nC MK (γ 13) (γ 11) (by with_unfolding_all rfl)) (ap (ψ 14 (γ 12)) (aM (dG (Ϫ pL (γ 13) (Ε bF (γ 11) (yC vJ aL))) (ap (ψ 14 (aZ eU (γ 7) (aZ dR (γ 12) aL))) (aM (ψ 7 (aZ wq (γ 7) (aZ dR (γ 12) aL))))) cN))) cN) (ap (ψ 12 (aZ fU (γ 12) (γ 14))) (aM (mw (aZ fU (aZ kO (tf hu (Ϭ 0) (jd (ag (γ 13) (ag (Ϭ 8) ay))) (λ_ _=>rfl)) (aZ dR (γ 14) aL)) aL) (ow (γ 6) (γ 13) jT))))))) (aM (dG (Ϫ (Nd hv) (γ 10) (eI ay)) (aM (mw (Ε bF (γ 6) (Ϭ 8)) (ow (γ 5) (Ϭ 8) jT))) cN))))))) (aM (bL (jd (ag (γ 5) (ag (γ 6) ay))))))))))),?_⟩;walk_at "s";refine cU λN1 h1=>?_;walk_at "";refine⟨dt,lo,qs,C,t,m,r,b,d,rfl,ta,g,R,ho,pa,O,tl,λlw H1 nw s1 ew=>h1 _ _ (cU λN2 h2=>?_)⟩;have bs:∀(H2:Hp)(R':VK),δ H H2->(∀q H3,H2 q=none->δ H2 H3->H3 q=some (.lst ((List.replicate m.toNat (0:Int)).map V.int))->R' (.ref q) H3)->[V.int 0].length<=sizeLine/\∀(p:Addr),H2 p=none->∃x,(μ K (upd H2 p (HO.lst [V.int 0])) lo x\/Ι K (upd H2 p (HO.lst [V.int 0])) lo x)/\aes (V.ref p) (V.int (x.length:Int)) (upd H2 p (HO.lst [V.int 0])) R':=by
  intro H2 R' s2 q;refine⟨cg (by simp),λp1 n1=>?_⟩;have u1:=δ.new (.lst [V.int 0]) n1;refine⟨_,.inl (μ.of (u1 _ _ (s2 _ _ ho))),?_⟩;rw[aa,ql];refine⟨p1,_,_,rfl,rfl,aw,by lia,by lia,cg (by simp;lia),λp2 n2=>?_⟩;rw[BL,bu,tl];refine q p2 _ (u1.free n2) (u1.trans (δ.new _ n2)) ?_;rw[aw,gq]
 walk_at "";refine bs _ _ s1 λW H2 na s2 ea=>h2 _ _ (cU λN3 h3=>?_);have bY:=s1.trans s2;have cz:=s1.free na;have dS:lw≠W:=b9 ew na;walk_at "";refine bs _ _ bY λld H3 nd s3 ed=>h3 _ _ (cU λN4 h4=>?_);have aT:=bY.trans s3;have cZ:=bY.free nd;have bp:W≠ld:=b9 ea nd;have ea:=s3 _ _ ea;have ew:=(s2.trans s3) _ _ ew;have cr:lw≠ld:=b9 (s2 _ _ (by assumption)) nd;clear h1 h2 h3 s1 s2 s3 bY na nd bs;walk_at "";obtain⟨q0,v0,e0,f0,f1,f2⟩:=pa.get (i:=0) (x:=V.ref (qs.headD 0)) (by
  cases qs with
  | nil=>simp at ql
  | cons a l=>rfl)
 cases(show v0=r by simpa using f1.symm);have gu:(cJ m C r b d).length=m.toNat:=by unfold cJ;exact mC
 refine Η (aT _ _ ho) (cB (by decide) (v:=V.ref q0) (by rw[show(0:Int).toNat=0 from rfl,aH,f0];rfl)) (Xa (aT _ _ f2) rfl (tY ed r0 (by rw[aa,bU];lia) (h4 _ _ (cU λN5 h5=>?_))));have Zu:=aT.put cZ (.lst (((List.replicate m.toNat (0:Int)).map V.int).set r.toNat (V.int (w-1))));have cl:upd H3 ld (.lst (((List.replicate m.toNat (0:Int)).map V.int).set r.toNat (V.int (w-1)))) ld=some (.lst (((List.replicate m.toNat (0:Int)).set r.toNat (w-1)).map V.int)):=by rw[aw,<-eM]
 have cx:upd H3 ld (.lst (((List.replicate m.toNat (0:Int)).map V.int).set r.toNat (V.int (w-1)))) W=some (.lst ((List.replicate m.toNat (0:Int)).map V.int)):=by rw[aP bp];exact ea
 have dd:upd H3 ld (.lst (((List.replicate m.toNat (0:Int)).map V.int).set r.toNat (V.int (w-1)))) lw=some (.lst ((cJ m C r b d).map V.int)):=by rw[aP cr];exact ew
 generalize upd H3 ld (.lst (((List.replicate m.toNat (0:Int)).map V.int).set r.toNat (V.int (w-1))))=H4 at Zu cl cx dd ⊢;clear h4 ed ea ew aT;walk_at "";refine h5 _ _ (cU λN6 h6=>?_);walk_at "";refine⟨⟨_,μ.of (Zu _ _ ho)⟩,?_⟩;refine mL (K:=K) (xs:=qs.map V.ref) (λi I H5=>δ H H5/\H5 lw=some (.lst ((cJ m C r b d).map V.int))/\E11 λ(xs ys:eu)(gv:fc)(rest:Int)(v8 v9 bk a7 bv Z ae:Option V)=>H5 W=some (.lst (xs.map V.int))/\H5 ld=some (.lst (ys.map V.int))/\Sps m C r b d w t i xs ys gv/\(∀x∈xs,0<=x/\x<2^720)/\(∀y∈ys,0<=y/\y<(Zt i:Int))/\I=[some (V.ref dt),some (V.ref lo),some (V.int w),some (V.int ad),some (V.ref lw),some (V.ref W),some (V.ref ld),some (V.int rest),v8,v9,bk,a7,bv,Z,ae]) ⟨Zu,dd,_,_,λ_=>0,_,_,_,_,_,_,_,_,cx,cl,⟨by rw[bU];lia,by rw[dB,bU];lia,by rw[oB _ _ _ _ (by rw[bU];lia),aj rfl],λ_ _ _ _ z=>(nomatch z),λ_ z=>(nomatch z),λu _ _=>by rw[ah λz=>(nomatch z.1),bH,d5];split<;>rfl⟩,?_,?_,rfl⟩ (λi I H5 _ z=>μ.of (z.1 _ _ ho)) ?_ ?_
 .intro x hx;rw[gB hx];exact⟨bC _,by decide +kernel⟩
 .intro y hy;rw[show Zt 0=10^60 from rfl];rcases fQ hy with hy|rfl
  .rw[gB hy];exact⟨bC _,by decide⟩
  .exact⟨by lia,by lia⟩
 .rintro i x I H5 N BB Ϥ hN hx ⟨s5,ew5,xs,ys,gv,rest,v8,v9,bk,a7,bv,Z,ae,ea5,ed5,NN,x0,y0,rfl⟩;have xl:=NN.xl;have yl:=NN.yl;refine Ϥ _ _ ?_;obtain⟨q,v,rfl,fk,bd,e5⟩:=pa.get hx;walk_at "";refine⟨_,Ι.of (s5 _ _ e5),rfl,_,_,rfl,_,_,rfl,rfl,?_⟩;have vr:0<=v/\v<m:=by
   rcases aq.mp (aJ bd)with h|h
   .rw[h];exact⟨r0,r1⟩
   .exact O.Λ v h
  have il:=(ar.mp bd).1;rw[aD]at il;refine⟨⟨_,μ.of (s5 _ _ ho)⟩,λpk S=>?_⟩;refine lW (K:=K) (c:=true) (a:=lo) (xs:=qs.map V.ref) (λj G I H6=>δ H5 H6/\H6 pk=some (.lst G)/\G=(((r::t).take j).filter λc=>decide (c≠r/\b c=v)).map V.int/\∃v0,I=[v0,some (V.int v)]) ⟨δ.new _ S,aw,rfl,_,rfl⟩ (λj G I H6 _ ⟨z,_⟩=>μ.of (z _ _ (s5 _ _ ho))) ?_ ?_
  .rintro j y G I H6 N' Zr hj ⟨s6,e6,rfl,v0,rfl⟩;obtain⟨q',u,rfl,gy,X,e7⟩:=pa.get hj;have kl:(((r::t).take j).filter λc=>decide (c≠r/\b c=v)).length<=j:=aN (b8 ..) (by rw[bg];lia);have Y:(0<=u/\u<m):=by
    rcases aq.mp (aJ X)with h|h
    .rw[h];exact⟨r0,r1⟩
    .exact O.Λ u h
   have jl:=(ar.mp X).1;rw[aD]at jl;have e8:=s6 _ _ (s5 _ _ e7);walk_at "";refine Xa e8 (v:=Pb.front r b u) rfl ?_;by_cases cu:u=r
   .have fv:Pb.front r b u=V.π:=(by unfold Pb.front;rw[aj cu]);rw[fv];refine⟨by simp[nW],?_⟩;rw[ah (by intro z;cases z)];exact Zr _ _ _ ⟨s6,e6,by rw[vQ X (bw λz=>z.1 cu)],_,rfl⟩
   .have fv:Pb.front r b u=V.int (b u):=(by unfold Pb.front;rw[ah cu]);rw[fv];refine⟨by simp[nW],?_⟩;by_cases cp:b u=v
    .rw[aj (by rw[cp])];refine Xa e8 rfl ⟨e6,eJ (by rw[aa];lia),Zr _ _ _ ⟨s6.put S _,aw,by rw[Gn X (ba ⟨cu,cp⟩),aB];rfl,_,rfl⟩⟩
    .rw[ah (by intro z;injection z;contradiction)];exact Zr _ _ _ ⟨s6,e6,by rw[vQ X (bw λz=>cp z.2)],_,rfl⟩
  .rintro G I H6 ⟨s6,e6,ez6,v0,rfl⟩;rw[aa,ql,show t.length+1=(r::t).length from rfl,bo]at ez6;have bt:((r::t).filter λc=>decide (c≠r/\b c=v)).Nodup:=O.nd.filter _;have mk:∀u,u∈((r::t).filter λc=>decide (c≠r/\b c=v))↔u∈kd m C r b v:=λu=>by
    rw[bB g R vr.1 vr.2,bG,decide_eq_true_iff];exact⟨λh=>⟨O.Λ u ((aq.mp h.1).resolve_left h.2.1),h.2⟩,λh=>⟨aq.mpr (O.all u h.1.1 h.1.2),h.2⟩⟩
   have kl:((r::t).filter λc=>decide (c≠r/\b c=v)).length<=t.length+1:=b8 ..;generalize ((r::t).filter λc=>decide (c≠r/\b c=v))=ks at ez6 bt mk kl;subst ez6;have kg:∀u∈ks,(0<=u/\u<m)/\u≠r/\b u=v:=λu h=>(bB g R vr.1 vr.2).mp ((mk u).mp h);have c6:=s5.trans s6;have c4:=s6 _ _ ew5;have cf:=s6 _ _ ed5;have co:=s6 _ _ ea5;have ej:pk≠ld:=λz=>by rw[z,ed5]at S;cases S
   have gl:pk≠W:=λz=>by rw[z,ea5]at S;cases S
   refine⟨pk,rfl,⟨_,μ.of e6⟩,λph M=>?_⟩;have a2:∀(J:Hp)(u:Int),δ H J->(0<=u/\u<m)->u≠r->b u=v->∃kk,kk=tup C b u/\2<=kk/\kk<=1000000/\∀q',J q'=none->ϔ (upd J q' (.tup [V.int u,V.int v])) dt (V.ref q') (some (V.int kk)):=by
    intro J u s8 Y un up;obtain⟨kd,hd,d0,d1⟩:=lm g R Y.1 Y.2 un;rw[up]at hd;refine⟨kd,by unfold tup;rw[up,hd];rfl,d0,d1,λq' YJ=>?_⟩;have L:=δ.new (.tup [V.int u,V.int v]) YJ;obtain⟨η,X1,eA⟩:=(ta.same s8).ex;have hg:=ϔ.t (k:=[.inl u,.inl v]) (L _ _ X1) aw;rw[eA,hd]at hg;exact hg
   refine lW (K:=K) (c:=true) (a:=pk) (xs:=ks.map V.int) (λj G I H7=>δ H6 H7/\H7 ph=some (.lst G)/\G=((ks.take j).filter λu=>decide (ν m C r b d u*tup C b u=ν m C r b d v)).map V.int/\∃v0,I=[v0,some (V.ref lw),some (V.int v),some (V.ref dt)]) ⟨δ.new _ M,aw,rfl,_,rfl⟩ (λj G I H7 _ ⟨z,_⟩=>μ.of (z _ _ e6)) ?_ ?_
   .rintro j y G I H7 N' Zr hj ⟨s7,e7,rfl,v0,rfl⟩;obtain⟨u,hu,rfl⟩:=List.θ hj;obtain⟨Y,un,up⟩:=kg u (aJ hu);have jl:=(ar.mp hu).1;walk_at "";have a1:=s7 _ _ c4;have hl:((ks.take j).filter λu=>decide (ν m C r b d u*tup C b u=ν m C r b d v)).length<=j:=aN (b8 ..) (by rw[bg];lia);obtain⟨kk,ek,k0,k1,dg⟩:=a2 H7 u (c6.trans s7) Y un up;refine Η a1 (eQ Y.1 (by lia)) ⟨cg (by simp),λq' YJ=>⟨_,dg q' YJ,_,rfl,_,rfl,Xz.ok (.inr ⟨by lia,by lia⟩),?_⟩⟩;have L:=δ.new (.tup [V.int u,V.int v]) YJ;generalize upd H7 q' (.tup [V.int u,V.int v])=H9 at L ⊢;refine Η (L _ _ a1) (eQ vr.1 (by lia)) ⟨by simp[nW],?_⟩;have n9:δ H6 H9:=s7.trans L;rw[show(cJ m C r b d).getD u.toNat 0=ν m C r b d u from fD Y.1 Y.2,show(cJ m C r b d).getD v.toNat 0=ν m C r b d v from fD vr.1 vr.2,ek];by_cases ch:ν m C r b d u*tup C b u=ν m C r b d v
    .rw[aj (congrArg V.int ch)];exact⟨L _ _ e7,eJ (by rw[aa];lia),Zr _ _ _ ⟨n9.put M _,aw,by rw[Gn hu (ba ch),aB];rfl,_,rfl⟩⟩
    .rw[ah λz=>ch (V.int.inj z)];exact Zr _ _ _ ⟨n9,L _ _ e7,by rw[vQ hu (bw ch)],_,rfl⟩
   .rintro G I H7 ⟨s7,e7,ez7,v0,rfl⟩;rw[aa,bo]at ez7;have hl:(ks.filter λu=>decide (ν m C r b d u*tup C b u=ν m C r b d v)).length<=ks.length:=b8 ..;obtain⟨hs,a5⟩:∃hs,hs=ks.filter λu=>decide (ν m C r b d u*tup C b u=ν m C r b d v):=⟨_,rfl⟩;rw[<-a5]at ez7 hl;subst ez7;have eo:ph≠ld:=λz=>by rw[z,cf]at M;cases M
    have go:ph≠W:=λz=>by rw[z,co]at M;cases M
    have a1:=s7 _ _ c4;have dk:=s7 _ _ cf;have ep:=s7 _ _ co;have cc:=s7 _ _ e6;have dV:=c6.trans s7;refine Η dk (eQ vr.1 (by lia)) ⟨pk,rfl,⟨_,μ.of cc⟩,?_⟩;obtain⟨l0,l1⟩:0<=ys.getD v.toNat 0/\ys.getD v.toNat 0<(Zt i:Int):=by
     rw[List.getD];cases e:ys[v.toNat]? with
     | none=>exact⟨bC _,by have:=RQ i;show(0:Int)<_;lia⟩
     | some y=>exact y0 y (aJ e)
    have cS:=PP i;have bi:Zt i<2^700:=fE (T7 (i:=i) (by lia)) Vq;generalize Zt (i+1)=B1 at cS hN;generalize Zt i=B at cS l1 y0 bi;refine mL (K:=K) (xs:=ks.map V.int) (λj I J=>δ H J/\J lw=some (.lst ((cJ m C r b d).map V.int))/\J W=some (.lst (xs.map V.int))/\J pk=some (.lst (ks.map V.int))/\J ph=some (.lst (hs.map V.int))/\E6 λ(G:eu)(gw:fc)(rest o:Int)(Z ae:Option V)=>J ld=some (.lst (G.map V.int))/\Spk m C r b d v ks ys gv j G gw o/\(∀y∈G,0<=y/\y<(B1:Int))/\0<=o/\o<(B:Int)/\I=[some (V.ref dt),some (V.ref lo),some (V.int w),some (V.int ad),some (V.ref lw),some (V.ref W),some (V.ref ld),some (V.int rest),some (V.int v),some (Pb.front r b v),some (V.ref pk),some (V.ref ph),some (V.int o),Z,ae]) ⟨dV,a1,ep,cc,e7,ys,gv,_,_,_,_,dk,Spk.start yl,(λy hy=>⟨(y0 y hy).1,by have:=(y0 y hy).2;lia⟩),l0,l1,rfl⟩ (λj I J _ z=>μ.of z.2.2.2.1) ?_ ?_
    .rintro j x I J N2 CC hCC XD hj ⟨s8,ew8,ea8,ek8,eh8,G,gw,Yy,o,alm,aln,ed8,SK,z0,lf0,lf1,rfl⟩;obtain⟨u,hu,rfl⟩:=List.θ hj;obtain⟨Y,un,up⟩:=kg u (aJ hu);have zl:=SK.zl;refine hCC _ _ (cU λM1 k1=>?_);walk_at "";refine k1 _ _ (cU λM2 k2=>?_);have fin:∀(f c0:Int),0<=f->f<=o->(f≠0->ν m C r b d u*tup C b u=ν m C r b d v)->(hs.getLast?=some u->f=o)->M2 [some (V.ref dt),some (V.ref lo),some (V.int w),some (V.int ad),some (V.ref lw),some (V.ref W),some (V.ref ld),some (V.int c0),some (V.int v),some (Pb.front r b v),some (V.ref pk),some (V.ref ph),some (V.int o),some (V.int u),some (V.int f)] J:=by
      intro f c0 g0 g1 g2 g3;refine k2 _ _ ?_;walk_at "";obtain⟨kk,ek,k0,k1,dg⟩:=a2 J u s8 Y un up;refine⟨cg (by simp),λq' YJ=>⟨_,dg q' YJ,_,rfl,.inl ⟨by lia,by lia⟩,?_⟩⟩;have L:=δ.new (.tup [V.int u,V.int v]) YJ;generalize upd J q' (.tup [V.int u,V.int v])=H9 at L ⊢;have eh:=s8.trans L;have fx:kk*(f+1)<=1000000*B:=dE k1 (by lia) (by lia) (by lia);have gp:1*1<=kk*(f+1):=dE (by lia) (by lia) (by lia) (by lia);refine tY (L _ _ ed8) Y.1 (by rw[aa];lia) (XD _ _ ⟨eh.put cZ _,by rw[aP cr];exact L _ _ ew8,by rw[aP bp];exact L _ _ ea8,by rw[aP ej];exact L _ _ ek8,by rw[aP eo];exact L _ _ eh8,G.set u.toNat (kk*(f+1)-1),_,_,_,_,_,by rw[aw,<-eM],by rw[fh,ek];exact SK.step bt (λu h=>(kg u h).1) hu g0 g1 g2 (by rw[<-a5];exact g3),?_,?_,?_,rfl⟩)
      .intro y hy;rcases fQ hy with hy|rfl
       .exact z0 y hy
       .constructor<;>lia
      .lia
      .lia
     walk_at "";refine⟨ph,_,rfl,.inl (μ.of eh8),rfl,DY _,_,rfl,?_⟩;by_cases ci:inV (V.int u) (hs.map V.int)=true
     .rw[aj (by simpa using ci)];have cy:ν m C r b d u*tup C b u=ν m C r b d v:=by
       have:u∈hs:=bZ (by rw[<-Az];exact ci);rw[a5]at this;exact bZ (bG.mp this).2
      have er:hs≠[]:=λz=>by rw[z]at ci;simp[inV]at ci
      obtain⟨cv,z,c5⟩:∃cv z,hs=cv++[z]:=⟨_,_,(List.dropLast_concat_getLast er).symm⟩;have ez:ϥ (hs.map V.int) (-1)=some (V.int z):=(by rw[c5,aB];exact QO _ _);refine Η eh8 ez ⟨by simp[nW],?_⟩;have p0:(0:Int)<o+1:=(by lia);split
      .have q0:=dj Yy (nS p0);have q1:=cC Yy p0;exact⟨p0,⟨p0,Go (n:=700) (by lia) (by lia) (by decide)⟩,fin _ _ q0 (by lia) (λ_=>cy) λe=>absurd e (by rename_i nz;rw[c5,List.getLast?_concat];intro e;injection e with e;exact nz (by rw[e]))⟩
      .exact fin o _ lf0 (bC _) (λ_=>cy) λ_=>rfl
     .rw[ah (by simpa using ci)];exact fin 0 _ (bC _) lf0 (λz=>absurd rfl z) λe=>absurd (by rw[Az];exact ba (fL e)) ci
    .rintro CC I J hCC ⟨s8,ew8,ea8,ek8,eh8,G,gw,Yy,o,alm,aln,ed8,SK,z0,lf0,lf1,rfl⟩;refine hCC _ _ ?_;walk_at "";refine⟨cg (by simp),λpe ne=>?_⟩;have se:=δ.new (.lst []) ne;refine⟨_,_,.lst (μ.of (se _ _ ek8)) (qK ks),.lst (μ.of aw) .nil,?_,_,rfl,?_⟩
     .have:=pK ks;simp only[PyData.depth,PyData.depthAll]
      lia
     have cs:∀y∈G,0<=y/\y<(B1:Int):=z0;rw[aa]at SK;have zl:=SK.zl;have NX:=Spk.done g R O r0 r1 NN bd SK bt mk;by_cases ck:ks=[]
     .rw[aj ck]at NX;rw[aj (by rw[ck];rfl)];refine Η (se _ _ ed8) (eQ vr.1 (by lia)) (tY (se _ _ ea8) vr.1 (by rw[aa];lia) (hN _ _ ⟨(s8.trans se).put cz _,by rw[aP dS];exact se _ _ ew8,xs.set v.toNat (G.getD v.toNat 0),G,gw,_,_,_,_,_,_,_,_,by rw[aw,<-eM],by rw[aP bp.symm];exact se _ _ ed8,NX,?_,cs,rfl⟩));intro x hx;rcases fQ hx with hx|rfl
      .exact x0 x hx
      .rw[List.getD];cases e:G[v.toNat]? with
       | none=>exact⟨bC _,by show(0:Int)<2^720;decide +kernel⟩
       | some y=>
         have h1:=z0 y (aJ e);refine⟨h1.1,Int.lt_trans h1.2 ?_⟩;have h3:B*1000000<2^700*1000000:=(Nat.mul_lt_mul_right (by decide)).mpr bi;have h4:(2:Nat)^700*1000000<=2^720:=(by decide +kernel);rw[show(2:Int)^720=((2^720:Nat):Int)from(my 2 720).symm]
         lia
     .rw[ah ck]at NX;rw[ah (by intro z;cases ks with|nil=>exact ck rfl|cons a l=>cases z)];exact hN _ _ ⟨s8.trans se,se _ _ ew8,xs,G,gw,_,_,_,_,_,_,_,_,se _ _ ea8,se _ _ ed8,NX,x0,cs,rfl⟩
 .rintro BB I H5 Ϥ ⟨s5,ew5,xs,ys,gv,rest,v8,v9,bk,a7,bv,Z,ae,ea5,ed5,NN,x0,y0,rfl⟩;refine Ϥ _ _ (h6 _ _ ?_);walk_at "";refine⟨cg (by simp),λtq nt=>?_⟩;have sn:=δ.new (.tup [V.ref W,V.ref ld]) nt;rw[aa,ql]at NN;exact k tq W ld xs ys _ cz (s5.trans sn) aw (sn _ _ ea5) NN.xl x0 ⟨gv,NN.fin g R O⟩
def tJ(T:Txt K U):Sp:=λd H Q _=>E3 λ(a:Addr)(n:Int)(b:eu)=>d=[.ref a]/\H a=some (.lst ((n::b).map V.int))/\b.length<=1000/\∀l c e,H l=none->δ H c->c l=some (.lst ((e::b).map V.int))->Q (.ref l) c
abbrev nM:Stmt:=top 76
theorem zS:ζ ["numbers","head"] ["numbers"] (aG nM):=.of
theorem zQ(T:Txt K U)(B:b6 (Β P w)):Ok P w K U base "_law_to_twelve" nM ["numbers"] 1 (tJ T):=λ_ _ D=>by
 refine D.F.ό zS (by walk_at "v") λG A j s H J Q E I h=>?_;obtain⟨a,n,b,rfl,t,nl,k⟩:=h;refine⟨_,(ap (ψ 1 (Ε bF (γ 0) aL)) (aM (bL (aZ Mn (eI (ag (aZ dR (aZ dR (aZ eU (γ 1) aL) (aZ kO aL (aZ eU (aZ eU (aZ fN (γ 1) aL) aL) aL))) (aZ kO aL (aZ fN (γ 1) aL))) ay)) (vZ yz (γ 0) (vR aL) Du))))),?_⟩;walk_at "s";refine cU λC v=>?_;walk_at "";refine Η t (eQ (xs:=n::b) (i:=0) (by decide) (by rw[aD];lia)) (v _ _ ?_);unfold tSl BH Xi;walk_at "";generalize (n::b).getD (Int.toNat 0) 0=e;refine⟨by decide,⟨by decide,by decide⟩,by decide,by decide,.inl ⟨by decide,by decide⟩,⟨by decide,by decide⟩,.inl ⟨by decide,by decide⟩,cg (by simp),λp x=>?_⟩;generalize e%70+70*(e/70%17%5)+1190*(e/1190)=c;have f:=δ.new (HO.lst [V.int c]) x;have m:upd H p (HO.lst [V.int c]) p=some (.lst [V.int c]):=aw;generalize upd H p (HO.lst [V.int c])=o at f m ⊢;refine⟨a,_,rfl,μ.of (f _ _ t),λl z=>?_⟩;rw[GD _ (by decide)];have g:=δ.new (HO.lst (((n::b).map V.int).drop (1:Int).toNat)) z;have q:upd o l (HO.lst (((n::b).map V.int).drop (1:Int).toNat)) l=some (.lst (b.map V.int)):=aw;have d:=g _ _ m;generalize upd o l (HO.lst (((n::b).map V.int).drop (1:Int).toNat))=L at g q d ⊢;refine WG d q (cg (by rw[aa];show 1+b.length<=_;lia)) λu r=>?_;have y:=δ.new (HO.lst ([V.int c]++b.map V.int)) r;exact k u _ c ((f.trans g).free r) ((f.trans g).trans y) aw
def yY(T:Txt K U):Sp:=λh H Q _=>E10 λ(e lo:Addr)(f:g8)(d:hT)(t:eu)(m r c:Int)(a:fc)(b:fz)=>h=[.ref e,.ref lo,.int c]/\Μ H e d/\Good m d/\ε m d r a b/\H lo=some (.lst (f.map V.ref))/\Α H r a f (r::t)/\Order m r a t/\t.length+1=m.toNat/\(0<=r/\r<m)/\∀(w:Int)(g:Hp),(w=0\/1<=w/\w<=10^60/\ϡ m d r a (cJ m d r a b) w+1<=1000000000000)->δ H g->Q (.int w) g
abbrev sP:Stmt:=top 85
theorem IA:ζ ["tolls","order","cell","weights","bound","limit"] ["tolls","order","cell"] (aG sP):=.of
theorem IH(T:Txt K U)(hq:b6 (Β P w))(nD:sX P w base T)(jG:td P w base T):Ok P w K U base "_law_want" sP ["tolls","order","cell"] 2 (yY T):=λ_ _ D=>by
 refine D.F.ό IA (by walk_at "v") λτ A M s H vs Q E hr h=>?_;obtain⟨S,lo,p,e,t,m,r,f,b,d,rfl,W,g,R,G,y,O,tl,⟨j,o⟩,k⟩:=h;have m1:=g.m1;have ql:p.length=(r::t).length:=Paired.length y;rw[aD]at ql;refine⟨_,(ap (ψ 3 (Ζ jG hr hq (ag (γ 0) (ag (γ 1) ay)))) (ap (ψ 4 (Ζ nD hr hq (ag (γ 0) (ag (γ 1) (ag (γ 3) (ag aL ay)))))) (ap (ψ 5 (aZ dR aL (aZ wq (aZ fU (aZ fU (aZ GC aL aL) aL) (γ 4)) (Ε bF (γ 3) (iM ia (iM bF (γ 1) aL (λ_ _=>rfl)) aL (λ_ _=>rfl)))))) (ap (dG (Ϫ rJ (γ 5) aL) (aM (bL aL)) cN) (aM (bL (aZ dR aL (aZ eU (aZ fN (γ 2) aL) (iM bF (eI (ag (BV (Ea rfl) T.min (ag aL (ag (γ 5) ay))) (ag (BV (Ea rfl) T.min (ag aL (ag (γ 5) ay))) (ag (γ 5) (ag (γ 5) ay))))) (aZ eU (γ 2) aL) (λ_ _=>rfl)))))))))),?_⟩;walk_at "s";refine cU λN1 z=>?_;walk_at "";refine⟨S,lo,p,e,t,m,r,b,d,rfl,W,g,R,G,y,O,tl,λlw H1 nw q X=>z _ _ (cU λN2 h2=>?_)⟩;walk_at "";have J:=uJ g R;have I:((cJ m e r b d).length:Int)=m:=by rw[mC];lia
 refine⟨S,lo,lw,p,e,t,_,m,r,1,b,d,rfl,W.same q,g,R,q _ _ G,y.same q,O,⟨j,o⟩,X,I,J,by decide +kernel,λH2 Y=>h2 _ _ (cU λN3 h3=>?_)⟩;walk_at "";obtain⟨q0,v0,e0,f0,f1,f2⟩:=y.get (i:=0) (x:=V.ref (p.headD 0)) (by
  cases p with
  | nil=>simp at ql
  | cons a l=>rfl)
 cases(show v0=r by simpa using f1.symm);have u:=q.trans Y;have wb:=f7 g R j o;refine⟨⟨by decide,by decide,by decide⟩,Η (u _ _ G) (cB (by decide) (v:=V.ref q0) (by rw[show(0:Int).toNat=0 from rfl,aH,f0];rfl)) (Xa (u _ _ f2) rfl (Η (Y _ _ X) (eQ j (by rw[mC];lia)) ⟨_,rfl,?_,h3 _ _ (cU λN4 h4=>?_)⟩))⟩
 .rw[show(cJ m e r b d).getD r.toNat 0=ν m e r b d r from fD j o];exact⟨by lia,Go (n:=481) (by lia) (by lia) (by decide)⟩
 rw[show(cJ m e r b d).getD r.toNat 0=ν m e r b d r from fD j o,show(10:Int)^Int.toNat 12=1000000000000 by decide];have B:=RY g R j o (w:=1) (by decide) (by decide);have eb:∀w,ϡ m e r b (cJ m e r b d) w=ϡ m e r b (cJ m e r b d) 1+ν m e r b d r*(w-1):=λw=>by
  rw[JE j o O,JE j o O,show(1:Int)-1=0 from rfl,iE]
  lia
 have Z:∀w,1<=w->w<=1+(1000000000000-1-ϡ m e r b (cJ m e r b d) 1)/ν m e r b d r->w=0\/1<=w/\w<=10^60/\ϡ m e r b (cJ m e r b d) w+1<=1000000000000:=λw w1 w2=>by
  have z:ν m e r b d r*(w-1)<=1000000000000-1-ϡ m e r b (cJ m e r b d) 1:=by
   have:=cm (show w-1<=(1000000000000-1-ϡ m e r b (cJ m e r b d) 1)/ν m e r b d r by lia) (show 0<=ν m e r b d r by lia);exact bE this (Int.mul_ediv_self_le (by lia))
  have h2:w-1<=1000000000000:=sI wb.1 (by lia) (bE z (by lia));refine .inr ⟨w1,bE (show w<=1000000000001 by lia) (by decide),?_⟩;rw[eb w]
  lia
 generalize (1000000000000-1-ϡ m e r b (cJ m e r b d) 1)/ν m e r b d r=L at Z ⊢;walk_at "";by_cases c:1+L<1
 .rw[aj c];exact k 0 H2 (.inl rfl) u
 rw[ah c];refine h4 _ _ ?_;walk_at "";refine⟨⟨by decide,by decide⟩,_,_,⟨rfl,rfl⟩,_,_,⟨rfl,rfl⟩,cg (by simp),λpl C=>⟨by decide,?_⟩⟩;have s3:=u.trans (δ.new (HO.lst [V.int (if 1+L<3 then 1+L else 3),V.int (if 1+L<9 then 1+L else 9),V.int (1+L),V.int (1+L)]) C);have c0:=dj f (show(4:Int)≠0 by decide);have c1:=cC f (show(0:Int)<4 by decide);obtain⟨x,hx,N,x2⟩:∃x,[V.int (if 1+L<3 then 1+L else 3),V.int (if 1+L<9 then 1+L else 9),V.int (1+L),V.int (1+L)][(f%4).toNat]?=some (V.int x)/\0<x/\x<=1+L:=by
  have n4:(f%4).toNat<4:=by lia
  match (f%4).toNat,n4 with
  | 0,_=>exact⟨_,rfl,by split<;>lia,by split<;>lia⟩
  | 1,_=>exact⟨_,rfl,by split<;>lia,by split<;>lia⟩
  | 2,_=>exact⟨_,rfl,by lia,by lia⟩
  | 3,_=>exact⟨_,rfl,by lia,by lia⟩
 have y0:=dj (f/4) (show x≠0 by lia);have y1:=cC (f/4) N;exact Η aw (cB c0 hx) ⟨x,rfl,N,k _ _ (Z _ (by lia) (by lia)) s3⟩
def ze(T:Txt K U):Sp:=λa H Q _=>∃(c:Int),a=[.int c]/\∀t,2<=t->t<=1000000->Q (.int t) H
abbrev sL:Stmt:=top 74
theorem IM:ζ ["rest"] ["rest"] (aG sL):=.of
theorem Iy(T:Txt K U)(d:b6 (Β P w)):Ok P w K U base "_law_toll" sL ["rest"] 1 (ze T):=λ_ _ D=>by
 refine D.F.ό IM (by walk_at "v") λe A a s H i Q E f h=>?_;obtain⟨c,rfl,k⟩:=h;refine⟨_,(ap (dG (Ϫ iH (aZ eU (γ 0) aL) aL) (aM (bL (aZ dR aL (aZ eU (aZ fN (γ 0) aL) aL)))) cN) (aM (bL (aZ dR aL (aZ eU (aZ fN (γ 0) aL) aL))))),?_⟩;walk_at "s";walk_at "";have j:=dj (c/8) (show(999999:Int)≠0 by decide);have l:=cC (c/8) (show(0:Int)<999999 by decide);have b:=dj (c/8) (show(3:Int)≠0 by decide);have g:=cC (c/8) (show(0:Int)<3 by decide);refine⟨by decide,?_⟩;by_cases z:c%8=0
 .rw[aj z];exact⟨⟨by decide,by decide⟩,by decide,k _ (by lia) (by lia)⟩
 .rw[ah z];exact⟨⟨by decide,by decide⟩,by decide,k _ (by lia) (by lia)⟩
def Br(T:Txt K U):Sp:=λf H Q _=>∃(a:Addr)(c:eu),f=[.ref a]/\H a=some (.lst (c.map V.int))/\25<=c.length/\c.length<=1000/\∀(t l:Addr)(m:Int)(e:g8)(d:hT)(b:Hp),H t=none->H l=none->δ H b->b t=some (.tup [.int m,.ref l])->b l=some (.lst (e.map V.ref))->ρ b e d->Good m d->Q (.ref t) b
abbrev rZ:Stmt:=top 75
theorem Kj:ζ ["numbers","head","many","names","k","roads","rest","near","there","back","road"] ["numbers"] (aG rZ):=.of
theorem tM:Ϙ (aG rZ) "range":=.of (by kernel_rfl)
theorem La(T:Txt K U)(hq:b6 (Β P w))(sM:Cb P w K U base "_law_toll" sL ["rest"] 1 (ze T)):Ok P w K U base "_law_web" rZ ["numbers"] 2 (Br T):=λ_ _ D=>by
 refine D.F.ό Kj (by walk_at "v") λτ A bt s H vs Q E hr h=>?_;obtain⟨a,ns,rfl,ha,ck,n1,k⟩:=h;refine⟨_,(ap (ψ 1 (Ε bF (γ 0) aL)) (ap (ψ 2 (aZ dR aL (aZ eU (γ 1) aL))) (ap (dG (Ϫ iH (aZ eU (aZ fN (γ 1) aL) aL) aL) (aM (ψ 2 (aZ dR aL (aZ eU (aZ fN (γ 1) aL) aL)))) cN) (ap (ψ 3 (eI ay)) (ap (fq PassesOwn.never rfl (mM tM.g T.range (ag (γ 2) ay)) (ϓ 4) (aM (dI (j4 PySem.F.plainAttrs_list iI PySem.F.type_list_insert DZ (γ 3) (ag (aZ eU (Ε bF (γ 0) (aZ dR (γ 4) aL)) (aZ dR (γ 4) aL)) (ag (γ 4) ay)))))) (ap (ψ 5 (eI ay)) (ap (fq PassesOwn.never rfl (Mq tM.g T.range (ag aL (ag (γ 2) ay))) (ϓ 4) (ap (ψ 6 (aZ fN (Ε bF (γ 0) (aZ dR (γ 4) aL)) (aZ dR (γ 4) aL))) (ap (ψ 7 (iM bF (eI (ag (aZ fU (γ 4) aL) (ag aL (ag (aZ eU (γ 6) (γ 4)) (ag (aZ eU (γ 6) (γ 4)) ay))))) (aZ eU (aZ fN (γ 1) aL) aL) (λ_ _=>rfl))) (ap (ψ 6 (aZ fN (γ 6) (γ 4))) (ap (ψ 8 (Ζ sM hr hq (ag (γ 6) ay))) (ap (ψ 9 (Ζ sM hr hq (ag (aZ fN (γ 6) aL) ay))) (ap (dG (Ϫ iH (aZ eU (aZ fN (γ 1) aL) aL) aL) (aM (ψ 9 (γ 8))) cN) (ap (ψ 6 (aZ fN (aZ fN (γ 6) aL) aL)) (ap (ψ 10 (jd (ag (Ε bF (γ 3) (γ 7)) (ag (Ε bF (γ 3) (γ 4)) (ag (γ 8) (ag (γ 9) ay)))))) (ap (dG (Ϫ iH (aZ eU (γ 6) aL) aL) (aM (ψ 10 (jd (ag (Ε bF (γ 3) (γ 4)) (ag (Ε bF (γ 3) (γ 7)) (ag (γ 9) (ag (γ 8) ay))))))) cN) (aM (dI (j4 PySem.F.plainAttrs_list iI PySem.F.type_list_insert DZ (γ 5) (ag (aZ eU (aZ fN (γ 6) aL) (aZ dR (BV gI T.len (ag (γ 5) ay)) aL)) (ag (γ 10) ay))))))))))))))) (aM (bL (jd (ag (γ 2) (ag (γ 5) ay)))))))))))),?_⟩;walk_at "s";have em:∀(x n:Int),0<n->0<=x%n/\x%n<n:=λx n h=>⟨dj x (nS h),cC x h⟩;walk_at "";refine Η ha (eQ (by decide) (by lia)) ?_;generalize ns.getD (0:Int).toNat 0=c;refine⟨_,rfl,by decide,_,rfl,⟨by decide,by decide⟩,by decide,?_⟩;have h1:=em c 7 (by decide);have h2:=em (c/70) 17 (by decide);have h3:=em (c/1190) 4 (by decide);apply RN (8+c/70%17) (1+c%7)
 .generalize 1+c%7=m;intro h;exact h
 .exact λh=>⟨_,rfl,⟨by decide,by decide⟩,by decide,h⟩
 intro m hm;have m1:1<=m:=by lia
 have Θ:m<=24:=by lia
 clear hm;refine⟨by decide,λla an=>⟨by lia,by lia,?_⟩⟩;refine sF (λi S H2=>δ H H2/\(∃f,H2 la=some (.lst (f.map V.int))/\ώ i f)/\∃v,S=[some (V.ref a),some (V.int c),some (V.int m),some (V.ref la),v,none,none,none,none,none,none]) ⟨δ.new _ an,⟨[],aw,.nil⟩,_,rfl⟩ ?_ ?_
 .rintro i S H2 N hN hi ⟨s2,⟨f,e2,L⟩,v,rfl⟩;rw[cW];have ll:=L.len;walk_at "";refine⟨Xj e2,Η (s2 _ _ ha) (eQ (by lia) (by lia)) ⟨_,rfl,by lia,?_⟩⟩;have q:=em (ns.getD ((i:Int)+1).toNat 0) ((i:Int)+1) (by lia);generalize ns.getD ((i:Int)+1).toNat 0%((i:Int)+1)=w at q ⊢;refine TK e2 q.1 (by rw[aa];lia) (eJ (by rw[aa];lia)) ?_;refine hN _ _ ⟨s2.put an _,⟨_,?_,L.put w.toNat (by lia)⟩,_,rfl⟩;rw[aw,aB,az,mX,j8]
 .rintro S H2 ⟨s2,⟨ls,e2,L⟩,v,rfl⟩;walk_at "";have L':ώ m.toNat ls:=L;have ll:=L'.len;refine⟨by decide,λlo u=>⟨1,m,⟨rfl,rfl⟩,⟨by decide,by decide,by lia,by lia⟩,?_⟩⟩;have al:=s2.free u;have bm:la≠lo:=λz=>by rw[<-z,e2]at u;cases u
  refine sF (λi S M=>E9 λ(o:g8)(O:hT)(l:List Row)(v4 v6 v7 v8 Z W:Option V)=>S=[some (V.ref a),some (V.int c),some (V.int m),some (V.ref la),v4,some (V.ref lo),v6,v7,v8,Z,W]/\δ H M/\M la=some (.lst (ls.map V.int))/\M lo=some (.lst (o.map V.ref))/\ρ M o O/\Rows i l/\Put ls l O) ⟨[],[],[],_,_,_,_,_,_,rfl,s2.trans (δ.new _ u),δ.new _ u _ _ e2,aw,.nil,⟨rfl,λi r h=>by cases h⟩,Put.nil _⟩ ?_ ?_
  .rintro i S M N hN hi ⟨o,O,l,v4,v6,v7,v8,Z,W,rfl,s3,l3,o3,ro3,R,P⟩;have k0:(1:Int)<=1+(i:Int):=(by lia);have k1:1+(i:Int)<m:=(by lia);generalize hk:(1:Int)+(i:Int)=e at k0 k1 ⊢;have cn:o.length=O.length:=Paired.length ro3;have rl:=R.len;have pl:=P.len;walk_at "";refine Η (s3 _ _ ha) (eQ (by lia) (by lia)) ⟨_,rfl,⟨by lia,by lia⟩,by lia,by lia,cg (by simp),λq1 bp=>⟨⟨by decide,by decide⟩,by decide,?_⟩⟩;generalize ns.getD (e+1).toNat 0/(e+1)=w;have hg:=em w e (by lia);obtain⟨j,bl,u0,u1⟩:∃j:Int,ϥ [V.int (e-1),V.int 0,V.int (w%e),V.int (w%e)] (c/1190%4)=some (.int j)/\0<=j/\j<e:=by
    rcases(show c/1190%4=0\/c/1190%4=1\/c/1190%4=2\/c/1190%4=3 by lia)with z|z|z|z
    .exact⟨_,by rw[z];rfl,by lia,by lia⟩
    .exact⟨_,by rw[z];rfl,by lia,by lia⟩
    .exact⟨_,by rw[z];rfl,hg.1,hg.2⟩
    .exact⟨_,by rw[z];rfl,hg.1,hg.2⟩
   have s4:=δ.new (.lst [.int (e-1),.int 0,.int (w%e),.int (w%e)]) bp;refine Η aw bl ?_;generalize upd M q1 (.lst [.int (e-1),.int 0,.int (w%e),.int (w%e)])=H4 at s4 ⊢;refine⟨⟨by lia,by lia⟩,_,rfl,λI t0 t1=>⟨⟨by decide,by decide⟩,_,rfl,λbk b0 b1=>⟨⟨by decide,by decide⟩,by decide,?_⟩⟩⟩;have gk:ϥ (ls.map V.int) e=some (.int (ls.getD e.toNat 0)):=cB (by lia) (by rw[aH,sZ L' (by lia)];rfl);have gu:ϥ (ls.map V.int) j=some (.int (ls.getD j.toNat 0)):=cB u0 (by rw[aH,sZ L' (by lia)];rfl);have l4:=s4 _ _ l3;generalize w/e/7999992/7999992=rest;have put:∀(C:Hp)(q:Addr)(f:Row)(v8 Z:Option V),δ M C->f.k=e->Ze f->C q=some (.tup (qa (oA ls f)))->tyV K "list" (V.ref lo) C/\VG rest 2/\∃x,(μ K C lo x\/Ι K C lo x)/\0<(x.length:Int)+1/\X5 (V.ref lo) [V.int (rest/2%((x.length:Int)+1)),V.ref q] C λ_ H8=>N [some (V.ref a),some (V.int c),some (V.int m),some (V.ref la),some (V.int e),some (V.ref lo),some (V.int rest),some (V.int j),v8,Z,some (V.ref q)] H8:=by
    intro C q f v8 Z s7 rk a7 hq;have o7:=s7 _ _ o3;have pe:=em (rest/2) (((o.map V.ref).length:Int)+1) (by lia);refine⟨Xj o7,⟨by decide,by decide⟩,o.map V.ref,.inl (μ.of o7),by lia,TK o7 pe.1 (by lia) (eJ (by rw[aa];lia)) ?_⟩;generalize (rest/2%(((o.map V.ref).length:Int)+1)).toNat=n;have J:∀{zs:List V}{q:Addr}{r':Road},C q=some (.tup (qa r'))->upd C lo (.lst zs) q=some (.tup (qa r')):=λ{zs q r'} h=>by rw[aP (iR h o7 (by intro z;cases z))];exact h
    refine hN _ _ ⟨o.take n++q::o.drop n,O.take n++oA ls f::O.drop n,l++[f],_,_,_,_,_,_,rfl,(s3.trans s7).put al _,by rw[aP bm];exact s7 _ _ l3,by rw[aw,aB,az,mX,j8],?_,Nf R (by lia) a7,P.step f n⟩;exact VO n (Paired.imp' (λp r h=>J h) (ρ.same s7 ro3)) (J hq)
   have G:∀(x y z:Int),2<=x->x<=1000000->2<=y->y<=1000000->Ze ⟨e,j,x,y,z,0⟩:=λx y z a b c d=>⟨u0,u1,a,b,c,d,bC _,by show(0:Int)<e;lia⟩;have e1:∀x y:Int,qa (oA ls ⟨e,j,x,y,1,0⟩)=[V.int (ls.getD j.toNat 0),V.int (ls.getD e.toNat 0),V.int x,V.int y]:=λx y=>by unfold oA;rw[aj rfl];rfl
   have am:∀x y:Int,qa (oA ls ⟨e,j,x,y,0,0⟩)=[V.int (ls.getD e.toNat 0),V.int (ls.getD j.toNat 0),V.int x,V.int y]:=λx y=>by unfold oA;rw[ah (show ¬(0:Int)=1 by decide)];rfl
   by_cases y1:c/4760%3=0
   .rw[aj y1];refine⟨⟨by decide,by decide⟩,⟨by decide,by decide⟩,Η l4 gu (Η l4 gk ⟨cg (by simp),λq2 Y=>⟨by decide,?_⟩⟩)⟩;have B:=s4.trans (δ.new (.tup [V.int (ls.getD j.toNat 0),V.int (ls.getD e.toNat 0),V.int I,V.int I]) Y);have l5:=B _ _ l3;by_cases y2:rest%2=1
    .rw[aj y2];exact Η l5 gk (Η l5 gu ⟨cg (by simp),λq3 X=>put _ q3 ⟨e,j,I,I,0,0⟩ _ _ (B.trans (δ.new _ X)) rfl (G _ _ _ t0 t1 t0 t1) (by rw[aw,am])⟩)
    .rw[ah y2];exact put _ q2 ⟨e,j,I,I,1,0⟩ _ _ B rfl (G _ _ _ t0 t1 t0 t1) (by rw[aw,e1])
   .rw[ah y1];refine⟨⟨by decide,by decide⟩,⟨by decide,by decide⟩,Η l4 gu (Η l4 gk ⟨cg (by simp),λq2 Y=>⟨by decide,?_⟩⟩)⟩;have B:=s4.trans (δ.new (.tup [V.int (ls.getD j.toNat 0),V.int (ls.getD e.toNat 0),V.int I,V.int bk]) Y);have l5:=B _ _ l3;by_cases y2:rest%2=1
    .rw[aj y2];exact Η l5 gk (Η l5 gu ⟨cg (by simp),λq3 X=>put _ q3 ⟨e,j,bk,I,0,0⟩ _ _ (B.trans (δ.new _ X)) rfl (G _ _ _ b0 b1 t0 t1) (by rw[aw,am])⟩)
    .rw[ah y2];exact put _ q2 ⟨e,j,I,bk,1,0⟩ _ _ B rfl (G _ _ _ t0 t1 b0 b1) (by rw[aw,e1])
  .rintro S M ⟨o,O,l,v4,v6,v7,v8,Z,W,rfl,s3,l3,o3,ro3,R,P⟩;have g:=Ss (n:=m.toNat) (by lia) (by lia) L' (by rw[show m.toNat-1=(m-1).toNat by lia];exact R) P;rw[bn (by lia)]at g;walk_at "";refine⟨cg (by simp),λt nt=>?_⟩;have B:=δ.new (.tup [.int m,.ref lo]) nt;exact k t lo m o O _ (s3.free nt) al (s3.trans B) aw (B _ _ o3) (ρ.same B ro3) g
def wY(T:Txt K U):Sp:=λf H Q _=>E7 λ(p t:Addr)(m:Int)(g:g8)(c:hT)(r:Int)(n:Nat)=>f=[.ref p,.int r,.int (n+1:Nat)]/\ο T.Web H p m t g c/\(0<=r/\r<m)/\n+1<=2^4000/\∃a b,ε m c r a b/\∀d e,Order m r a d->bO m c r a b r=r::d->δ H e->Q (.int (ϯ m c r a b d r n)) e
abbrev oz:Stmt:=top 52
theorem Fd:ζ ["web","r","wanted"] ["web","r","wanted"] (aG oz):=.of
theorem qL:Ϙ (aG oz) "Tally":=.of (by kernel_rfl)
theorem ES(T:Txt K U)(G:b6 (Β P w)){L:Addr}{C:FuncData}(gJ:Y2 K "__init__" "Tally.__init__" eL L C)(oH:Binds K C ["self","web","r"] [])(oJ:Mk K T.Tally L)(ω:Ψ P w K U base (Β P w) 10 L C ["self","web","r"] (me T))(Y:oe P w base T)(lG:ky P w base T):Ok P w K U base "worst_many" oz ["web","r","wanted"] 12 (wY T):=λ_ _ D=>by
 refine D.F.ό Fd (by walk_at "v") λτ A J s H vs Q E hr h=>?_;obtain⟨p,t,m,N,l,r,n,rfl,W,f,nb,a,i,R,k⟩:=h;have g:=W.go;refine⟨_,(ap (dI (Ζ Y hr G (ag (γ 0) (ag (γ 1) (ag (γ 2) ay))))) (aM (bL (Ζ lG hr G (ag (yy oJ ω (hr.mono (by decide)) qL.g T.C7 oH .nil (uz G) (ag (γ 0) (ag (γ 1) ay)) (hdb:=qL.d)) (ag (γ 1) (ag (aZ fU (γ 2) aL) ay))))))),?_⟩;walk_at "s";walk_at "";refine⟨p,t,m,N,l,r,((n+1:Nat):Int),rfl,W,λ_ _ _=>?_,λz=>absurd f z,λ_ _ z=>absurd z (by lia)⟩;dsimp only;intro x q S y ne;have I:upd H q (.own x) x=none:=by rw[aP ne.symm];exact S
 have V:δ H (upd (upd H q (.own x)) x (.ins T.Tally q [])):=(δ.new _ y).trans (δ.new _ I);refine⟨x,q,p,t,m,N,l,r,rfl,aw,W.same V,f,a,i,R,λu ld lw lb lk lr kl rv H2 TA kp=>⟨rfl,?_⟩⟩;have s2:δ H H2:=λb o e=>kp b o (V b o e) (b9 e S);obtain⟨_,lp,ϫ,h1,h2,X,O⟩:=TA.ϖ r f;obtain⟨sr,es⟩:=wc (kd m l r a r);rw[es]at O;obtain⟨v,ob⟩:=TA.ob;have M:=ms (fr:=ϗ m l r a i u) (be:=Ϝ m l r a i u) (c:=cK l a) g R f.1 f.2;have e1:((n+1:Nat):Int)-1=(n:Int):=by lia
 have e4:(2:Nat)^4000<=2^4000:=ax _;cases O with
 | cons e he=>
   obtain⟨cs,c1,c2⟩:=e;have B:=c2.le (b':=15000) (tE (by have:=jA g R f.1 f.2;have:=py g R f.1 f.2;have:=g.Θ;lia));have cl:=B.len;rw[e1];refine⟨x,v,lr,lp,_,_,rv,_,r,cs,n,rfl,ob,pH _ _ _ _ _ _,TA.hr,f.1,h1,X,c1,by lia,hZ (k:=4000) (by lia) (by decide),λc Z=>hZ (B.bt c Z) (by decide),λj hj=>CQ (x:=4000) nb (by lia),λH3 s3=>?_⟩;rw[B.val];have:=k u H3 TA.or TA.et (s2.trans s3);unfold ϯ at this;rw[M]at this;exact this
def Fi(K:gh):Sp:=λc H Q _=>∃(a:Addr)(b:eu),c=[.ref a]/\μ K H a (b.map V.int)/\b.length<=63/\∀d,Q (.bl true) d
def Tg(T:Txt K U):Sp:=Fi K
abbrev qg:Stmt:=top 89
theorem V8:ζ ["script","numbers","many","roads","tolls","r","order","wanted","web","count","cells","cell","laying","number"] ["script"] (aG qg):=.of
theorem Bm:Ϙ (aG qg) "Web":=.of (by kernel_rfl)
theorem Vj(T:Txt K U)(G:b6 (Β P w)){f:Addr}{fd:FuncData}(D:Df K U "law" qg ["script"] f fd){ς:Addr}{qc:FuncData}(oM:Y2 K "__init__" "Web.__init__" jw ς qc)(LC:Binds K qc ["self","many","roads"] [])(Kn:Mk K T.Web ς)(dO:Ψ P w K U base (Β P w) 3 ς qc ["self","many","roads"] (qb T))(qi:Cb P w K U base "_law_beyond" om ["web","r","wanted","number"] 13 (wQ T))(qo:Cb P w K U base "_law_both_ways" lJ ["web","tolls","order","wanted","laying","number"] 13 (tK T))(lL:Cb P w K U base "_law_cell" qj ["script","k"] 1 (uV T))(wj:Cb P w K U base "_law_down" mR ["many","tolls","r"] 1 (zi T))(sx:Cb P w K U base "_law_numbers" m5 ["script","many"] 2 (vD T))(uj:Cb P w K U base "_law_spread" jN ["tolls","order","wanted","cell"] 2 (wR T))(qG:Cb P w K U base "_law_to_twelve" nM ["numbers"] 1 (tJ T))(uW:Cb P w K U base "_law_tolls" rH ["roads"] 1 (yg T))(wf:Cb P w K U base "_law_want" sP ["tolls","order","cell"] 2 (yY T))(xE:Cb P w K U base "_law_web" rZ ["numbers"] 2 (Br T))(ug:Cb P w K U base "worst_many" oz ["web","r","wanted"] 12 (wY T))(jq:tA P w base T):Ψ P w K U base (Β P w) 14 f fd ["script"] (Tg T):=by
 refine D.F.ό V8 (by walk_at "v") λτ A eS s H vs Q E B h=>?_;obtain⟨a,M,rfl,ha,hn,k⟩:=h;have hu:=oS B;refine⟨_,(ap (ψ 1 (Ζ qG B G (ag (Ζ sx B G (ag (γ 0) (ag aL ay))) ay))) (ap (mw (Ζ xE B G (ag (γ 1) ay)) (j0 (n:=2) rfl (cG (ϓ 2) (cG (ϓ 3) iA)))) (ap (ψ 4 (Ζ uW B G (ag (γ 3) ay))) (ap (ψ 5 (aZ eU (Ε bF (γ 1) aL) (γ 2))) (ap (ψ 6 (Ζ wj B G (ag (γ 2) (ag (γ 4) (ag (γ 5) ay))))) (ap (ψ 7 (Ζ wf B G (ag (γ 4) (ag (γ 6) (ag (Ζ lL B G (ag (γ 0) (ag aL ay))) ay))))) (ap (dG (Ϫ iH (γ 7) aL) (aM (bL qz)) cN) (ap (ψ 8 (yy Kn dO (B.mono (by decide)) Bm.g T.Wp LC .nil (uz G) (ag (γ 2) (ag (pct ou T.list (ag (γ 3) ay)) ay)) (hdb:=Bm.d))) (ap (ψ 9 (Ζ ug B G (ag (γ 8) (ag (γ 5) (ag (γ 7) ay))))) (ap (dG (PW.pt (wK (nC pL (Ζ qi B G (ag (γ 8) (ag (γ 5) (ag (γ 7) (ag (γ 9) ay))))) nO (gV _)) (ye (nC pL (Ζ qi B G (ag (γ 8) (ag (γ 5) (ag (γ 7) (ag (aZ fU (γ 9) aL) ay))))) nO (gV _))))) (aM (bL qz)) cN) (ap (ψ 10 (aZ Mn (eI (ag aL ay)) (vZ yz (γ 0) (vR aL) (vR aL)))) (ap (dG (Ϫ RA (γ 2) aL) (aM (ψ 10 (eI (ag (Ζ lL B G (ag (γ 0) (ag aL ay))) ay)))) cN) (ap (fq PassesOwn.never rfl (gQ (γ 10)) (ϓ 11) (ap (ψ 12 (iM ia (Ζ uj B G (ag (γ 4) (ag (γ 6) (ag (γ 7) (ag (γ 11) ay))))) aL (λ_ _=>rfl))) (ap (ψ 13 (iM bF (eI (ag (aZ eU (aZ fN (γ 11) aL) (γ 9)) (ag (aZ fU (γ 9) aL) (ag aL ay)))) (aZ eU (γ 11) aL) (λ_ _=>rfl))) (ap (dG (kK (mE (Ζ qo B G (ag (γ 8) (ag (γ 4) (ag (γ 6) (ag (γ 7) (ag (γ 12) (ag (γ 13) ay))))))))) (aM (bL qz)) cN) (aM (dG (nC Fm (Ζ jq B G (ag (γ 8) (ag (γ 5) (ag (γ 7) (ag (γ 12) ay))))) (γ 9) (gV _)) (aM (bL qz)) cN)))))) (aM (bL qz))))))))))))))),?_⟩;walk_at "s";unfold tSl BH;refine cU λN1 h1=>?_;walk_at "";refine⟨a,M,30,rfl,ha,by decide,by decide,λln nu H1 n1 s1 en cZ=>?_⟩;obtain⟨n0,nu,rfl⟩:∃n0 YV,nu=n0::YV:=by
  cases nu with
  | nil=>simp at cZ
  | cons x y=>exact⟨x,y,rfl⟩
 rw[aD]at cZ;refine⟨ln,n0,nu,rfl,en,by lia,λaS g0 ad hd b3 aT=>h1 _ _ (cU λN2 h2=>?_)⟩;have s1:=s1.trans b3;walk_at "";refine⟨aS,ad::nu,rfl,aT,by rw[aD];lia,by rw[aD];lia,λt l m ps j H2 nt nl s2 et el ro g=>?_⟩;have m1:=g.m1;have Θ:=g.Θ;have bY:=s1.trans s2;refine⟨t,rfl,_,Ι.of et,rfl,_,_,rfl,_,_,rfl,rfl,h2 _ _ (cU λN3 h3=>?_)⟩;walk_at "";refine⟨l,ps,m,j,rfl,el,ro,g,λd H3 nd s3 ta=>h3 _ _ (cU λN4 h4=>?_)⟩;have dp:=s2.trans s3;have c4:=bY.trans s3;walk_at "";refine Η (dp _ _ aT) (eQ (by decide) (by rw[aD];lia)) ⟨_,rfl,by lia,?_⟩;have p:=dj ((ad::nu).getD (25:Int).toNat 0) (show m≠0 by lia);have o:=cC ((ad::nu).getD (25:Int).toNat 0) (show 0<m by lia);generalize (ad::nu).getD (25:Int).toNat 0%m=r at p o ⊢;obtain⟨b,e,R⟩:=B5 g p o;refine h4 _ _ (cU λN5 h5=>?_);walk_at "";refine⟨d,j,m,r,rfl,ta,g,⟨p,o⟩,b,e,R,λlo qs tl H4 no s4 eo pa O=>h5 _ _ (cU λN6 h6=>?_)⟩;have Zu:=c4.trans s4;have a5:=ta.same s4;have a9:=O.Yz p o;have dq:=(s3.trans s4) _ _ el;have bv:=ρ.same (s3.trans s4) ro;clear h1 h2 h3 h4 h5 bY c4 dp s2 s3 s4 s1 b3 en aT et el ro;walk_at "";refine⟨a,M,2,rfl,δ.seq Zu ha,by decide,λc2=>⟨d,lo,qs,j,tl,m,r,c2,b,e,rfl,a5,g,R,eo,pa,O,a9,⟨p,o⟩,λw H5 hw s5=>h6 _ _ (cU λN7 h7=>?_)⟩⟩;walk_at "";by_cases w0:w=0
 .rw[aj w0];exact k H5
 rw[ah w0];obtain⟨w1,w2,cb⟩:=hw.resolve_left w0;have af:=Zu.trans s5;refine h7 _ _ (cU λN8 h8=>?_);have c6:=a5.same s5;have bS:=s5 _ _ eo;have cu:=Α.same s5 pa;have ck:=s5 _ _ dq;have cS:=ρ.same s5 bv;clear h6 h7 Zu s5 a5 eo pa dq bv;walk_at "";refine⟨_,.inl (μ.of ck),λq nq=>?_⟩;have s8:=δ.new (.lst (ps.map V.ref)) nq;refine UZ T (c:=true) (μ.of aw) (ρ.same s8 cS) g λx tw H8 hx ey L W=>h8 _ _ (cU λN9 h9=>?_);have X:=s8.trans L;have S:=af.trans X;have cz:=c6.same X;have cn:=X _ _ bS;have ds:=Α.same X cu;clear h8 af s8 L X c6 bS cu ck cS nq hx ey;obtain⟨n,rfl⟩:∃n:Nat,w=((n+1:Nat):Int):=⟨(w-1).toNat,by lia⟩;have en:((n+1:Nat):Int)-1=(n:Int):=by lia
 walk_at "";refine⟨x,tw,m,ps,j,r,n,rfl,W,⟨p,o⟩,aN (show n+1<=10^60 by lia) (by decide),b,e,R,λtr H9 Or et L=>h9 _ _ (cU λhE dt=>?_)⟩;have cp:1<=ϯ m j r b e tr r n:=vf g R _ p o (ax _) n;obtain⟨C,eC⟩:∃C,C=ϯ m j r b e tr r n:=⟨_,rfl⟩;rw[<-eC]at cp ⊢;have e8:=S.trans L;walk_at "";refine⟨x,tw,m,ps,j,r,_,C,b,e,tr,rfl,W.same L,⟨p,o⟩,w1,w2,R,et,cb,λhk a6=>?_⟩;rw[en,bu,<-eC,ah (by lia)];refine⟨rfl,?_⟩;rw[ah λz=>z rfl];refine⟨x,tw,m,ps,j,r,_,C-1,b,e,tr,rfl,W.same (L.trans a6),⟨p,o⟩,w1,w2,R,et,cb,λa4 cx=>?_⟩;rw[en,bu,<-eC,aj ⟨by lia,by lia⟩];refine⟨rfl,?_⟩;rw[ah λz=>z rfl];have I:=L.trans (a6.trans cx);have dm:=S.trans I;have ca:=cz.same I;have c5:=I _ _ cn;have dr:=Α.same I ds;have dn:=W.same I;clear cz cn ds W I L a6 cx S e8 h9;refine dt _ _ (cU λgw cd=>?_);walk_at "";refine⟨cg (by simp),λp0 dk=>?_⟩;have u0:=δ.new (.lst [V.int 0]) dk;have e0:upd a4 p0 (.lst [V.int 0]) p0=some (.lst [V.int 0]):=aw;generalize upd a4 p0 (.lst [V.int 0])=c1 at u0 e0 ⊢;refine⟨a,_,rfl,δ.seq (dm.trans u0) ha,λp2 bp=>?_⟩;rw[Ak];have u2:=δ.new (.lst ((nU M (some 3) (some 15)).map V.int)) bp;have cl:(nU M (some 3) (some 15)).length<=63:=aN (QR _ _ _) hn;refine⟨p0,p2,_,_,rfl,rfl,u2 _ _ e0,aw,cg (by simp;lia),λlc ZX=>cd _ _ (cU λed e1=>?_)⟩;have u3:=u0.trans (u2.trans (δ.new (.lst ([V.int 0]++(nU M (some 3) (some 15)).map V.int)) ZX));have ec:upd (upd c1 p2 (.lst ((nU M (some 3) (some 15)).map V.int))) lc (.lst ([V.int 0]++(nU M (some 3) (some 15)).map V.int)) lc=some (.lst (((0:Int)::nU M (some 3) (some 15)).map V.int)):=aw;generalize upd (upd c1 p2 (.lst ((nU M (some 3) (some 15)).map V.int))) lc (.lst ([V.int 0]++(nU M (some 3) (some 15)).map V.int))=e7 at u3 ec ⊢;generalize (0:Int)::nU M (some 3) (some 15)=cs at ec ⊢;clear dt cd u2 ZX bp dk e0 u0 cl;have am:∀(lc:Addr)(cs:eu)(H9:Hp),δ a4 H9->H9 lc=some (.lst (cs.map V.int))->ed [some (V.ref a),some (V.ref aS),some (V.int m),some (V.ref l),some (V.ref d),some (V.int r),some (V.ref lo),some (V.int (n+1:Nat)),some (V.ref x),some (V.int C),some (V.ref lc),none,none,none] H9:=by
  intro lc cs H9 L ec;have cv:=ca.same L;have du:=L _ _ c5;have c0:=Α.same L dr;have W9:=dn.same L;clear ca c5 dr dn;refine e1 _ _ ?_;walk_at "";refine⟨⟨_,μ.of ec⟩,?_⟩;refine mL (K:=K) (xs:=cs.map V.int) (λi σ Y=>δ H9 Y/\E3 λ(a2 bi a8:Option V)=>σ=[some (V.ref a),some (V.ref aS),some (V.int m),some (V.ref l),some (V.ref d),some (V.int r),some (V.ref lo),some (V.int (n+1:Nat)),some (V.ref x),some (V.int C),some (V.ref lc),a2,bi,a8]) ⟨δ.refl _,_,_,_,rfl⟩ (λi σ Y _ z=>μ.of (z.1 _ _ ec)) ?_ ?_
  .rintro i y σ Y N BB Ϥ hN hy ⟨Zu,a2,bi,a8,rfl⟩;obtain⟨c,hc,rfl⟩:=List.θ hy;have db:=cv.same Zu;have dg:=Zu _ _ du;have dw:=Α.same Zu c0;have dd:=W9.same Zu;clear cv du c0 W9;refine Ϥ _ _ (cU λM1 k1=>?_);walk_at "";refine⟨d,lo,qs,j,tl,m,r,_,c,b,e,rfl,db,g,R,dg,dw,O,a9,⟨p,o⟩,w1,w2,λtq la ld xs ys ej na af ZN ea xl x0 sp=>Xa ZN rfl (k1 _ _ (cU λM2 k2=>?_))⟩;obtain⟨gv,SP,ac⟩:=sp;have ci:∀z∈xs,0<=z:=λz hz=>(x0 z hz).1;have ae:∀v,0<=v->v<m->0<=ys.getD v.toNat 0:=λv v0 v1=>by
    rw[<-SP.Ϗ g R ac _ v rfl v0 v1];exact Bl g (λv=>RF ci _) v
   obtain⟨nb,NS⟩:=ϭ.acT (fr:=ϗ m j r b e tr) (be:=Ϝ m j r b e tr) (c:=cK j b) g R p o et Or (λ_=>rfl) (λ_=>rfl) (λ_=>rfl) SP ae;have xv:∀v,0<=v->v<m->xs.getD v.toNat 0=if kd m j r b v=[]then((ys.getD v.toNat 0).toNat:Int)else 0:=λv v0 v1=>by rw[ac v v0 v1,bn (ae v v0 v1)]
   have er:((ys.getD r.toNat 0).toNat:Int)=((n+1:Nat):Int)-1:=(by rw[bn (ae r p o)];exact SP.rt);have bd:=NS.bd g R p o;rw[show(ys.getD r.toNat 0).toNat=n by lia]at bd;have gp:nb r<C:=(by rw[eC];exact bd.2);walk_at "";refine⟨⟨by decide,by decide⟩,by lia,cg (by simp),λp3 bs=>⟨by decide,?_⟩⟩;have a0:=dj c (show(3:Int)≠0 by decide);have a1:=cC c (show(0:Int)<3 by decide);have b0:=dj (c/3) (show C≠0 by lia);have b1:=cC (c/3) (show 0<C by lia);obtain⟨Z,eN,n0,n1⟩:∃Z,[V.int (c/3%C),V.int (C-1),V.int 0][(c%3).toNat]?=some (V.int Z)/\0<=Z/\Z<C:=by
    have h3:(c%3).toNat<3:=(by lia)
    match (c%3).toNat,h3 with
    | 0,_=>exact⟨_,rfl,b0,b1⟩
    | 1,_=>exact⟨_,rfl,by lia,by lia⟩
    | 2,_=>exact⟨_,rfl,by lia,by lia⟩
   refine Η aw (cB a0 eN) (k2 _ _ (cU λM3 k3=>?_));have J:=af.trans (δ.new (.lst [V.int (c/3%C),V.int (C-1),V.int 0]) bs);have a3:=δ.new (.lst [V.int (c/3%C),V.int (C-1),V.int 0]) bs _ _ ea;generalize upd ej p3 (.lst [V.int (c/3%C),V.int (C-1),V.int 0])=gu at J a3 ⊢;walk_at "";refine⟨x,tw,d,lo,la,ps,qs,j,tl,xs,m,r,_,Z,b,e,tr,_,_,nb,rfl,dd.same J,db.same J,R,J _ _ dg,Α.same J dw,O,a9,⟨p,o⟩,a3,xl,et,Or,w1,w2,cb,NS,er,xv,⟨n0,by rw[en,bu,<-eC];exact n1⟩,λgf bt=>⟨_,rfl,?_⟩⟩;rw[ah (by decide)];refine k3 _ _ ?_;walk_at "";have cc:=J.trans bt;have ei:=bt _ _ a3;have em:=Eo xl ci;have eg:=SP.Ϗ g R ac;have bV:xs.sum=ϡ m j r b (cJ m j r b e) (n+1:Nat)/\Ϗ m j r b e (λv=>xs.getD v.toNat 0) (Υ j b) r<(n+1:Nat):=⟨by rw[<-DQ (show xs.length=m.toNat by lia)];exact SP.total g R ac p o et Or,by rw[eg _ r rfl p o,SP.rt];lia⟩;refine⟨x,la,tw,true,m,ps,j,xs,r,_,rfl,dd.same cc,μ.of ei,by lia,w2,by lia,λ_ _ _=>⟨b,e,R,λz=>absurd z (by lia),λ_=>⟨λz=>(by rw[em]at z;cases z),λ_=>⟨λ_ ZO O' e2=>?_,λz=>absurd bV z⟩⟩⟩,λz=>absurd ⟨p,o⟩ z,λ_ _ z=>absurd z (by lia)⟩;have tt:tr=ZO:=(dy (et.symm.trans e2)).2;subst tt;refine⟨_,_,nb,NS,λu u0 u1=>by rw[eg _ u rfl u0 u1,bn (ae u u0 u1)],λhv S=>⟨_,rfl,?_⟩⟩;rw[ah (by lia)];exact hN _ _ ⟨Zu.trans (cc.trans S),_,_,_,rfl⟩
  .rintro BB σ Y Ϥ ⟨Zu,a2,bi,a8,rfl⟩;refine Ϥ _ _ ?_;walk_at "";exact k Y
 walk_at "";by_cases m7:7<m
 .rw[aj m7];refine⟨a,M,3,rfl,δ.seq (dm.trans u3) ha,by decide,λc3=>⟨cg (by simp),λp5 eA=>am p5 [c3] _ (u3.trans (δ.new _ eA)) aw⟩⟩
 .rw[ah m7];exact am lc cs e7 u3 ec
end
theorem W5:b6 CX0:=λ_ _ _ _ _ h=>h
structure FI(K:gh)(x:Str)(st:Stmt)(f:Addr)(fd:FuncData):Prop where
 a:PySem.W.nsIn K mainGlobals x=some (some (.ref f))
 F:Y2 K x x st f fd
theorem fi{K:gh}{x:Str}{st:Stmt}{f:Addr}{i:Value}{j g:Option Addr}{m:Array (Option Value)}{kV b h d e:Value}(a:PySem.W.nsIn K mainGlobals x=some (some (.ref f)):=by k_is)(l:K.lookup f=some ⟨i,j,.func (PySem.W.fnOf x x (iV st) (hJ st) (aG st) .none kV b h g d e),m⟩:=by k_is)(c:PySem.W.codeIn K d x=true:=by k_is)(k:PySem.W.keepIn K (.ref f)=true:=by k_is):FI K x st f (PySem.W.fnOf x x (iV st) (hJ st) (aG st) .none kV b h g d e):=⟨a,CB (st:=st) l c k⟩
theorem FI.df1{K:gh}{h:Heap}{l:hH}{x:Str}{st:Stmt}{f:Addr}{m:FuncData}(y:FI K x st f m)(X:K.In h)(G:h.Ns mainGlobals l)(j:hL)(q:j.length=1:=by rfl)(r:∀(kV k s:Value) (o:Option Addr) (p n i:Value),bindArgs (PySem.W.fnOf x x (iV st) (hJ st) (aG st) .none kV k s o p n) ⟨[i],[]⟩=pure (j.zip [i]):=by intros;rfl):Df K l x st j f m:=⟨y.F,bK X G y.a,y.F.binds λa b c d e g t z=>by obtain⟨i,rfl⟩:=us1 (z.trans q);exact r a b c d e g i⟩
theorem FI.Xu{K:gh}{h:Heap}{m:hH}{x:Str}{st:Stmt}{f:Addr}{n:FuncData}(y:FI K x st f n)(X:K.In h)(G:h.Ns mainGlobals m)(k:hL)(r:k.length=2:=by rfl)(s:∀(kV l t:Value) (p:Option Addr) (q o i j:Value),bindArgs (PySem.W.fnOf x x (iV st) (hJ st) (aG st) .none kV l t p q o) ⟨[i,j],[]⟩=pure (k.zip [i,j]):=by intros;rfl):Df K m x st k f n:=⟨y.F,bK X G y.a,y.F.binds λa b c d e g u z=>by obtain⟨i,j,rfl⟩:=us2 (z.trans r);exact s a b c d e g i j⟩
theorem FI.YK{K:gh}{h:Heap}{n:hH}{x:Str}{st:Stmt}{f:Addr}{o:FuncData}(y:FI K x st f o)(X:K.In h)(G:h.Ns mainGlobals n)(l:hL)(s:l.length=3:=by rfl)(t:∀(kV m u:Value) (q:Option Addr) (r p i j k:Value),bindArgs (PySem.W.fnOf x x (iV st) (hJ st) (aG st) .none kV m u q r p) ⟨[i,j,k],[]⟩=pure (l.zip [i,j,k]):=by intros;rfl):Df K n x st l f o:=⟨y.F,bK X G y.a,y.F.binds λa b c d e g v z=>by obtain⟨i,j,k,rfl⟩:=us3 (z.trans s);exact t a b c d e g i j k⟩
theorem FI.Zv{K:gh}{h:Heap}{o:hH}{x:Str}{st:Stmt}{f:Addr}{p:FuncData}(y:FI K x st f p)(X:K.In h)(G:h.Ns mainGlobals o)(m:hL)(t:m.length=4:=by rfl)(u:∀(kV n v:Value) (r:Option Addr) (s q i j k l:Value),bindArgs (PySem.W.fnOf x x (iV st) (hJ st) (aG st) .none kV n v r s q) ⟨[i,j,k,l],[]⟩=pure (m.zip [i,j,k,l]):=by intros;rfl):Df K o x st m f p:=⟨y.F,bK X G y.a,y.F.binds λa b c d e g w z=>by obtain⟨i,j,k,l,rfl⟩:=us4 (z.trans t);exact u a b c d e g i j k l⟩
theorem FI.df5{K:gh}{h:Heap}{p:hH}{x:Str}{st:Stmt}{f:Addr}{q:FuncData}(y:FI K x st f q)(X:K.In h)(G:h.Ns mainGlobals p)(n:hL)(u:n.length=5:=by rfl)(v:∀(kV o w:Value) (s:Option Addr) (t r j k l m i:Value),bindArgs (PySem.W.fnOf x x (iV st) (hJ st) (aG st) .none kV o w s t r) ⟨[j,k,l,m,i],[]⟩=pure (n.zip [j,k,l,m,i]):=by intros;rfl):Df K p x st n f q:=⟨y.F,bK X G y.a,y.F.binds λa b c d e g A z=>by obtain⟨j,k,l,m,i,rfl⟩:=us5 (z.trans u);exact v a b c d e g j k l m i⟩
theorem FI.df6{K:gh}{h:Heap}{q:hH}{x:Str}{st:Stmt}{f:Addr}{r:FuncData}(y:FI K x st f r)(X:K.In h)(G:h.Ns mainGlobals q)(o:hL)(v:o.length=6:=by rfl)(w:∀(kV p A:Value) (t:Option Addr) (u s j k m n i l:Value),bindArgs (PySem.W.fnOf x x (iV st) (hJ st) (aG st) .none kV p A t u s) ⟨[j,k,m,n,i,l],[]⟩=pure (o.zip [j,k,m,n,i,l]):=by intros;rfl):Df K q x st o f r:=⟨y.F,bK X G y.a,y.F.binds λa b c d e g B z=>by obtain⟨j,k,m,n,i,l,rfl⟩:=us6 (z.trans v);exact w a b c d e g j k m n i l⟩
theorem all_mk{l:PySem.W.OpenLaw}{w:World}{K:gh}{h:Heap}{f:hH}{fa:Addr}{b:Addr}{u:Addr}{k:Addr}{i:Addr}{n:Addr}{j:Addr}{r:Addr}{o:Addr}{c:Addr}{a:Addr}{CF J5 FV GQ DH Fc HM ED Gk Vh Sl Wa Qg T4 R7 Lo Ba Nb E1 LG C3 Mg HY ON Kc MQ G3 Ll Dr KI Os G5 OS EO Ki Fg EW HR KL Hg Ih HQ K0 Cf Ig IU HV Hs KS SY RH Lr AI HS DA AY KH KF HG ET G1 BP LH KW Ms Gh:Addr}{BU Iu EY Ey BZ CM GI Dw EV SG QN RU MY RI Ou IP Ao KQ Dg HX Bo KO GK LV Hy LJ EC Ij Cz IX MI Fb Ng C8 IW DN Dx G0 IK Fh FO Hl Hr Ae GU FH FW G2 Ht R0 NO IQ yT Fy Bg Af Ir HL FQ CW EX AF HK HP Ls EE:FuncData}{m:Addr}{Xe Ca:Option Addr}{BQ:Array (Option Value)}{Xf Cc AO AU uI Cm:Value}{g:Addr}{lT yM:Option Addr}{yL:Array (Option Value)}{nE yN yI yO sB yJ:Value}{R:Addr}{af MJ:Option Addr}{S3:Array (Option Value)}{U MF No MV C M4:Value}{XH:Tok}{Yh:Tok}{YL:Tok}{Xv:Tok}(X:K.In h)(G:h.Ns mainGlobals f)(N:f "law"=some (.ref fa))(F4:PySem.W.nsIn K mainGlobals "TollError"=some (some (.ref b)))(Mc:PySem.W.nsIn K mainGlobals "BadWeb"=some (some (.ref u)))(KU:PySem.W.nsIn K mainGlobals "NoPlace"=some (some (.ref k)))(LK:PySem.W.nsIn K mainGlobals "NoRoad"=some (some (.ref i)))(GG:PySem.W.nsIn K mainGlobals "BadLaying"=some (some (.ref n)))(KA:PySem.W.nsIn K mainGlobals "BadWish"=some (some (.ref j)))(LI:PySem.W.nsIn K mainGlobals "TooMany"=some (some (.ref r)))(Ix:PySem.W.nsIn K mainGlobals "NoNumber"=some (some (.ref o)))(SZ:PySem.W.nsIn K mainGlobals "Web"=some (some (.ref c)))(OM:PySem.W.nsIn K mainGlobals "Tally"=some (some (.ref a)))(za:acL K b)(Fu:aT K b u)(Em:aT K b k)(xX:p9 K k)(FA:aT K b i)(zW:p9 K i)(zg:aT K b n)(uN:p9 K n)(D1:aT K b j)(ya:p9 K j)(DX:aT K b r)(xp:p9 K r)(sG:aT K b o)(sJ:p9 K o)(I:[b,u,k,i,n,j,r,o].Nodup)(CK:FI K "check_counts" mH CF BU)(Kl:FI K "is_place" qJ J5 Iu)(Gp:FI K "check_ends" qr FV EY)(FE:FI K "other_ends" oC GQ Ey)(CZ:FI K "check_joined" oF DH BZ)(Fe:FI K "check_tolls" kY Fc CM)(DB:PySem.W.findIn K (.ref c) "__init__"=some (some (.ref m)))(CP:PySem.W.isFn K (.ref m)=true)(DM:K.lookup m=some ⟨Xf,Xe,.func (PySem.W.fnOf "__init__" "Web.__init__" (iV jw) (hJ jw) (aG jw) .none Cc AO AU Ca uI Cm),BQ⟩)(Dd:PySem.W.codeIn K uI "Web.__init__"=true)(Dy:PySem.W.keepIn K (.ref m)=true)(IJ:FI K "_law_tolls" rH HM GI)(EJ:FI K "check_place" iW ED Dw)(GW:FI K "neighbours" qd Gk EV)(Te:FI K "kids" vG Vh SG)(SB:FI K "ahead" tm Sl QN)(Tc:FI K "down" vN Wa RU)(Q2:FI K "inward" m3 Qg MY)(UP:FI K "toll" qH T4 RI)(Sw:FI K "borne" vC R7 Ou)(Lc:FI K "is_heavy" qy Lo IP)(Bn:FI K "least_weights" jS Ba Ao)(Mx:FI K "bearers" rT Nb KQ)(EL:FI K "differences" jX E1 Dg)(Kh:FI K "value_at" iq LG HX)(CT:FI K "first_values" mi C3 Bo)(LU:FI K "is_free" pY Mg KO)(IT:FI K "parted_at" pC HY GK)(Qv:FI K "parted" tD ON LV)(J6:FI K "held_for" p7 Kc Hy)(LL:FI K "ways_of" pS MQ LJ)(F9:FI K "ways_given" nX G3 EC)(Lw:FI K "rests_of" jB Ll Ij)(AE:PySem.W.findIn K (.ref a) "__init__"=some (some (.ref g)))(Ab:PySem.W.isFn K (.ref g)=true)(zI:K.lookup g=some ⟨nE,lT,.func (PySem.W.fnOf "__init__" "Tally.__init__" (iV eL) (hJ eL) (aG eL) .none yN yI yO yM sB yJ),yL⟩)(AD:PySem.W.codeIn K sB "Tally.__init__"=true)(zE:PySem.W.keepIn K (.ref g)=true)(CG:FI K "check_wanted" kG Dr Cz)(K5:FI K "bound_by" qB KI IX)(Rh:FI K "enough" uh Os MI)(GR:FI K "check_told" kJ G5 Fb)(PN:FI K "course" qO OS Ng)(ER:FI K "last_within" pI EO C8)(K2:FI K "given_by" sK Ki IW)(EN:FI K "ways_before" nh Fg DN)(Fa:FI K "handed_down" jU EW Dx)(Ii:FI K "laying_at" rA HR G0)(Lq:FI K "worst_at" mY KL IK)(GP:FI K "_law_beyond" om Hg Fh)(Iw:FI K "_law_bound" pp Ih FO)(Iz:FI K "_law_least" lS HQ Hl)(Ka:FI K "_law_load" oP K0 Hr)(BX:FI K "_law_rows_down" lA Cf Ae)(HE:FI K "_law_tuple" pF Ig GU)(HW:FI K "_law_whole" nI IU FH)(Ip:FI K "is_filled" rC HV FW)(HN:FI K "laying_of" nF Hs G2)(Ky:FI K "gathered" qk KS Ht)(Td:FI K "most" BA SY R0)(RM:FI K "total" yF RH NO)(Ln:FI K "is_worst" sS Lr IQ)(Ai:FI K "number_beneath" iw AI yT)(IY:FI K "number_of" pD HS Fy)(CH:FI K "worst_number" jp DA Bg)(BC:FI K "_law_both_ways" lJ AY Af)(KY:FI K "_law_cell" qj KH Ir)(Lb:FI K "_law_down" mR KF HL)(Hw:FI K "_law_mixed" rG HG FQ)(Eu:FI K "_law_numbers" m5 ET CW)(GS:FI K "_law_spread" jN G1 EX)(BM:FI K "_law_to_twelve" nM BP AF)(J9:FI K "_law_want" sP LH HK)(Kt:FI K "_law_toll" sL KW HP)(Nh:FI K "_law_web" rZ Ms Ls)(Hf:FI K "worst_many" oz Gh EE)(Ru:PySem.W.nsIn K mainGlobals "law"=some (some (.ref R)))(Wo:K.lookup R=some ⟨U,af,.func (PySem.W.fnOf "law" "law" (iV qg) (hJ qg) (aG qg) .none MF No MV MJ C M4),S3⟩)(Wj:PySem.W.codeIn K C "law"=true)(We:PySem.W.keepIn K (.ref R)=true)(Vv:PySem.W.plainGet K c Str.empty=true)(UC:PySem.W.hasDictIn K c=true)(UJ:PySem.W.plainOver K c=true)(VJ:PySem.W.findIn K (.ref c) "__setattr__"=some (some (.builtin "object.__setattr__")))(UN:PySem.W.makesIn K c=true)(VP:PySem.W.keepIn K (.ref c)=true)(Za:PySem.W.findIn K (.ref c) "many"=some none)(YM:PySem.W.findIn K (.ref c) "roads"=some none)(NB:PySem.W.plainGet K a Str.empty=true)(Qe:PySem.W.hasDictIn K a=true)(OP:PySem.W.plainOver K a=true)(Q3:PySem.W.findIn K (.ref a) "__setattr__"=some (some (.builtin "object.__setattr__")))(P6:PySem.W.makesIn K a=true)(NG:PySem.W.keepIn K (.ref a)=true)(YN:PySem.W.findIn K (.ref a) "web"=some none)(Yi:PySem.W.findIn K (.ref a) "down"=some none)(Xg:PySem.W.findIn K (.ref a) "weights"=some none)(Xh:PySem.W.findIn K (.ref a) "bearers"=some none)(Yj:PySem.W.findIn K (.ref a) "kids"=some none)(XI:PySem.W.findIn K (.ref a) "rests"=some none)(B:PySem.W.nsIn K mainGlobals "range"=some none)(O:PySem.W.nsIn K mainGlobals "zip"=some none)(J:PySem.W.nsIn K mainGlobals "len"=some none)(Yk:PySem.W.nsIn K mainGlobals "isinstance"=some none)(V:PySem.W.nsIn K mainGlobals "all"=some none)(an:PySem.W.nsIn K mainGlobals "int"=some none)(H:PySem.W.nsIn K mainGlobals "bool"=some none)(al:PySem.W.nsIn K mainGlobals "tuple"=some none)(ac:PySem.W.nsIn K mainGlobals "list"=some none)(Zb:PySem.W.nsIn K mainGlobals "reversed"=some none)(F:PySem.W.nsIn K mainGlobals "sorted"=some none)(L:PySem.W.nsIn K mainGlobals "min"=some none)(Q:PySem.W.nsIn K mainGlobals "max"=some none)(YQ:PySem.W.nsIn K mainGlobals "enumerate"=some none)(Z:PySem.W.nsIn K mainGlobals "sum"=some none)(A:PySem.W.nsIn K mainGlobals "str"=some none)(Y:PySem.W.nsIn K mainGlobals "set"=some none)(XJ:PySem.W.nsIn K mainGlobals "MOST_PLACES"=some (some (.int 24 XH)))(Yl:PySem.W.nsIn K mainGlobals "LEAST_TOLL"=some (some (.int 2 Yh)))(YR:PySem.W.nsIn K mainGlobals "MOST_TOLL"=some (some (.int 1000000 YL)))(Xw:PySem.W.nsIn K mainGlobals "MOST_PEBBLES"=some (some (.int 1000000000000 Xv))):∃fd:FuncData,(∀(s:Shared)(v:Value),BindsTo s fd ⟨[v],[]⟩ [("script",v)])/\∀base:Heap,K.In base->base.Ns mainGlobals f->Ψ l.prog w K f base (Β l.prog w) 14 fa fd ["script"] (Fi K):=by
 have e:=N.symm.trans (bK X G Ru);cases e
 let T:Txt K f:=⟨b,bK X G F4,u,bK X G Mc,k,bK X G KU,i,bK X G LK,n,bK X G GG,j,bK X G KA,r,bK X G LI,o,bK X G Ix,c,bK X G SZ,a,bK X G OM,za,Fu,Em,xX,FA,zW,zg,uN,D1,ya,DX,xp,sG,sJ,I,PySem.W.mg_none_of X G B,PySem.W.mg_none_of X G O,PySem.W.mg_none_of X G J,PySem.W.mg_none_of X G Yk,PySem.W.mg_none_of X G V,PySem.W.mg_none_of X G an,PySem.W.mg_none_of X G H,PySem.W.mg_none_of X G al,PySem.W.mg_none_of X G ac,PySem.W.mg_none_of X G Zb,PySem.W.mg_none_of X G F,PySem.W.mg_none_of X G L,PySem.W.mg_none_of X G Q,PySem.W.mg_none_of X G YQ,PySem.W.mg_none_of X G Z,PySem.W.mg_none_of X G A,PySem.W.mg_none_of X G Y,⟨_,bK X G XJ⟩,⟨_,bK X G Yl⟩,⟨_,bK X G YR⟩,⟨_,bK X G Xw⟩,⟨Vv,UC,UJ,VJ⟩,Za,YM,⟨NB,Qe,OP,Q3⟩,YN,Yi,Xg,Xh,Yj,XI⟩
 have vA:=CK.Xu X G ["many","roads"];have CA:=Kl.Xu X G ["many","number"];have xo:=Gp.Xu X G ["many","road"];have xF:=FE.Xu X G ["roads","place"];have vI:=CZ.Xu X G ["many","roads"];have wN:=Fe.df1 X G ["road"];have oM:=CB (st:=jw) DM Dd Dy;have LC:=oM.binds (ps:=["self","many","roads"]) λ_ _ _ _ _ _ us q=>by obtain⟨u0,u1,u2,rfl⟩:=us3 q;rfl
 have zu:=IJ.df1 X G ["roads"];have wU:=EJ.Xu X G ["web","number"];have yd:=GW.Xu X G ["web","a"];have Ma:=Te.YK X G ["web","place","front"];have Jo:=SB.Xu X G ["web","r"];have ML:=Tc.Xu X G ["web","r"];have Gy:=Q2.Xu X G ["web","r"];have MP:=UP.YK X G ["web","a","b"];have Jb:=Sw.Zv X G ["web","weights","place","front"];have Bu:=Lc.Zv X G ["web","weights","place","front"];have uB:=Bn.Xu X G ["web","r"];have Ei:=Mx.Xu X G ["web","r"];have wZ:=EL.df1 X G ["values"];have Ch:=Kh.Xu X G ["found","at"];have vh:=CT.Xu X G ["found","many"];have D2:=LU.YK X G ["tally","place","kid"];have zy:=IT.YK X G ["one","other","at"];have Gv:=Qv.Xu X G ["one","other"];have BR:=J6.Zv X G ["tally","place","kid","given"];have D6:=LL.YK X G ["tally","place","held"];have xi:=F9.Zv X G ["tally","place","kid","given"];have Bk:=Lw.Xu X G ["tally","place"];have t:=CB (st:=eL) zI AD zE;have S:=t.binds (ps:=["self","web","r"]) λ_ _ _ _ _ _ us q=>by obtain⟨u0,u1,u2,rfl⟩:=us3 q;rfl
 have vB:=CG.YK X G ["web","r","wanted"];have B8:=K5.Zv X G ["web","r","wanted","weights"];have He:=Rh.YK X G ["web","r","wanted"];have xK:=GR.YK X G ["web","r","wanted"];have G8:=PN.Zv X G ["tally","place","at","left"];have wS:=ER.YK X G ["before","top","number"];have B7:=K2.df5 X G ["tally","place","at","left","number"];have wO:=EN.df5 X G ["tally","place","at","left","given"];have wM:=Fa.Zv X G ["tally","place","held","number"];have zj:=Ii.YK X G ["tally","held","number"];have Bx:=Lq.Zv X G ["web","r","wanted","number"];have xt:=GP.Zv X G ["web","r","wanted","number"];have y9:=Iw.Zv X G ["tolls","order","weights","wanted"];have zp:=Iz.Xu X G ["tolls","order"];have Ck:=Ka.YK X G ["tolls","order","laying"];have uH:=BX.df1 X G ["order"];have zd:=HE.YK X G ["tolls","order","laying"];have yZ:=HW.df1 X G ["found"];have zB:=Ip.Xu X G ["web","numbers"];have zc:=HN.Xu X G ["web","numbers"];have Cp:=Ky.YK X G ["web","laying","r"];have Nk:=Td.YK X G ["web","laying","r"];have Jv:=RM.df1 X G ["numbers"];have Be:=Ln.Zv X G ["web","r","wanted","laying"];have ul:=Ai.Zv X G ["tally","place","held","numbers"];have zo:=IY.Xu X G ["tally","held"];have vK:=CH.Zv X G ["web","r","wanted","laying"];have uu:=BC.df6 X G ["web","tolls","order","wanted","laying","number"];have BJ:=KY.Xu X G ["script","k"];have Bs:=Lb.YK X G ["many","tolls","r"];have y8:=Hw.Xu X G ["cell","k"];have wX:=Eu.Xu X G ["script","many"];have xN:=GS.Zv X G ["tolls","order","wanted","cell"];have uC:=BM.df1 X G ["numbers"];have Bf:=J9.YK X G ["tolls","order","cell"];have BF:=Kt.df1 X G ["rest"];have Ej:=Nh.df1 X G ["numbers"];have xq:=Hf.YK X G ["web","r","wanted"];have Rt:=CB (st:=qg) Wo Wj We;have Wk:=Rt.binds (ps:=["script"]) λ_ _ _ _ _ _ us q=>by obtain⟨u0,rfl⟩:=us1 q;rfl
 have Wq:Df K f "law" qg ["script"] fa _:=⟨Rt,bK X G Ru,Wk⟩;refine⟨PySem.W.fnOf "law" "law" (iV qg) (hJ qg) (aG qg) .none MF No MV MJ C M4,λs v=>.of_eq rfl,λbase _ _=>?_⟩;have Kn:Mk K T.Web m:=⟨UN,DB,CP,VP⟩;have oJ:Mk K T.Tally g:=⟨P6,AE,Ab,NG⟩;have qV:=cb vA (BD (P:=l.prog) (w:=w) (base:=base) T bM _ _ vA);have mT:=cb CA (IB (P:=l.prog) (w:=w) (base:=base) T bM _ _ CA);have ud:=cb xo (EG T bM mT _ _ xo);have mj:=cb xF (EB (P:=l.prog) (w:=w) (base:=base) T bM _ _ xF);have rd:=cb vI (Bj T bM mj _ _ vI);have ss:=cb wN (Dj (P:=l.prog) (w:=w) (base:=base) T bM _ _ wN);have dO:=Cd (P:=l.prog) (w:=w) (base:=base) T bM oM qV ud rd ss;have uW:=cb zu (F5 (P:=l.prog) (w:=w) (base:=base) T bM _ _ zu);have x:=cb wU (Dt T bM mT _ _ wU);have tG:=cb yd (EU T bM x mj _ _ yd);have ng:=cb Ma (RG T bM tG _ _ Ma);have E:=cb Jo (Qm T bM x ng _ _ Jo);have vE:=cb ML (RS T bM E ng _ _ ML);have y:=cb Gy (Nr T bM E vE _ _ Gy);have p:=cb MP (Sd T bM x _ _ MP);have tz:=cb Jb (Rf T bM p _ _ Jb);have oO:=cb Bu (IC T bM tz _ _ Bu);have gA:=cb uB (zL T bM tz y _ _ uB);have xT:=cb Ei (Lf T bM y oO gA _ _ Ei);have jY:=cb wZ (C1 (P:=l.prog) (w:=w) (base:=base) T bM _ _ wZ);have d:=cb Ch (Hq (P:=l.prog) (w:=w) (base:=base) T bM _ _ Ch);have qU:=cb vh (Cr T bM d _ _ vh);have M:=cb D2 (KZ T bM oO _ _ D2);have nA:=cb zy (Fv (P:=l.prog) (w:=w) (base:=base) T bM _ _ zy);have Ar:=cb Gv (LX T bM nA _ _ Gv);have oG:=cb BR (HD T bM p _ _ BR);have lG:=cb D6 (Km T bM d _ _ D6);have iL:=cb xi (EI T bM oG lG _ _ xi);have wB:=cb Bk (II T bM jY qU M Ar iL _ _ Bk);have z:=yP (P:=l.prog) (w:=w) (base:=base) T bM t E xT vE ng gA wB;have kF:=cb vB (Cw T bM x _ _ vB);have wn:=cb B8 (Hu T bM kF y p _ _ B8);have qZ:=cb He (LQ T bM wn gA _ _ He);have mh:=cb xK (Ex T bM qZ _ _ xK);have rg:=cb G8 (LM T bM jY d iL _ _ G8);have sk:=cb wS (Dz T bM d _ _ wS);have wg:=cb B7 (Hv T bM rg M sk _ _ B7);have lq:=cb wO (Da T bM rg M d _ _ wO);have sg:=cb wM (DK T bM wg oG d lq _ _ wM);have uU:=cb zj (Hm T bM sg _ _ zj);have mV:=cb Bx (HC T bM t S oJ z mh uU lG _ _ Bx);have qi:=cb xt (Ew T bM mV _ _ xt);have nD:=cb y9 (Hb (P:=l.prog) (w:=w) (base:=base) T bM _ _ y9);have D:=cb zp (F2 (P:=l.prog) (w:=w) (base:=base) T bM _ _ zp);have oV:=cb Ck (IE (P:=l.prog) (w:=w) (base:=base) T bM _ _ Ck);have qC:=cb uH (AK (P:=l.prog) (w:=w) (base:=base) T bM _ _ uH);have rp:=cb zd (FS T bM oV qC _ _ zd);have lR:=cb yZ (GO (P:=l.prog) (w:=w) (base:=base) T bM _ _ yZ);have uX:=cb zB (FU (P:=l.prog) (w:=w) (base:=base) T bM _ _ zB);have nB:=cb zc (GV T bM uX _ _ zc);have oN:=cb Cp (Ib T bM y nB p _ _ Cp);have FN:=cb Nk (RJ T bM oN _ _ Nk);have C0:=cb Jv (PL (P:=l.prog) (w:=w) (base:=base) T bM _ _ Jv);have wu:=cb Be (Iq T bM qZ nB FN C0 _ _ Be);have pR:=cb ul (yU T bM p d lq _ _ ul);have uZ:=cb zo (Hh T bM pR _ _ zo);have jq:=cb vK (B4 T bM t S oJ z mh oN wu uZ _ _ vK);have qo:=cb uu (zN T bM nD D oV rp lR mV jq _ _ uu);have lL:=cb BJ (HZ (P:=l.prog) (w:=w) (base:=base) T bM _ _ BJ);have wj:=cb Bs (IR (P:=l.prog) (w:=w) (base:=base) T bM _ _ Bs);have rE:=cb y8 (F7 (P:=l.prog) (w:=w) (base:=base) T bM _ _ y8);have sx:=cb wX (DL T bM lL rE _ _ wX);have uj:=cb xN (Ev T bM D _ _ xN);have qG:=cb uC (zQ (P:=l.prog) (w:=w) (base:=base) T bM _ _ uC);have wf:=cb Bf (IH T bM nD D _ _ Bf);have sM:=cb BF (Iy (P:=l.prog) (w:=w) (base:=base) T bM _ _ BF);have xE:=cb Ej (La T bM sM _ _ Ej);have ug:=cb xq (ES T bM t S oJ z kF lG _ _ xq);have Ws:=Vj (P:=l.prog) (w:=w) (base:=base) T bM Wq oM LC Kn dO qi qo lL wj sx uj qG uW wf xE ug jq;exact Ws
theorem walk{l:PySem.W.OpenLaw}{q:Program}{c:hL}{XP:(Str->Option Value)->Heap->Prop}{j:World->Heap->Prop}{d:DefRec}{K:Params->PySem.W.Frag}(y:l.most=some 63)(g:d.params.defaults=[])(r:∀(w:World) (h:Heap),j w h->(K w.params).In h)(F:∀(w:World) (e:hH) (i:Addr) (h:Heap),(K w.params).In h->h.Ns mainGlobals e->e d.name=some (.ref i)->∃m:FuncData,(∀(s:Shared) (u:Value),BindsTo s m ⟨[u],[]⟩ [("script",u)])/\∀b:Heap,(K w.params).In b->b.Ns mainGlobals e->Ψ l.prog w (K w.params) e b (Β l.prog w) 14 i m ["script"] (Fi (K w.params))):PySem.W.WalkO q c XP j l.row.toRowW d [] (λf t=>PySem.call f t):=L2.aaZ (n:=63) (k:=14) (x:="script") (CX:=λw=>(Β l.prog w)) (sp:=λw=>Fi (K w.params)) y (by decide) g ⟨rfl,by decide,by decide⟩ r F (λ_ _ a o v _ p=>⟨a,o,rfl,p,v,λ_=>rfl⟩) λ_ _ _ _ _ z=>bM _ _ _ _ _ z
end Pk
open L2
open PySem PySem.W PyProof.Rows
set_option maxRecDepth 100000 in
set_option maxHeartbeats 0 in
theorem PySem.Challenge.cw_pebbletoll_k46_whole_numbers_there_and_b_holds : PySem.Challenge.rw_pebbletoll_k46_whole_numbers_there_and_b.Holds := by
 w_on;refine PySem.W.holds_law Hd.ws λasf=>?_
 refine PySem.W.holds_open (q:=Hd.qq) (loose:=[]) (Xt:=(λs=>PySem.W.xlAt Hd.qq [] s&&PySem.W.recOk (PySem.W.RowW.records (PySem.W.OpenRow.toRowW (PySem.Challenge.rw_pebbletoll_k46_whole_numbers_there_and_b).row)) s)) (XP:=PySem.W.XL Hd.qq []) (Yf:=PySem.W.Hook.obs (PySem.W.kHook Hd.KK Hd.asK Hd.Ϟ)) (Ya:=PySem.W.Hook.val (PySem.W.kHook Hd.KK Hd.asK Hd.Ϟ)) (YP:=PySem.W.Hook.says (PySem.W.kHook Hd.KK Hd.asK Hd.Ϟ)) (N:=8812) Hd.left (PySem.W.Hook.of (PySem.W.kHook Hd.KK Hd.asK Hd.Ϟ)) (PySem.W.Hook.keeps (PySem.W.kHook Hd.KK Hd.asK Hd.Ϟ)) (λs e=>PySem.W.xl_of s (nK.mp e).1) PySem.W.XL.keeps (by rfl) (by rfl) (by rfl) (λs e=>PySem.W.recFacts_of (nK.mp e).2) (by rfl) (by assumption) (by decide +kernel) ⟨rfl,rfl,rfl,rfl,rfl,by decide +kernel⟩ ?hw ?hc
 (case hw=>w_witness2)
 k_fill
 refine Pk.walk (l:=PySem.Challenge.rw_pebbletoll_k46_whole_numbers_there_and_b) rfl rfl (λw h Y=>PySem.W.kIn_of Y) ?F
 case F=>
  intro w mg fa h KX G hmg;refine' Pk.all_mk KX G hmg ?_ ?_ ?_ ?_ ?_ ?_ ?_ ?_ ?_ ?_ ?_ ?_ ?_ ?_ ?_ ?_ ?_ ?_ ?_ ?_ ?_ ?_ ?_ ?_ ?_ ?_ ?_ ?_ ?_ ?_ ?_ ?_ ?_ ?_ ?_ ?_ ?_ ?_ ?_ ?_ ?_ ?_ ?_ ?_ ?_ ?_ ?_ ?_ ?_ ?_ ?_ ?_ ?_ ?_ ?_ ?_ ?_ ?_ ?_ ?_ ?_ ?_ ?_ ?_ ?_ ?_ ?_ ?_ ?_ ?_ ?_ ?_ ?_ ?_ ?_ ?_ ?_ ?_ ?_ ?_ ?_ ?_ ?_ ?_ ?_ ?_ ?_ ?_ ?_ ?_ ?_ ?_ ?_ ?_ ?_ ?_ ?_ ?_ ?_ ?_ ?_ ?_ ?_ ?_ ?_ ?_ ?_ ?_ ?_ ?_ ?_ ?_ ?_ ?_ ?_ ?_ ?_ ?_ ?_ ?_ ?_ ?_ ?_ ?_ ?_ ?_ ?_ ?_ ?_ ?_ ?_ ?_ ?_ ?_ ?_ ?_ ?_ ?_ ?_ ?_ ?_ ?_ ?_ ?_ ?_ ?_
  any_goals first|exact Sj (by k_is) (by k_is) (by k_is) (by k_is) (by k_is) (by k_is) (by k_is) (by k_is) (by rfl)|exact RZ (by k_is) (by k_is) (by k_is) (by k_is) (by k_is) (by k_is) (by k_is) (by k_is) (by rfl)|exact RL _ _ _ _ _ _ _ _ _ _ _ _ _ _ _ _ (by k_is) (by rfl) (by kernel_rfl) (by k_is) (by kernel_rfl)|exact Pk.fi|k_is|decide
#print axioms PySem.Challenge.cw_pebbletoll_k46_whole_numbers_there_and_b_holds