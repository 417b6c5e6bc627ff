import PyProof.Rows.All
import Wide.All
import OpenK.AllK
import Wide.FinOn
import Lean
import PyProof.EqAt
import PyProof.EqKinds
import PyProof.TupleCall
import PyProof.P3Eq
import PyProof.NeData
import PyProof.FitsBits
import PyProof.ZipIter
import PyProof.TupleIter
import KE.KRevIter
import PyProof.TupleOfGen
import PyProof.ListRange
import KE.KIsAll
import PyProof.ExcArgsOwn
import OpenK.KDescr
import PyProof.StationsW
import PyProof.ExcBaseAll.ValueError
import OpenK.KOwn
import PyProof.RulesAs
import PyProof.RulesDel
import PyProof.Rows.SortWalk
import PyProof.CompUse
import KE.KDictSum
import PyProof.WalkInts
import KE.KSortTup
import PyProof.Rows.TupDisplay
import KE.KIntText
import PyProof.JoinWalk
import PyProof.ExcInit
import PyProof.ExcClass2
import KE.KRevSl
import KE.KSetAt
import PyProof.DictUpdate
import PySem.Challenge.RW_pebbletoll_k69_whole_told_otherwise
set_option Elab.async false
set_option linter.all false
set_option maxRecDepth 100000
def gj:=@Array.getElem?_eq_some_iff
def nL:=@Array.length_toList
def bD:=@Bool.and_eq_true
def nC:=@Bool.and_eq_true_iff
def jm:=@Bool.eq_false_iff
def iM:=@Bool.eq_iff_iff
def kJ:=@Bool.false_and
def de:=@Bool.false_eq_true
def bz:=@Bool.false_ne_true
def nK:=@Bool.false_or
def fZ:=@Bool.not_eq_true'
def kP:=@Bool.or_true
def jc:=@Bool.true_and
def kD:=@PySem.Calls.Name_function_global
def gM:=@PySem.Calls.spliced_cons
def gV:=@PySem.Calls.spliced_nil
def jR:=@PySem.F.args_tuple_iterator_next_1
def j6:=@PySem.F.entry_tuple_iterator_next
def gc:=@PySem.F.slot_tuple_iterator_next
def jI:=@PySem.F.slot_zip_next
def ay:=@PySem.Heap.get?_push_of_some
def bc:=@PySem.Heap.get?_push_size
def di:=@PySem.Heap.get?_update_other
def eR:=@PySem.Heap.get?_update_self
def aH:=@PySem.Heap.lt_size
def dz:=@PySem.Heap.size_push
def cR:=@Int.add_mul
def jf:=@Int.add_mul_ediv_right
def dE:=@Int.add_zero
def gR:=@Int.ediv_eq_zero_of_lt
def lA:=@Int.ediv_le_self
def fL:=@Int.ediv_nonneg
def bX:=@Int.emod_lt_of_pos
def b5:=@Int.emod_nonneg
def kt:=@Int.eq_of_mul_eq_mul_right
def ic:=@Int.fdiv_eq_ediv_of_nonneg
def lJ:=@Int.gcd_le_natAbs_right
def fJ:=@Int.gcd_pos_of_ne_zero_right
def kR:=@Int.le_of_lt
def ig:=@Int.le_of_mul_le_mul_right
def bO:=@Int.le_refl
def dh:=@Int.le_trans
def db:=@Int.mul_add
def cX:=@Int.mul_assoc
def dF:=@Int.mul_comm
def jB:=@Int.mul_ediv_add_emod
def lf:=@Int.mul_fdiv_cancel_left
def ft:=@Int.mul_le_mul
def bg:=@Int.mul_le_mul_of_nonneg_left
def bH:=@Int.mul_le_mul_of_nonneg_right
def jJ:=@Int.mul_le_mul_of_nonpos_left
def dW:=@Int.mul_nonneg
def gg:=@Int.mul_nonpos_of_nonpos_of_nonneg
def eU:=@Int.mul_one
def gX:=@Int.mul_sub
def kY:=@Int.mul_zero
def iK:=@Int.natAbs_mul
def mB:=@Int.natAbs_neg
def ir:=@Int.natCast_add
def cH:=@Int.ne_of_gt
def gY:=@Int.neg_mul
def gA:=@Int.one_mul
def kZ:=@Int.pos_of_mul_pos_right
def lM:=@Int.pow_add
def oM:=@Int.pow_pos
def cu:=@Int.toNat_natCast
def bW:=@Int.toNat_of_nonneg
def dC:=@Int.zero_add
def ff:=@Int.zero_mul
def mh:=@List.Perm.append_left
def gm:=@List.all_eq_true
def mY:=@List.any_cons
def c7:=@List.append_assoc
def b4:=@List.append_nil
def jC:=@List.concat_eq_append
def g0:=@List.cons.inj
def eM:=@List.contains_cons
def iG:=@List.drop_eq_getElem_cons
def dR:=@List.drop_length
def lW:=@List.drop_of_length_le
def nA:=@List.drop_succ_cons
def gh:=@List.drop_zero
def gI:=@List.eq_nil_iff_forall_not_mem
def jv:=@List.eq_nil_or_concat
def dJ:=@List.ext_getElem?
def iB:=@List.filterMap_cons
def c9:=@List.filter_append
def lC:=@List.filter_cons
def eF:=@List.filter_cons_of_neg
def eG:=@List.filter_cons_of_pos
def nD:=@List.filter_eq_self
def gH:=@List.filter_nil
def gF:=@List.find?_cons
def ju:=@List.findSome?_append
def j4:=@List.findSome?_cons
def nh:=@List.flatMap_append
def bI:=@List.flatMap_cons
def f6:=@List.flatten_cons
def gG:=@List.foldl_cons
def l9:=@List.forIn_cons
def jQ:=@List.getD_cons_succ
def bj:=@List.getD_eq_getElem?_getD
def cU:=@List.getElem?_append_left
def cM:=@List.getElem?_append_right
def iQ:=@List.getElem?_cons_succ
def aA:=@List.getElem?_eq_getElem
def bn:=@List.getElem?_eq_none
def aw:=@List.getElem?_eq_some_iff
def aG:=@List.getElem?_map
def bZ:=@List.getElem?_of_mem
def eA:=@List.getElem?_range
def iI:=@List.getElem?_replicate
def dg:=@List.getElem?_reverse
def cP:=@List.getElem?_set_ne
def dG:=@List.getElem?_set_self
def iE:=@List.getElem?_take_of_lt
def kC:=@List.getElem?_zip_eq_some
def lK:=@List.getElem_cons_drop
def iX:=@List.getElem_map
def cZ:=@List.getElem_mem
def jw:=@List.getLast?_append
def aN:=@List.length_append
def ba:=@List.length_cons
def eZ:=@List.length_drop
def dM:=@List.length_filter_le
def ag:=@List.length_map
def dU:=@List.length_nil
def cj:=@List.length_range
def cD:=@List.length_replicate
def aZ:=@List.length_reverse
def b8:=@List.length_set
def ji:=@List.length_singleton
def bA:=@List.length_take
def jo:=@List.length_zip
def cL:=@List.lookup_cons
def aE:=@List.map_append
def bQ:=@List.map_congr_left
def aF:=@List.map_cons
def mE:=@List.map_drop
def mM:=@List.map_eq_nil_iff
def ee:=@List.map_map
def eu:=@List.map_nil
def iz:=@List.map_replicate
def eC:=@List.map_reverse
def gB:=@List.map_set
def bd:=@List.mem_append
def bB:=@List.mem_append_left
def aY:=@List.mem_append_right
def aD:=@List.mem_cons
def aq:=@List.mem_cons_of_mem
def ax:=@List.mem_cons_self
def mj:=@List.mem_erase_of_ne
def bu:=@List.mem_filter
def c6:=@List.mem_flatMap
def mz:=@List.mem_iff_getElem
def aR:=@List.mem_map
def df:=@List.mem_nil_iff
def aX:=@List.mem_of_getElem?
def mm:=@List.mem_of_getLast?
def fT:=@List.mem_of_mem_drop
def my:=@List.mem_of_mem_take
def kq:=@List.mem_or_eq_of_mem_set
def cQ:=@List.mem_range
def j5:=@List.mem_replicate
def cY:=@List.mem_reverse
def aO:=@List.mem_singleton
def fC:=@List.nil_append
def da:=@List.nodup_append
def aV:=@List.nodup_cons
def jL:=@List.nodup_nil
def lF:=@List.of_mem_zip
def ii:=@List.pairwise_iff_getElem
def kb:=@List.perm_append_singleton
def dv:=@List.range_succ
def cW:=@List.replicate_succ
def mL:=@List.reverse_append
def eL:=@List.reverse_cons
def mf:=@List.reverse_reverse
def aU:=@List.size_toArray
def hJ:=@List.sum_append
def aK:=@List.sum_cons
def dN:=@List.take_append_drop
def bC:=@List.take_length
def cw:=@List.take_of_length_le
def bp:=@List.take_succ
def dY:=@List.take_zero
def lH:=@List.zipWith_cons_cons
def m9:=@Nat.add_comm
def lg:=@Nat.add_mul
def iW:=@Nat.le_add_right
def jd:=@Nat.le_of_lt
def aJ:=@Nat.le_refl
def fY:=@Nat.le_succ
def bw:=@Nat.le_trans
def nP:=@Nat.log2_lt
def dB:=@Nat.lt_irrefl
def bK:=@Nat.lt_of_le_of_lt
def aP:=@Nat.lt_of_lt_of_le
def gL:=@Nat.lt_succ_of_lt
def f7:=@Nat.lt_succ_self
def nV:=@Nat.mul_add
def dH:=@Nat.mul_le_mul
def mi:=@Nat.mul_le_mul_right
def eO:=@Nat.ne_of_gt
def aW:=@Nat.ne_of_lt
def nW:=@Nat.pow_add
def mQ:=@Nat.pow_le_pow_left
def cN:=@Nat.pow_le_pow_right
def fU:=@Nat.pow_lt_pow_right
def i9:=@Nat.pow_succ
def d9:=@Nat.sub_self
def fH:=@Nat.sub_zero
def mZ:=@Nat.succ.inj
def m7:=@Nat.succ_mul
def b7:=@Nat.zero_le
def eJ:=@PySem.Obj.data_mapFields
def gQ:=@PySem.Obj.isFreed_of_fields
def gi:=@Option.isSome_iff_exists
def bN:=@Option.map_eq_some_iff
def bq:=@Option.some.inj
def jW:=@Option.toList_some
def cG:=@PyProof.Rows.callWith_type1
def kE:=@PyProof.Rows.floordiv_int
def kL:=@PyProof.noPylong_of_log2
def iC:=@PySem.F.slot_list_insert
def lI:=@PySem.W.cellsFrom_some
def bP:=@PySem.W.mg_of
def dD:=@PySem.mem_of_lookup
def lN:=@beq_iff_eq
def kH:=@PySem.codeAny_mono
def iV:=@decide_eq_decide
def cV:=@decide_eq_false
def bE:=@decide_eq_true
def bJ:=@decide_eq_true_eq
def ah:=@if_neg
def aj:=@if_pos
def bF:=@of_decide_eq_true
def iA:=@PySem.wpAny_Call_Name_kw
def ap:=@PySem.wpAny_bind
def iY:=@PySem.wpAny_call_entry
def jp:=@PySem.wpAny_execs_nil
def cI:=@PySem.wpAny_field
def j1:=@PySem.wpAny_holding
def gu:=@PySem.wpAny_ite_split
def kQ:=@PySem.wpAny_letGo
def fI:=@PySem.wpAny_mono
def gN:=@PySem.wpAny_newObj_type
def jZ:=@PySem.wpAny_onRaise
def fx:=@PySem.wpAny_passesOwn
def bh:=@PySem.wpAny_pure
def iP:=@PySem.wpAny_pyIter_list
def jE:=@PySem.wpAny_pyIter_revIter
def jY:=@PySem.wpAny_pyIter_tuple
def dZ:=@PySem.wpAny_seqItems
def ik:=@PySem.wpAny_setField
def fE:=@PySem.wpAny_setField_rec
def jV:=@PySem.wpAny_standAt
def dy:=@PySem.wpAny_truthy_bool
def jD:=@PySem.wpAny_updateSeq_pair
namespace Hd
open PySem
def top(i:Nat):Stmt:=PySem.Challenge.pw_pebbletoll_k69_whole_told_otherwise.main.body.getD i (.Pass ⟨0,0,0,0⟩)
def inC(s:Stmt)(j:Nat):Stmt:=match s with
 | .ClassDef _ _ _ b _ _ _ _ _ _ _=>b.getD j (.Pass ⟨0,0,0,0⟩)
 | _=>.Pass ⟨0,0,0,0⟩
def kA(s:Stmt):Arguments:=match s with
 | .FunctionDef _ a _ _ _ _ _ _ _ _=>a
 | _=>{ posonlyargs:=[],args:=[],vararg:=none,kwonlyargs:=[],kw_defaults:=[],kwarg:=none,defaults:=[] }
def kB(s:Stmt):List Stmt:=match s with
 | .FunctionDef _ _ b _ _ _ _ _ _ _=>b
 | _=>[]
def kS(s:Stmt):Scope:=match s with
 | .FunctionDef _ _ _ _ _ _ sc _ _ _=>sc
 | _=>{ kind:=.function,names:=[],isGenerator:=false,isCoroutine:=false }
theorem ws:(PySem.Challenge.rw_pebbletoll_k69_whole_told_otherwise).wellSaid=true:=by kernel_rfl
open PySem.W PySem.Calls PyProof.Rows
def en(P:Params)(s:Str)(t:Tok)(v:Value):DictEntry:=.mk (PyData.keyHash P s) (.str s t) v
def cO(a b:Str)(l m u:Tok)(j t d e c:Int)(k:Value)(h:Bool)(s:Int)(i n q f o:Value)(g p:Int)(r:Tok):Obj:=.mk (.type "code") none (.fields #[.str a l,.str b m,.str "/claim/cut.py" u,.int j 0,.int t 0,.int d 0,.int e 0,.int c 0,k,.bool h,.int s 0,i,n,q,f,o,.int g 0,.int p 0,.str "/claim/cut.py" r]) #[]
def fR(a b:Str)(s:Stmt):Obj:=.mk .none none (.func (.mk a b (kA s) (.stmts (kB s)) (kS s) 0 [] .none .none .none .none none .none .none 0)) #[]
def fO(a b:Str)(s:Stmt)(d c:Value):Obj:=.mk (.type "function") none (.func (PySem.W.fnOf a b (kA s) (kB s) (kS s) .none .none .none d none c .none)) #[]
def tO(a:Array Value):Obj:=.mk (.type "tuple") none (.seq a 0) #[]
def fr(a:Str)(s:Stmt):Obj:=fR a a s
def fo(a:Str)(s:Stmt)(c b:Value):Obj:=fO a a s c b
def cF(a:Str)(t:Nat)(i j k:Int)(n q:Nat):Obj:=cO a a t (t+1) (t+2) i j 0 0 k (.ref n) true 181 (.ref (n+1)) .none (.ref (n+2)) (.ref (n+3)) (.ref (n+4)) q i (q+1)
def sT(t:Nat):List Str->List Value
 | []=>[]
 | s::l=>.str s t::sT (t+1) l
def tS(t:Nat)(l:List Str):Obj:=tO (sT t l).toArray
def tF:List (Int×Nat)->List Value
 | []=>[]
 | (i,a)::l=>.int i 0::.int 0 0::.ref a::tF l
def x0:Obj:=(tO #[])
def x1:Obj:=(.mk .none none (.fields #[]) #[])
def x2:Obj:=(cO "<module>" "<module>" 182 183 184 1 0 0 0 0 (.ref 11) false 181 (.ref 12) .none .none .none .none 185 1 186)
def x3:Obj:=(.mk (.type "frame") none .plain #[(some (.ref 13)),(some (.ref 3)),(some (.ref 3)),none,(some (.str "__main__" 164)),none,(some (.ref 0))])
noncomputable def ha(P:Params):Heap:=.mk (.mk (boot_o_0 P::boot_o_1 P::boot_o_2 P::boot_o_3 P::boot_o_4 P::boot_o_5 P::boot_o_6 P::boot_o_7 P::boot_o_8 P::boot_o_9 P::boot_o_10 P::x0::x1::x2::x3::[])) (.mk [] [] [] 0 [] [] false #[] [] 0 false false false 0 [2000,10,10] false 0 true [] [] 0 false)
noncomputable def hb(P:Params):Heap:=ha P
abbrev st0:List Stmt:=[top 0,top 1,top 2,top 3,top 4,top 5,top 6,top 7,top 8,top 9,top 10,top 11,top 12,top 13,top 14,top 15,top 16,top 17,top 18,top 19,top 20]
abbrev st1:List Stmt:=[top 21,top 22,top 23,top 24,top 25,top 26,top 27,top 28,top 29,top 30,top 31,top 32,top 33,top 34,top 35,top 36,top 37,top 38,top 39,top 40,top 41,top 42,top 43,top 44,top 45,top 46,top 47,top 48,top 49,top 50,top 51,top 52,top 53,top 54,top 55,top 56,top 57,top 58,top 59,top 60,top 61,top 62,top 63,top 64,top 65,top 66,top 67,top 68,top 69,top 70,top 71,top 72,top 73,top 74,top 75,top 76,top 77,top 78,top 79,top 80,top 81]
abbrev st2:List Stmt:=[top 82,top 83,top 84,top 85,top 86,top 87,top 88,top 89,top 90,top 91,top 92,top 93,top 94,top 95,top 96,top 97]
abbrev bb:List Stmt:=st0++(st1++(st2++([])))
def env:Env:={ scope:=PySem.Challenge.pw_pebbletoll_k69_whole_told_otherwise.main.scope,locals:=mainNs,globals:=mainNs,cells:=[],code:=(.ref 13),frame:=some 14 }
abbrev cE:Code:=.body bb env
theorem Y3(w:World)(os:OsState):topGo treeTable PySem.Challenge.pw_pebbletoll_k69_whole_told_otherwise w 11 (some (.ref 6)) 12 (Shared.mk (boot_heap w.params) (.mk []) boot_drawn boot_toks os) (topStub PySem.Challenge.pw_pebbletoll_k69_whole_told_otherwise)=some ((Shared.mk (ha w.params) (.mk []) (.mk 0 0 0 0) 187 os),Thread.mk (denote treeTable cE) cE (.mk 0 0 0 0) [topFrame (.mk 0 0 0 0)]):=by kernel_rfl
theorem YD(w:World)(os:OsState):segRun treeTable PySem.Challenge.pw_pebbletoll_k69_whole_told_otherwise w 11 (some (.ref 6)) 1 1 (Shared.mk (ha w.params) (.mk []) (.mk 0 0 0 0) 187 os) (blockOf bb env cE (.mk 0 0 0 0) [topFrame (.mk 0 0 0 0)])=some (.next,(Shared.mk (hb w.params) (.mk []) (.mk 0 0 0 0) 187 os),cE,(.mk 0 0 0 0)):=by kernel_rfl
def x4(P:Params):Obj:=(.mk (.type "dict") none (.dict #[(en P "__name__" 165 (.str "pebbletoll.webs" 303)),(en P "__doc__" 166 .none),(en P "__package__" 167 .none),(en P "__loader__" 168 (.builtin "__main__.__loader__#opaque")),(en P "__spec__" 169 .none),(en P "__annotations__" 170 (.ref 6)),(en P "__builtins__" 171 (.ref 4)),(en P "__file__" 173 (.str "/claim/cut.py" 172)),(en P "__cached__" 174 .none),(en P "TollError" 206 (.ref 24)),(en P "BadWeb" 222 (.ref 37)),(en P "NoPlace" 238 (.ref 49)),(en P "NoRoad" 254 (.ref 61)),(en P "BadLaying" 270 (.ref 73)),(en P "BadWish" 286 (.ref 85)),(en P "NoWorst" 302 (.ref 97)),(en P "MOST_PLACES" 306 (.int 24 305)),(en P "LEAST_TOLL" 308 (.int 2 307)),(en P "MOST_TOLL" 310 (.int 1000000 309)),(en P "Web" 338 (.ref 114)),(en P "toll" 351 (.ref 125)),(en P "neighbours" 359 (.ref 132)),(en P "check_place" 367 (.ref 139)),(en P "is_place" 375 (.ref 146)),(en P "check_counts" 383 (.ref 153)),(en P "check_ends" 391 (.ref 160)),(en P "check_tolls" 399 (.ref 167)),(en P "check_joined" 411 (.ref 174))] 28) #[])
def x5:Obj:=(.mk .none none (.fields (tF [(2,20),(4,33),(6,45),(8,57),(10,69),(12,81),(14,93),(20,105),(31,124),(40,131),(43,138),(46,145),(48,152),(53,159),(58,166),(62,173)]).toArray) #[])
def x6:Obj:=(tO #[(.type "ValueError")])
def x7:Obj:=(.mk (.type "builtin_function_or_method") none (.fields #[(.builtin "type.__prepare__"),(.type "type")]) #[])
def x8(P:Params):Obj:=(.mk (.type "dict") none (.dict #[(en P "__module__" 196 (.str "pebbletoll.errors" 187)),(en P "__qualname__" 198 (.str "TollError" 197)),(en P "__firstlineno__" 200 (.int 2 199)),(en P "__static_attributes__" 201 (.ref 22))] 4) #[])
def x9:Obj:=(cO "TollError" "TollError" 191 192 193 2 0 0 0 0 (.ref 18) false 181 (.ref 19) .none .none .none .none 194 2 195)
def x10:Obj:=(.mk (.type "frame") none .plain #[(some (.ref 20)),(some (.ref 3)),(some (.ref 17)),none,(some (.str "pebbletoll.errors" 187)),none,(some (.ref 0))])
def x11(P:Params):Obj:=(.mk (.type "dict") none (.dict #[(en P "__module__" 196 (.str "pebbletoll.errors" 187)),(en P "__firstlineno__" 200 (.int 2 199)),(en P "__static_attributes__" 201 (.ref 22)),(en P "__weakref__" 203 (.ref 25)),(en P "__doc__" 204 .none)] 3) #[])
def x12:Obj:=(.mk (.type "type") none (.cls (.mk "TollError" [(.type "ValueError")] [(.ref 24),(.type "ValueError"),(.type "Exception"),(.type "BaseException"),(.type "object")] 23 "TollError" true [] [(.ref 37),(.ref 49),(.ref 61),(.ref 73),(.ref 85),(.ref 97)] false none false)) #[(some (.ref 15)),none,(some (.str "TollError" 189)),(some (.str "TollError" 197)),(some (.builtin "ValueError.__new__")),(some (.bool true))])
def x13:Obj:=(.mk (.type "getset_descriptor") none (.fields #[(.str "__weakref__" 202),(.ref 24),(.builtin "ExceptionGroup.__weakref__"),.none]) #[])
def x14:Obj:=(.mk (.type "super") none (.fields #[(.ref 24),(.ref 24),(.ref 24)]) #[])
def x15:Obj:=(.mk (.type "builtin_function_or_method") none (.fields #[(.builtin "object.__init_subclass__"),(.ref 24)]) #[])
def Zb:Obj:=(tO #[(.ref 24)])
def x17(P:Params):Obj:=(.mk (.type "dict") none (.dict #[(en P "__module__" 214 (.str "pebbletoll.errors" 187)),(en P "__qualname__" 216 (.str "BadWeb" 215)),(en P "__firstlineno__" 218 (.int 4 217)),(en P "__static_attributes__" 219 (.ref 35))] 4) #[])
def x18:Obj:=(cO "BadWeb" "BadWeb" 209 210 211 4 0 0 0 0 (.ref 31) false 181 (.ref 32) .none .none .none .none 212 4 213)
def x19:Obj:=(.mk (.type "frame") none .plain #[(some (.ref 33)),(some (.ref 3)),(some (.ref 30)),none,(some (.str "pebbletoll.errors" 187)),none,(some (.ref 0))])
def x20(P:Params):Obj:=(.mk (.type "dict") none (.dict #[(en P "__module__" 214 (.str "pebbletoll.errors" 187)),(en P "__firstlineno__" 218 (.int 4 217)),(en P "__static_attributes__" 219 (.ref 35)),(en P "__doc__" 220 .none)] 2) #[])
def x21:Obj:=(.mk (.type "type") none (.cls (.mk "BadWeb" [(.ref 24)] [(.ref 37),(.ref 24),(.type "ValueError"),(.type "Exception"),(.type "BaseException"),(.type "object")] 36 "BadWeb" true [] [] false none false)) #[(some (.ref 28)),none,(some (.str "BadWeb" 207)),(some (.str "BadWeb" 215)),(some (.builtin "ValueError.__new__")),(some (.bool true))])
def x22:Obj:=(.mk (.type "super") none (.fields #[(.ref 37),(.ref 37),(.ref 37)]) #[])
def x23:Obj:=(.mk (.type "builtin_function_or_method") none (.fields #[(.builtin "object.__init_subclass__"),(.ref 37)]) #[])
def x24(P:Params):Obj:=(.mk (.type "dict") none (.dict #[(en P "__module__" 230 (.str "pebbletoll.errors" 187)),(en P "__qualname__" 232 (.str "NoPlace" 231)),(en P "__firstlineno__" 234 (.int 6 233)),(en P "__static_attributes__" 235 (.ref 47))] 4) #[])
def x25:Obj:=(cO "NoPlace" "NoPlace" 225 226 227 6 0 0 0 0 (.ref 43) false 181 (.ref 44) .none .none .none .none 228 6 229)
def x26:Obj:=(.mk (.type "frame") none .plain #[(some (.ref 45)),(some (.ref 3)),(some (.ref 42)),none,(some (.str "pebbletoll.errors" 187)),none,(some (.ref 0))])
def x27(P:Params):Obj:=(.mk (.type "dict") none (.dict #[(en P "__module__" 230 (.str "pebbletoll.errors" 187)),(en P "__firstlineno__" 234 (.int 6 233)),(en P "__static_attributes__" 235 (.ref 47)),(en P "__doc__" 236 .none)] 2) #[])
def x28:Obj:=(.mk (.type "type") none (.cls (.mk "NoPlace" [(.ref 24)] [(.ref 49),(.ref 24),(.type "ValueError"),(.type "Exception"),(.type "BaseException"),(.type "object")] 48 "NoPlace" true [] [] false none false)) #[(some (.ref 40)),none,(some (.str "NoPlace" 223)),(some (.str "NoPlace" 231)),(some (.builtin "ValueError.__new__")),(some (.bool true))])
def x29:Obj:=(.mk (.type "super") none (.fields #[(.ref 49),(.ref 49),(.ref 49)]) #[])
def x30:Obj:=(.mk (.type "builtin_function_or_method") none (.fields #[(.builtin "object.__init_subclass__"),(.ref 49)]) #[])
def x31(P:Params):Obj:=(.mk (.type "dict") none (.dict #[(en P "__module__" 246 (.str "pebbletoll.errors" 187)),(en P "__qualname__" 248 (.str "NoRoad" 247)),(en P "__firstlineno__" 250 (.int 8 249)),(en P "__static_attributes__" 251 (.ref 59))] 4) #[])
def x32:Obj:=(cO "NoRoad" "NoRoad" 241 242 243 8 0 0 0 0 (.ref 55) false 181 (.ref 56) .none .none .none .none 244 8 245)
def x33:Obj:=(.mk (.type "frame") none .plain #[(some (.ref 57)),(some (.ref 3)),(some (.ref 54)),none,(some (.str "pebbletoll.errors" 187)),none,(some (.ref 0))])
def x34(P:Params):Obj:=(.mk (.type "dict") none (.dict #[(en P "__module__" 246 (.str "pebbletoll.errors" 187)),(en P "__firstlineno__" 250 (.int 8 249)),(en P "__static_attributes__" 251 (.ref 59)),(en P "__doc__" 252 .none)] 2) #[])
def x35:Obj:=(.mk (.type "type") none (.cls (.mk "NoRoad" [(.ref 24)] [(.ref 61),(.ref 24),(.type "ValueError"),(.type "Exception"),(.type "BaseException"),(.type "object")] 60 "NoRoad" true [] [] false none false)) #[(some (.ref 52)),none,(some (.str "NoRoad" 239)),(some (.str "NoRoad" 247)),(some (.builtin "ValueError.__new__")),(some (.bool true))])
def x36:Obj:=(.mk (.type "super") none (.fields #[(.ref 61),(.ref 61),(.ref 61)]) #[])
def x37:Obj:=(.mk (.type "builtin_function_or_method") none (.fields #[(.builtin "object.__init_subclass__"),(.ref 61)]) #[])
def x38(P:Params):Obj:=(.mk (.type "dict") none (.dict #[(en P "__module__" 262 (.str "pebbletoll.errors" 187)),(en P "__qualname__" 264 (.str "BadLaying" 263)),(en P "__firstlineno__" 266 (.int 10 265)),(en P "__static_attributes__" 267 (.ref 71))] 4) #[])
def x39:Obj:=(cO "BadLaying" "BadLaying" 257 258 259 10 0 0 0 0 (.ref 67) false 181 (.ref 68) .none .none .none .none 260 10 261)
def x40:Obj:=(.mk (.type "frame") none .plain #[(some (.ref 69)),(some (.ref 3)),(some (.ref 66)),none,(some (.str "pebbletoll.errors" 187)),none,(some (.ref 0))])
def x41(P:Params):Obj:=(.mk (.type "dict") none (.dict #[(en P "__module__" 262 (.str "pebbletoll.errors" 187)),(en P "__firstlineno__" 266 (.int 10 265)),(en P "__static_attributes__" 267 (.ref 71)),(en P "__doc__" 268 .none)] 2) #[])
def x42:Obj:=(.mk (.type "type") none (.cls (.mk "BadLaying" [(.ref 24)] [(.ref 73),(.ref 24),(.type "ValueError"),(.type "Exception"),(.type "BaseException"),(.type "object")] 72 "BadLaying" true [] [] false none false)) #[(some (.ref 64)),none,(some (.str "BadLaying" 255)),(some (.str "BadLaying" 263)),(some (.builtin "ValueError.__new__")),(some (.bool true))])
def x43:Obj:=(.mk (.type "super") none (.fields #[(.ref 73),(.ref 73),(.ref 73)]) #[])
def x44:Obj:=(.mk (.type "builtin_function_or_method") none (.fields #[(.builtin "object.__init_subclass__"),(.ref 73)]) #[])
def x45(P:Params):Obj:=(.mk (.type "dict") none (.dict #[(en P "__module__" 278 (.str "pebbletoll.errors" 187)),(en P "__qualname__" 280 (.str "BadWish" 279)),(en P "__firstlineno__" 282 (.int 12 281)),(en P "__static_attributes__" 283 (.ref 83))] 4) #[])
def x46:Obj:=(cO "BadWish" "BadWish" 273 274 275 12 0 0 0 0 (.ref 79) false 181 (.ref 80) .none .none .none .none 276 12 277)
def x47:Obj:=(.mk (.type "frame") none .plain #[(some (.ref 81)),(some (.ref 3)),(some (.ref 78)),none,(some (.str "pebbletoll.errors" 187)),none,(some (.ref 0))])
def x48(P:Params):Obj:=(.mk (.type "dict") none (.dict #[(en P "__module__" 278 (.str "pebbletoll.errors" 187)),(en P "__firstlineno__" 282 (.int 12 281)),(en P "__static_attributes__" 283 (.ref 83)),(en P "__doc__" 284 .none)] 2) #[])
def x49:Obj:=(.mk (.type "type") none (.cls (.mk "BadWish" [(.ref 24)] [(.ref 85),(.ref 24),(.type "ValueError"),(.type "Exception"),(.type "BaseException"),(.type "object")] 84 "BadWish" true [] [] false none false)) #[(some (.ref 76)),none,(some (.str "BadWish" 271)),(some (.str "BadWish" 279)),(some (.builtin "ValueError.__new__")),(some (.bool true))])
def x50:Obj:=(.mk (.type "super") none (.fields #[(.ref 85),(.ref 85),(.ref 85)]) #[])
def x51:Obj:=(.mk (.type "builtin_function_or_method") none (.fields #[(.builtin "object.__init_subclass__"),(.ref 85)]) #[])
def x52(P:Params):Obj:=(.mk (.type "dict") none (.dict #[(en P "__module__" 294 (.str "pebbletoll.errors" 187)),(en P "__qualname__" 296 (.str "NoWorst" 295)),(en P "__firstlineno__" 298 (.int 14 297)),(en P "__static_attributes__" 299 (.ref 95))] 4) #[])
def x53:Obj:=(cO "NoWorst" "NoWorst" 289 290 291 14 0 0 0 0 (.ref 91) false 181 (.ref 92) .none .none .none .none 292 14 293)
def x54:Obj:=(.mk (.type "frame") none .plain #[(some (.ref 93)),(some (.ref 3)),(some (.ref 90)),none,(some (.str "pebbletoll.errors" 187)),none,(some (.ref 0))])
def x55(P:Params):Obj:=(.mk (.type "dict") none (.dict #[(en P "__module__" 294 (.str "pebbletoll.errors" 187)),(en P "__firstlineno__" 298 (.int 14 297)),(en P "__static_attributes__" 299 (.ref 95)),(en P "__doc__" 300 .none)] 2) #[])
def x56:Obj:=(.mk (.type "type") none (.cls (.mk "NoWorst" [(.ref 24)] [(.ref 97),(.ref 24),(.type "ValueError"),(.type "Exception"),(.type "BaseException"),(.type "object")] 96 "NoWorst" true [] [] false none false)) #[(some (.ref 88)),none,(some (.str "NoWorst" 287)),(some (.str "NoWorst" 295)),(some (.builtin "ValueError.__new__")),(some (.bool true))])
def x57:Obj:=(.mk (.type "super") none (.fields #[(.ref 97),(.ref 97),(.ref 97)]) #[])
def x58:Obj:=(.mk (.type "builtin_function_or_method") none (.fields #[(.builtin "object.__init_subclass__"),(.ref 97)]) #[])
def x59(P:Params):Obj:=(.mk (.type "dict") none (.dict #[(en P "__module__" 318 (.str "pebbletoll.webs" 303)),(en P "__qualname__" 320 (.str "Web" 319)),(en P "__firstlineno__" 322 (.int 20 321)),(en P "__init__" 328 (.ref 111)),(en P "__static_attributes__" 331 (.ref 112))] 5) #[])
def x60:Obj:=(.mk .none none (.fields #[(.int 22 0),(.int 4 0),(.ref 110)]) #[])
def x61:Obj:=(cO "Web" "Web" 313 314 315 20 0 0 0 0 (.ref 103) false 181 (.ref 104) .none .none .none .none 316 20 317)
def x62:Obj:=(.mk (.type "frame") none .plain #[(some (.ref 105)),(some (.ref 3)),(some (.ref 102)),none,(some (.str "pebbletoll.webs" 303)),none,(some (.ref 0))])
def x63:Obj:=(fR "__init__" "Web.__init__" (inC (top 12) 0))
def x64:Obj:=(cO "__init__" "Web.__init__" 323 324 325 22 3 0 0 3 (.ref 107) true 181 (.ref 108) .none .none .none (.ref 109) 326 22 327)
def x65:Obj:=(fO "__init__" "Web.__init__" (inC (top 12) 0) (.str "pebbletoll.webs" 303) (.ref 110))
def x66:Obj:=(tS 329 ["many","roads"])
def x67(P:Params):Obj:=(.mk (.type "dict") none (.dict #[(en P "__module__" 318 (.str "pebbletoll.webs" 303)),(en P "__firstlineno__" 322 (.int 20 321)),(en P "__init__" 328 (.ref 111)),(en P "__static_attributes__" 331 (.ref 112)),(en P "__dict__" 333 (.ref 115)),(en P "__weakref__" 335 (.ref 116)),(en P "__doc__" 336 .none)] 4) #[])
def x68:Obj:=(.mk (.type "type") none (.cls (.mk "Web" [(.type "object")] [(.ref 114),(.type "object")] 113 "Web" true [] [] false none false)) #[none,none,(some (.str "Web" 311)),(some (.str "Web" 319)),(some (.builtin "object.__new__")),(some (.bool true))])
def x69:Obj:=(.mk (.type "getset_descriptor") none (.fields #[(.str "__dict__" 332),(.ref 114),(.builtin "function.__dict__"),(.builtin "function.__dict__#set")]) #[])
def x70:Obj:=(.mk (.type "getset_descriptor") none (.fields #[(.str "__weakref__" 334),(.ref 114),(.builtin "ExceptionGroup.__weakref__"),.none]) #[])
def x71:Obj:=(.mk (.type "super") none (.fields #[(.ref 114),(.ref 114),(.ref 114)]) #[])
def x72:Obj:=(.mk (.type "builtin_function_or_method") none (.fields #[(.builtin "object.__init_subclass__"),(.ref 114)]) #[])
def x73:Obj:=(tS 342 ["web","a","b","one","other","there","back"])
def x74:Obj:=(fr "toll" (top 13))
def x75:Obj:=(cF "toll" 339 31 3 3 119 349)
def x76:Obj:=(fo "toll" (top 13) (.str "pebbletoll.webs" 303) (.ref 124))
def x77:Obj:=(tS 355 ["web","a"])
def x78:Obj:=(fr "neighbours" (top 14))
def x79:Obj:=(cF "neighbours" 352 40 2 3 126 357)
def x80:Obj:=(fo "neighbours" (top 14) (.str "pebbletoll.webs" 303) (.ref 131))
def x81:Obj:=(tS 363 ["web","number"])
def x82:Obj:=(fr "check_place" (top 15))
def x83:Obj:=(cF "check_place" 360 43 2 3 133 365)
def x84:Obj:=(fo "check_place" (top 15) (.str "pebbletoll.webs" 303) (.ref 138))
def x85:Obj:=(tS 371 ["many","number"])
def x86:Obj:=(fr "is_place" (top 16))
def x87:Obj:=(cF "is_place" 368 46 2 3 140 373)
def x88:Obj:=(fo "is_place" (top 16) (.str "pebbletoll.webs" 303) (.ref 145))
def x89:Obj:=(tS 379 ["many","roads"])
def x90:Obj:=(fr "check_counts" (top 17))
def x91:Obj:=(cF "check_counts" 376 48 2 3 147 381)
def x92:Obj:=(fo "check_counts" (top 17) (.str "pebbletoll.webs" 303) (.ref 152))
def x93:Obj:=(tS 387 ["many","road"])
def x94:Obj:=(fr "check_ends" (top 18))
def x95:Obj:=(cF "check_ends" 384 53 2 3 154 389)
def x96:Obj:=(fo "check_ends" (top 18) (.str "pebbletoll.webs" 303) (.ref 159))
def x97:Obj:=(tS 395 ["road","number"])
def x98:Obj:=(fr "check_tolls" (top 19))
def x99:Obj:=(cF "check_tolls" 392 58 1 3 161 397)
def MI:Obj:=(fo "check_tolls" (top 19) (.str "pebbletoll.webs" 303) (.ref 166))
def LW:Obj:=(tS 403 ["many","roads","reached","waiting","place","end"])
def P4:Obj:=(fr "check_joined" (top 20))
def Lm:Obj:=(cF "check_joined" 400 62 2 3 168 409)
def Ml:Obj:=(fo "check_joined" (top 20) (.str "pebbletoll.webs" 303) (.ref 173))
noncomputable def h0(P:Params):Heap:=.mk (.mk (boot_o_0 P::boot_o_1 P::boot_o_2 P::x4 P::boot_o_4 P::boot_o_5 P::boot_o_6 P::boot_o_7 P::boot_o_8 P::boot_o_9 P::boot_o_10 P::x0::x5::x2::x3::x6::x7::x8 P::x0::x1::x9::x10::x0::x11 P::x12::x13::x14::x15::Zb::x7::x17 P::x0::x1::x18::x19::x0::x20 P::x21::x22::x23::Zb::x7::x24 P::x0::x1::x25::x26::x0::x27 P::x28::x29::x30::Zb::x7::x31 P::x0::x1::x32::x33::x0::x34 P::x35::x36::x37::Zb::x7::x38 P::x0::x1::x39::x40::x0::x41 P::x42::x43::x44::Zb::x7::x45 P::x0::x1::x46::x47::x0::x48 P::x49::x50::x51::Zb::x7::x52 P::x0::x1::x53::x54::x0::x55 P::x56::x57::x58::x0::x7::x59 P::x0::x60::x61::x62::x0::x1::x63::x64::x65::x66::x67 P::x68::x69::x70::x71::x72::x0::x1::x73::x0::x74::x75::x76::x0::x1::x77::x0::x78::x79::x80::x0::x1::x81::x0::x82::x83::x84::x0::x1::x85::x0::x86::x87::x88::x0::x1::x89::x0::x90::x91::x92::x0::x1::x93::x0::x94::x95::x96::x0::x1::x97::x0::x98::x99::MI::x0::x1::LW::x0::P4::Lm::Ml::[])) (.mk [] [] [] 0 [] [] false #[] [] 0 false false false 0 [2000,10,10] false 0 true [] [] 0 false)
theorem YN(w:World)(os:OsState):segRun treeTable PySem.Challenge.pw_pebbletoll_k69_whole_told_otherwise w 11 (some (.ref 6)) 1 1978 (Shared.mk (hb w.params) (.mk []) (.mk 0 0 0 0) 187 os) (piecesOf st0 env cE (.mk 0 0 0 0) [topFrame (.mk 0 0 0 0)])=some (.next,(Shared.mk (h0 w.params) (.mk []) (.mk 0 0 0 0) 412 os),cE,(.mk 62 0 72 75)):=by kernel_rfl
def YS(P:Params):Obj:=(.mk (.type "dict") none (.dict #[(en P "__name__" 165 (.str "pebbletoll.worsts" 872)),(en P "__doc__" 166 .none),(en P "__package__" 167 .none),(en P "__loader__" 168 (.builtin "__main__.__loader__#opaque")),(en P "__spec__" 169 .none),(en P "__annotations__" 170 (.ref 6)),(en P "__builtins__" 171 (.ref 4)),(en P "__file__" 173 (.str "/claim/cut.py" 172)),(en P "__cached__" 174 .none),(en P "TollError" 206 (.ref 24)),(en P "BadWeb" 222 (.ref 37)),(en P "NoPlace" 238 (.ref 49)),(en P "NoRoad" 254 (.ref 61)),(en P "BadLaying" 270 (.ref 73)),(en P "BadWish" 286 (.ref 85)),(en P "NoWorst" 302 (.ref 97)),(en P "MOST_PLACES" 306 (.int 24 305)),(en P "LEAST_TOLL" 308 (.int 2 307)),(en P "MOST_TOLL" 310 (.int 1000000 309)),(en P "Web" 338 (.ref 114)),(en P "toll" 351 (.ref 125)),(en P "neighbours" 359 (.ref 132)),(en P "check_place" 367 (.ref 139)),(en P "is_place" 375 (.ref 146)),(en P "check_counts" 383 (.ref 153)),(en P "check_ends" 391 (.ref 160)),(en P "check_tolls" 399 (.ref 167)),(en P "check_joined" 411 (.ref 174)),(en P "other_ends" 421 (.ref 181)),(en P "laying_of" 431 (.ref 188)),(en P "is_filled" 437 (.ref 193)),(en P "total" 444 (.ref 200)),(en P "ahead" 459 (.ref 207)),(en P "down" 472 (.ref 214)),(en P "kids" 478 (.ref 219)),(en P "inward" 484 (.ref 224)),(en P "wish_of" 494 (.ref 231)),(en P "standings" 500 (.ref 236)),(en P "handed_on" 510 (.ref 243)),(en P "standing" 520 (.ref 250)),(en P "pile_need" 531 (.ref 257)),(en P "needs" 543 (.ref 264)),(en P "always" 551 (.ref 271)),(en P "fails" 557 (.ref 276)),(en P "is_idle" 565 (.ref 283)),(en P "failing" 574 (.ref 290)),(en P "Outlook" 604 (.ref 305)),(en P "idle_load" 613 (.ref 316)),(en P "idle_kids" 624 (.ref 323)),(en P "added" 630 (.ref 328)),(en P "greatest_load" 643 (.ref 335)),(en P "load_by" 655 (.ref 342)),(en P "gathered" 669 (.ref 349)),(en P "most" 678 (.ref 356)),(en P "borne" 690 (.ref 363)),(en P "bound_by" 703 (.ref 370)),(en P "check_wanted" 712 (.ref 377)),(en P "least_weights" 723 (.ref 384)),(en P "enough" 732 (.ref 391)),(en P "bearers" 744 (.ref 398)),(en P "is_heavy" 754 (.ref 405)),(en P "fraction" 765 (.ref 412)),(en P "common_divisor" 774 (.ref 419)),(en P "plus" 782 (.ref 426)),(en P "minus" 790 (.ref 433)),(en P "sum_up" 796 (.ref 438)),(en P "ONE" 801 (.ref 439)),(en P "even_shares" 807 (.ref 444)),(en P "even_share" 813 (.ref 449)),(en P "second_shares" 819 (.ref 454)),(en P "second_share" 825 (.ref 459)),(en P "road_part" 833 (.ref 466)),(en P "differences" 841 (.ref 471)),(en P "value_at" 853 (.ref 478)),(en P "first_values" 859 (.ref 483)),(en P "parted" 865 (.ref 488)),(en P "parted_at" 871 (.ref 493)),(en P "worst_many" 882 (.ref 500)),(en P "Tally" 914 (.ref 515))] 79) #[])
def YW:Obj:=(.mk .none none (.fields (tF [(2,20),(4,33),(6,45),(8,57),(10,69),(12,81),(14,93),(20,105),(31,124),(40,131),(43,138),(46,145),(48,152),(53,159),(58,166),(62,173),(73,180),(82,187),(86,192),(88,199),(91,206),(102,213),(112,218),(114,223),(118,230),(122,235),(129,242),(133,249),(136,256),(138,263),(143,270),(147,275),(152,282),(154,289),(156,296),(165,315),(169,322),(175,327),(177,334),(186,341),(191,348),(196,355),(199,362),(201,369),(207,376),(211,383),(216,390),(218,397),(225,404),(228,411),(233,418),(239,425),(241,432),(243,437),(250,443),(252,448),(255,453),(257,458),(260,465),(263,470),(270,477),(277,482),(279,487),(281,492),(284,499),(287,506)]).toArray) #[])
def SH:Obj:=(tS 415 ["roads","place","ends","road"])
def Xu:Obj:=(fr "other_ends" (top 21))
def Pw:Obj:=(cF "other_ends" 412 73 2 3 175 419)
def RA:Obj:=(fo "other_ends" (top 21) (.str "pebbletoll.webs" 303) (.ref 180))
def QC:Obj:=(tS 427 ["web","numbers"])
def WC:Obj:=(fr "laying_of" (top 23))
def QA:Obj:=(cF "laying_of" 424 82 2 3 182 429)
def RF:Obj:=(fo "laying_of" (top 23) (.str "pebbletoll.layings" 422) (.ref 187))
def X1:Obj:=(fr "is_filled" (top 24))
def RC:Obj:=(cO "is_filled" "is_filled" 432 433 434 86 2 0 0 3 (.ref 189) true 181 (.ref 190) .none .none .none (.ref 191) 435 86 436)
def Sr:Obj:=(fo "is_filled" (top 24) (.str "pebbletoll.layings" 422) (.ref 192))
def R8:Obj:=(tO #[(.str "numbers" 441)])
def Vz:Obj:=(fr "total" (top 25))
def QB:Obj:=(cF "total" 438 88 1 3 194 442)
def PJ:Obj:=(fo "total" (top 25) (.str "pebbletoll.layings" 422) (.ref 199))
def Q1:Obj:=(tS 450 ["web","r","nearer","waiting","place","front","kid"])
def Wd:Obj:=(fr "ahead" (top 27))
def QP:Obj:=(cF "ahead" 447 91 2 3 201 457)
def Rg:Obj:=(fo "ahead" (top 27) (.str "pebbletoll.ways" 445) (.ref 206))
def O7:Obj:=(tS 463 ["web","r","nearer","places","waiting","place","kid"])
def Wb:Obj:=(fr "down" (top 28))
def RR:Obj:=(cF "down" 460 102 2 3 208 470)
def QR:Obj:=(fo "down" (top 28) (.str "pebbletoll.ways" 445) (.ref 213))
def W4:Obj:=(fr "kids" (top 29))
def PD:Obj:=(cO "kids" "kids" 473 474 475 112 3 0 0 3 (.ref 215) true 181 (.ref 216) .none .none .none (.ref 217) 476 112 477)
def Rl:Obj:=(fo "kids" (top 29) (.str "pebbletoll.ways" 445) (.ref 218))
def Xw:Obj:=(fr "inward" (top 30))
def Rf:Obj:=(cO "inward" "inward" 479 480 481 114 2 0 0 3 (.ref 220) true 181 (.ref 221) .none .none .none (.ref 222) 482 114 483)
def RU:Obj:=(fo "inward" (top 30) (.str "pebbletoll.ways" 445) (.ref 223))
def S7:Obj:=(tS 490 ["web","numbers"])
def Wx:Obj:=(fr "wish_of" (top 32))
def PR:Obj:=(cF "wish_of" 487 118 2 3 225 492)
def QX:Obj:=(fo "wish_of" (top 32) (.str "pebbletoll.wishes" 485) (.ref 230))
def Vg:Obj:=(fr "standings" (top 33))
def Tg:Obj:=(cO "standings" "standings" 495 496 497 122 4 0 0 3 (.ref 232) true 181 (.ref 233) .none .none .none (.ref 234) 498 122 499)
def Ta:Obj:=(fo "standings" (top 33) (.str "pebbletoll.wishes" 485) (.ref 235))
def RY:Obj:=(tS 504 ["web","over","place","front"])
def VF:Obj:=(fr "handed_on" (top 34))
def P2:Obj:=(cF "handed_on" 501 129 4 3 237 508)
def Rr:Obj:=(fo "handed_on" (top 34) (.str "pebbletoll.wishes" 485) (.ref 242))
def RJ:Obj:=(tS 514 ["web","laying","wish","r"])
def X6:Obj:=(fr "standing" (top 35))
def Qc:Obj:=(cF "standing" 511 133 4 3 244 518)
def SX:Obj:=(fo "standing" (top 35) (.str "pebbletoll.wishes" 485) (.ref 249))
def Q3:Obj:=(tS 526 ["web","wish","v"])
def VN:Obj:=(fr "pile_need" (top 37))
def QF:Obj:=(cF "pile_need" 523 136 3 3 251 529)
def Rx:Obj:=(fo "pile_need" (top 37) (.str "pebbletoll.always" 521) (.ref 256))
def PU:Obj:=(tS 535 ["web","wish","r","found","place","front"])
def XH:Obj:=(fr "needs" (top 38))
def SN:Obj:=(cF "needs" 532 138 3 3 258 541)
def RZ:Obj:=(fo "needs" (top 38) (.str "pebbletoll.always" 521) (.ref 263))
def Rn:Obj:=(tS 547 ["web","wish"])
def WO:Obj:=(fr "always" (top 39))
def Qt:Obj:=(cF "always" 544 143 2 3 265 549)
def RV:Obj:=(fo "always" (top 39) (.str "pebbletoll.always" 521) (.ref 270))
def X8:Obj:=(fr "fails" (top 40))
def Rk:Obj:=(cO "fails" "fails" 552 553 554 147 2 0 0 3 (.ref 272) true 181 (.ref 273) .none .none .none (.ref 274) 555 147 556)
def Sx:Obj:=(fo "fails" (top 40) (.str "pebbletoll.always" 521) (.ref 275))
def Pj:Obj:=(tS 561 ["web","wish"])
def Vi:Obj:=(fr "is_idle" (top 41))
def O4:Obj:=(cF "is_idle" 558 152 2 3 277 563)
def RM:Obj:=(fo "is_idle" (top 41) (.str "pebbletoll.always" 521) (.ref 282))
def Ru:Obj:=(tS 569 ["web","wish","r"])
def Ws:Obj:=(fr "failing" (top 42))
def RH:Obj:=(cF "failing" 566 154 3 3 284 572)
def QV:Obj:=(fo "failing" (top 42) (.str "pebbletoll.always" 521) (.ref 289))
def Wv(P:Params):Obj:=(.mk (.type "dict") none (.dict #[(en P "__module__" 582 (.str "pebbletoll.always" 521)),(en P "__qualname__" 584 (.str "Outlook" 583)),(en P "__firstlineno__" 586 (.int 156 585)),(en P "__init__" 592 (.ref 302)),(en P "__static_attributes__" 597 (.ref 303))] 5) #[])
def Wi:Obj:=(.mk .none none (.fields #[(.int 158 0),(.int 4 0),(.ref 301)]) #[])
def W5:Obj:=(cO "Outlook" "Outlook" 577 578 579 156 0 0 0 0 (.ref 294) false 181 (.ref 295) .none .none .none .none 580 156 581)
def VL:Obj:=(.mk (.type "frame") none .plain #[(some (.ref 296)),(some (.ref 3)),(some (.ref 293)),none,(some (.str "pebbletoll.always" 521)),none,(some (.ref 0))])
def Wa:Obj:=(fR "__init__" "Outlook.__init__" (inC (top 43) 0))
def Qb:Obj:=(cO "__init__" "Outlook.__init__" 587 588 589 158 4 0 0 3 (.ref 298) true 181 (.ref 299) .none .none .none (.ref 300) 590 158 591)
def Sd:Obj:=(fO "__init__" "Outlook.__init__" (inC (top 43) 0) (.str "pebbletoll.always" 521) (.ref 301))
def Q7:Obj:=(tS 593 ["idle","kids","needs","web"])
def QN(P:Params):Obj:=(.mk (.type "dict") none (.dict #[(en P "__module__" 582 (.str "pebbletoll.always" 521)),(en P "__firstlineno__" 586 (.int 156 585)),(en P "__init__" 592 (.ref 302)),(en P "__static_attributes__" 597 (.ref 303)),(en P "__dict__" 599 (.ref 306)),(en P "__weakref__" 601 (.ref 307)),(en P "__doc__" 602 .none)] 4) #[])
def Py:Obj:=(.mk (.type "type") none (.cls (.mk "Outlook" [(.type "object")] [(.ref 305),(.type "object")] 304 "Outlook" true [] [] false none false)) #[none,none,(some (.str "Outlook" 575)),(some (.str "Outlook" 583)),(some (.builtin "object.__new__")),(some (.bool true))])
def Q0:Obj:=(.mk (.type "getset_descriptor") none (.fields #[(.str "__dict__" 598),(.ref 305),(.builtin "function.__dict__"),(.builtin "function.__dict__#set")]) #[])
def RB:Obj:=(.mk (.type "getset_descriptor") none (.fields #[(.str "__weakref__" 600),(.ref 305),(.builtin "ExceptionGroup.__weakref__"),.none]) #[])
def Xm:Obj:=(.mk (.type "super") none (.fields #[(.ref 305),(.ref 305),(.ref 305)]) #[])
def Xh:Obj:=(.mk (.type "builtin_function_or_method") none (.fields #[(.builtin "object.__init_subclass__"),(.ref 305)]) #[])
def QL:Obj:=(tS 608 ["outlook","place","front"])
def Vh:Obj:=(fr "idle_load" (top 44))
def PX:Obj:=(cF "idle_load" 605 165 3 3 310 611)
def S5:Obj:=(fo "idle_load" (top 44) (.str "pebbletoll.always" 521) (.ref 315))
def Ql:Obj:=(tS 617 ["outlook","place","left_out","load","kid"])
def WW:Obj:=(fr "idle_kids" (top 45))
def SS:Obj:=(cF "idle_kids" 614 169 3 3 317 622)
def Tc:Obj:=(fo "idle_kids" (top 45) (.str "pebbletoll.always" 521) (.ref 322))
def Wg:Obj:=(fr "added" (top 46))
def Pe:Obj:=(cO "added" "added" 625 626 627 175 2 0 0 3 (.ref 324) true 181 (.ref 325) .none .none .none (.ref 326) 628 175 629)
def Sv:Obj:=(fo "added" (top 46) (.str "pebbletoll.always" 521) (.ref 327))
def Ra:Obj:=(tS 634 ["outlook","place","over","room","best","kid","load"])
def WG:Obj:=(fr "greatest_load" (top 47))
def QG:Obj:=(cF "greatest_load" 631 177 3 3 329 641)
def Se:Obj:=(fo "greatest_load" (top 47) (.str "pebbletoll.always" 521) (.ref 334))
def Tq:Obj:=(tS 647 ["outlook","place","kid","room","given","over"])
def Vv:Obj:=(fr "load_by" (top 48))
def Qh:Obj:=(cF "load_by" 644 186 4 3 336 653)
def SF:Obj:=(fo "load_by" (top 48) (.str "pebbletoll.always" 521) (.ref 341))
def QT:Obj:=(tS 661 ["web","laying","r","counts","place","front"])
def Vw:Obj:=(fr "gathered" (top 50))
def OZ:Obj:=(cF "gathered" 658 191 3 3 343 667)
def RO:Obj:=(fo "gathered" (top 50) (.str "pebbletoll.bringing" 656) (.ref 348))
def PF:Obj:=(tS 673 ["web","laying","r"])
def VQ:Obj:=(fr "most" (top 51))
def SI:Obj:=(cF "most" 670 196 3 3 350 676)
def Rq:Obj:=(fo "most" (top 51) (.str "pebbletoll.bringing" 656) (.ref 355))
def SB:Obj:=(tS 684 ["web","weights","place","front"])
def Yb:Obj:=(fr "borne" (top 53))
def Qm:Obj:=(cF "borne" 681 199 4 3 357 688)
def SQ:Obj:=(fo "borne" (top 53) (.str "pebbletoll.enough" 679) (.ref 362))
def Sy:Obj:=(tS 694 ["web","r","wanted","weights","bound","place","front"])
def WB:Obj:=(fr "bound_by" (top 54))
def Pt:Obj:=(cF "bound_by" 691 201 4 3 364 701)
def Pm:Obj:=(fo "bound_by" (top 54) (.str "pebbletoll.enough" 679) (.ref 369))
def RI:Obj:=(tS 707 ["web","r","wanted"])
def WY:Obj:=(fr "check_wanted" (top 55))
def O6:Obj:=(cF "check_wanted" 704 207 3 3 371 710)
def Pc:Obj:=(fo "check_wanted" (top 55) (.str "pebbletoll.enough" 679) (.ref 376))
def SK:Obj:=(tS 716 ["web","r","weights","place","front"])
def Vl:Obj:=(fr "least_weights" (top 56))
def To:Obj:=(cF "least_weights" 713 211 2 3 378 721)
def O0:Obj:=(fo "least_weights" (top 56) (.str "pebbletoll.enough" 679) (.ref 383))
def Q6:Obj:=(tS 727 ["web","r","wanted"])
def VH:Obj:=(fr "enough" (top 57))
def RK:Obj:=(cF "enough" 724 216 3 3 385 730)
def Qy:Obj:=(fo "enough" (top 57) (.str "pebbletoll.enough" 679) (.ref 390))
def SV:Obj:=(tS 736 ["web","r","weights","chosen","place","front"])
def Wt:Obj:=(fr "bearers" (top 58))
def Tp:Obj:=(cF "bearers" 733 218 2 3 392 742)
def SA:Obj:=(fo "bearers" (top 58) (.str "pebbletoll.enough" 679) (.ref 397))
def R6:Obj:=(tS 748 ["web","weights","place","front"])
def Wq:Obj:=(fr "is_heavy" (top 59))
def SY:Obj:=(cF "is_heavy" 745 225 4 3 399 752)
def Ps:Obj:=(fo "is_heavy" (top 59) (.str "pebbletoll.enough" 679) (.ref 404))
def S9:Obj:=(tS 760 ["top","bottom","common"])
def Xr:Obj:=(fr "fraction" (top 61))
def Pf:Obj:=(cF "fraction" 757 228 2 3 406 763)
def Rm:Obj:=(fo "fraction" (top 61) (.str "pebbletoll.fractions" 755) (.ref 411))
def Qe:Obj:=(tS 769 ["one","two","rest"])
def Wk:Obj:=(fr "common_divisor" (top 62))
def SE:Obj:=(cF "common_divisor" 766 233 2 3 413 772)
def Sb:Obj:=(fo "common_divisor" (top 62) (.str "pebbletoll.fractions" 755) (.ref 418))
def O3:Obj:=(tS 778 ["one","two"])
def Vt:Obj:=(fr "plus" (top 63))
def Qi:Obj:=(cF "plus" 775 239 2 3 420 780)
def SC:Obj:=(fo "plus" (top 63) (.str "pebbletoll.fractions" 755) (.ref 425))
def RS:Obj:=(tS 786 ["one","two"])
def WD:Obj:=(fr "minus" (top 64))
def Sn:Obj:=(cF "minus" 783 241 2 3 427 788)
def OQ:Obj:=(fo "minus" (top 64) (.str "pebbletoll.fractions" 755) (.ref 432))
def XR:Obj:=(fr "sum_up" (top 65))
def Tk:Obj:=(cO "sum_up" "sum_up" 791 792 793 243 1 0 0 3 (.ref 434) true 181 (.ref 435) .none .none .none (.ref 436) 794 243 795)
def Tl:Obj:=(fo "sum_up" (top 65) (.str "pebbletoll.fractions" 755) (.ref 437))
def Qz:Obj:=(tO #[(.int 1 799),(.int 1 800)])
def Xj:Obj:=(fr "even_shares" (top 68))
def QD:Obj:=(cO "even_shares" "even_shares" 802 803 804 250 1 0 0 3 (.ref 440) true 181 (.ref 441) .none .none .none (.ref 442) 805 250 806)
def RG:Obj:=(fo "even_shares" (top 68) (.str "pebbletoll.shares" 797) (.ref 443))
def VC:Obj:=(fr "even_share" (top 69))
def Rv:Obj:=(cO "even_share" "even_share" 808 809 810 252 2 0 0 3 (.ref 445) true 181 (.ref 446) .none .none .none (.ref 447) 811 252 812)
def Qp:Obj:=(fo "even_share" (top 69) (.str "pebbletoll.shares" 797) (.ref 448))
def Wm:Obj:=(fr "second_shares" (top 70))
def Sk:Obj:=(cO "second_shares" "second_shares" 814 815 816 255 1 0 0 3 (.ref 450) true 181 (.ref 451) .none .none .none (.ref 452) 817 255 818)
def Pq:Obj:=(fo "second_shares" (top 70) (.str "pebbletoll.shares" 797) (.ref 453))
def XI:Obj:=(fr "second_share" (top 71))
def RN:Obj:=(cO "second_share" "second_share" 820 821 822 257 2 0 0 3 (.ref 455) true 181 (.ref 456) .none .none .none (.ref 457) 823 257 824)
def Re:Obj:=(fo "second_share" (top 71) (.str "pebbletoll.shares" 797) (.ref 458))
def Pn:Obj:=(tS 829 ["one","other"])
def W7:Obj:=(fr "road_part" (top 72))
def Qw:Obj:=(cF "road_part" 826 260 2 3 460 831)
def Qj:Obj:=(fo "road_part" (top 72) (.str "pebbletoll.shares" 797) (.ref 465))
def VG:Obj:=(fr "differences" (top 74))
def PM:Obj:=(cO "differences" "differences" 836 837 838 263 1 0 0 3 (.ref 467) true 181 (.ref 468) .none .none .none (.ref 469) 839 263 840)
def SM:Obj:=(fo "differences" (top 74) (.str "pebbletoll.polynomials" 834) (.ref 470))
def Ry:Obj:=(tS 845 ["found","at","value","choices","k","difference"])
def WQ:Obj:=(fr "value_at" (top 75))
def Qr:Obj:=(cF "value_at" 842 270 2 3 472 851)
def Pp:Obj:=(fo "value_at" (top 75) (.str "pebbletoll.polynomials" 834) (.ref 477))
def VB:Obj:=(fr "first_values" (top 76))
def QK:Obj:=(cO "first_values" "first_values" 854 855 856 277 2 0 0 3 (.ref 479) true 181 (.ref 480) .none .none .none (.ref 481) 857 277 858)
def RT:Obj:=(fo "first_values" (top 76) (.str "pebbletoll.polynomials" 834) (.ref 482))
def VU:Obj:=(fr "parted" (top 77))
def RE:Obj:=(cO "parted" "parted" 860 861 862 279 2 0 0 3 (.ref 484) true 181 (.ref 485) .none .none .none (.ref 486) 863 279 864)
def PV:Obj:=(fo "parted" (top 77) (.str "pebbletoll.polynomials" 834) (.ref 487))
def V0:Obj:=(fr "parted_at" (top 78))
def Tj:Obj:=(cO "parted_at" "parted_at" 866 867 868 281 3 0 0 3 (.ref 489) true 181 (.ref 490) .none .none .none (.ref 491) 869 281 870)
def PN:Obj:=(fo "parted_at" (top 78) (.str "pebbletoll.polynomials" 834) (.ref 492))
def SD:Obj:=(tS 877 ["web","r","wanted"])
def XC:Obj:=(fr "worst_many" (top 80))
def P5:Obj:=(cF "worst_many" 874 284 3 3 494 880)
def R9:Obj:=(fo "worst_many" (top 80) (.str "pebbletoll.worsts" 872) (.ref 499))
def Xi(P:Params):Obj:=(.mk (.type "dict") none (.dict #[(en P "__module__" 890 (.str "pebbletoll.worsts" 872)),(en P "__qualname__" 892 (.str "Tally" 891)),(en P "__firstlineno__" 894 (.int 287 893)),(en P "__init__" 900 (.ref 512)),(en P "__static_attributes__" 907 (.ref 513))] 5) #[])
def W8:Obj:=(.mk .none none (.fields #[(.int 289 0),(.int 4 0),(.ref 511)]) #[])
def Vn:Obj:=(cO "Tally" "Tally" 885 886 887 287 0 0 0 0 (.ref 504) false 181 (.ref 505) .none .none .none .none 888 287 889)
def XV:Obj:=(.mk (.type "frame") none .plain #[(some (.ref 506)),(some (.ref 3)),(some (.ref 503)),none,(some (.str "pebbletoll.worsts" 872)),none,(some (.ref 0))])
def WS:Obj:=(fR "__init__" "Tally.__init__" (inC (top 81) 0))
def Qn:Obj:=(cO "__init__" "Tally.__init__" 895 896 897 289 3 0 0 3 (.ref 508) true 181 (.ref 509) .none .none .none (.ref 510) 898 289 899)
def Q4:Obj:=(fO "__init__" "Tally.__init__" (inC (top 81) 0) (.str "pebbletoll.worsts" 872) (.ref 511))
def RD:Obj:=(tS 901 ["bearers","down","kids","rests","web","weights"])
def Qq(P:Params):Obj:=(.mk (.type "dict") none (.dict #[(en P "__module__" 890 (.str "pebbletoll.worsts" 872)),(en P "__firstlineno__" 894 (.int 287 893)),(en P "__init__" 900 (.ref 512)),(en P "__static_attributes__" 907 (.ref 513)),(en P "__dict__" 909 (.ref 516)),(en P "__weakref__" 911 (.ref 517)),(en P "__doc__" 912 .none)] 4) #[])
def Sl:Obj:=(.mk (.type "type") none (.cls (.mk "Tally" [(.type "object")] [(.ref 515),(.type "object")] 514 "Tally" true [] [] false none false)) #[none,none,(some (.str "Tally" 883)),(some (.str "Tally" 891)),(some (.builtin "object.__new__")),(some (.bool true))])
def P7:Obj:=(.mk (.type "getset_descriptor") none (.fields #[(.str "__dict__" 908),(.ref 515),(.builtin "function.__dict__"),(.builtin "function.__dict__#set")]) #[])
def Rz:Obj:=(.mk (.type "getset_descriptor") none (.fields #[(.str "__weakref__" 910),(.ref 515),(.builtin "ExceptionGroup.__weakref__"),.none]) #[])
def WI:Obj:=(.mk (.type "super") none (.fields #[(.ref 515),(.ref 515),(.ref 515)]) #[])
def Xv:Obj:=(.mk (.type "builtin_function_or_method") none (.fields #[(.builtin "object.__init_subclass__"),(.ref 515)]) #[])
noncomputable def h1(P:Params):Heap:=.mk (.mk (boot_o_0 P::boot_o_1 P::boot_o_2 P::YS P::boot_o_4 P::boot_o_5 P::boot_o_6 P::boot_o_7 P::boot_o_8 P::boot_o_9 P::boot_o_10 P::x0::YW::x2::x3::x6::x7::x8 P::x0::x1::x9::x10::x0::x11 P::x12::x13::x14::x15::Zb::x7::x17 P::x0::x1::x18::x19::x0::x20 P::x21::x22::x23::Zb::x7::x24 P::x0::x1::x25::x26::x0::x27 P::x28::x29::x30::Zb::x7::x31 P::x0::x1::x32::x33::x0::x34 P::x35::x36::x37::Zb::x7::x38 P::x0::x1::x39::x40::x0::x41 P::x42::x43::x44::Zb::x7::x45 P::x0::x1::x46::x47::x0::x48 P::x49::x50::x51::Zb::x7::x52 P::x0::x1::x53::x54::x0::x55 P::x56::x57::x58::x0::x7::x59 P::x0::x60::x61::x62::x0::x1::x63::x64::x65::x66::x67 P::x68::x69::x70::x71::x72::x0::x1::x73::x0::x74::x75::x76::x0::x1::x77::x0::x78::x79::x80::x0::x1::x81::x0::x82::x83::x84::x0::x1::x85::x0::x86::x87::x88::x0::x1::x89::x0::x90::x91::x92::x0::x1::x93::x0::x94::x95::x96::x0::x1::x97::x0::x98::x99::MI::x0::x1::LW::x0::P4::Lm::Ml::x0::x1::SH::x0::Xu::Pw::RA::x0::x1::QC::x0::WC::QA::RF::x0::x1::X1::RC::Sr::x0::x1::R8::x0::Vz::QB::PJ::x0::x1::Q1::x0::Wd::QP::Rg::x0::x1::O7::x0::Wb::RR::QR::x0::x1::W4::PD::Rl::x0::x1::Xw::Rf::RU::x0::x1::S7::x0::Wx::PR::QX::x0::x1::Vg::Tg::Ta::x0::x1::RY::x0::VF::P2::Rr::x0::x1::RJ::x0::X6::Qc::SX::x0::x1::Q3::x0::VN::QF::Rx::x0::x1::PU::x0::XH::SN::RZ::x0::x1::Rn::x0::WO::Qt::RV::x0::x1::X8::Rk::Sx::x0::x1::Pj::x0::Vi::O4::RM::x0::x1::Ru::x0::Ws::RH::QV::x0::x7::Wv P::x0::Wi::W5::VL::x0::x1::Wa::Qb::Sd::Q7::QN P::Py::Q0::RB::Xm::Xh::x0::x1::QL::x0::Vh::PX::S5::x0::x1::Ql::x0::WW::SS::Tc::x0::x1::Wg::Pe::Sv::x0::x1::Ra::x0::WG::QG::Se::x0::x1::Tq::x0::Vv::Qh::SF::x0::x1::QT::x0::Vw::OZ::RO::x0::x1::PF::x0::VQ::SI::Rq::x0::x1::SB::x0::Yb::Qm::SQ::x0::x1::Sy::x0::WB::Pt::Pm::x0::x1::RI::x0::WY::O6::Pc::x0::x1::SK::x0::Vl::To::O0::x0::x1::Q6::x0::VH::RK::Qy::x0::x1::SV::x0::Wt::Tp::SA::x0::x1::R6::x0::Wq::SY::Ps::x0::x1::S9::x0::Xr::Pf::Rm::x0::x1::Qe::x0::Wk::SE::Sb::x0::x1::O3::x0::Vt::Qi::SC::x0::x1::RS::x0::WD::Sn::OQ::x0::x1::XR::Tk::Tl::Qz::x0::x1::Xj::QD::RG::x0::x1::VC::Rv::Qp::x0::x1::Wm::Sk::Pq::x0::x1::XI::RN::Re::x0::x1::Pn::x0::W7::Qw::Qj::x0::x1::VG::PM::SM::x0::x1::Ry::x0::WQ::Qr::Pp::x0::x1::VB::QK::RT::x0::x1::VU::RE::PV::x0::x1::V0::Tj::PN::x0::x1::SD::x0::XC::P5::R9::x0::x7::Xi P::x0::W8::Vn::XV::x0::x1::WS::Qn::Q4::RD::Qq P::Sl::P7::Rz::WI::Xv::[])) (.mk [] [] [] 0 [] [] false #[] [] 0 false false false 0 [2000,10,10] false 0 true [] [] 0 false)
theorem YT(w:World)(os:OsState):segRun treeTable PySem.Challenge.pw_pebbletoll_k69_whole_told_otherwise w 11 (some (.ref 6)) 1 1991 (Shared.mk (h0 w.params) (.mk []) (.mk 0 0 0 0) 412 os) (piecesOf st1 env cE (.mk 62 0 72 75) [topFrame (.mk 0 0 0 0)])=some (.next,(Shared.mk (h1 w.params) (.mk []) (.mk 0 0 0 0) 915 os),cE,(.mk 287 0 297 53)):=by kernel_rfl
def WL(P:Params):Obj:=(.mk (.type "dict") none (.dict #[(en P "__name__" 165 (.str "law_pebbletoll_k69_whole_told_otherwise" 959)),(en P "__doc__" 166 .none),(en P "__package__" 167 .none),(en P "__loader__" 168 (.builtin "__main__.__loader__#opaque")),(en P "__spec__" 169 .none),(en P "__annotations__" 170 (.ref 6)),(en P "__builtins__" 171 (.ref 4)),(en P "__file__" 173 (.str "/claim/cut.py" 172)),(en P "__cached__" 174 .none),(en P "TollError" 206 (.ref 24)),(en P "BadWeb" 222 (.ref 37)),(en P "NoPlace" 238 (.ref 49)),(en P "NoRoad" 254 (.ref 61)),(en P "BadLaying" 270 (.ref 73)),(en P "BadWish" 286 (.ref 85)),(en P "NoWorst" 302 (.ref 97)),(en P "MOST_PLACES" 306 (.int 24 305)),(en P "LEAST_TOLL" 308 (.int 2 307)),(en P "MOST_TOLL" 310 (.int 1000000 309)),(en P "Web" 338 (.ref 114)),(en P "toll" 351 (.ref 125)),(en P "neighbours" 359 (.ref 132)),(en P "check_place" 367 (.ref 139)),(en P "is_place" 375 (.ref 146)),(en P "check_counts" 383 (.ref 153)),(en P "check_ends" 391 (.ref 160)),(en P "check_tolls" 399 (.ref 167)),(en P "check_joined" 411 (.ref 174)),(en P "other_ends" 421 (.ref 181)),(en P "laying_of" 431 (.ref 188)),(en P "is_filled" 437 (.ref 193)),(en P "total" 444 (.ref 200)),(en P "ahead" 459 (.ref 207)),(en P "down" 472 (.ref 214)),(en P "kids" 478 (.ref 219)),(en P "inward" 484 (.ref 224)),(en P "wish_of" 494 (.ref 231)),(en P "standings" 500 (.ref 236)),(en P "handed_on" 510 (.ref 243)),(en P "standing" 520 (.ref 250)),(en P "pile_need" 531 (.ref 257)),(en P "needs" 543 (.ref 264)),(en P "always" 551 (.ref 271)),(en P "fails" 557 (.ref 276)),(en P "is_idle" 565 (.ref 283)),(en P "failing" 574 (.ref 290)),(en P "Outlook" 604 (.ref 305)),(en P "idle_load" 613 (.ref 316)),(en P "idle_kids" 624 (.ref 323)),(en P "added" 630 (.ref 328)),(en P "greatest_load" 643 (.ref 335)),(en P "load_by" 655 (.ref 342)),(en P "gathered" 669 (.ref 349)),(en P "most" 678 (.ref 356)),(en P "borne" 690 (.ref 363)),(en P "bound_by" 703 (.ref 370)),(en P "check_wanted" 712 (.ref 377)),(en P "least_weights" 723 (.ref 384)),(en P "enough" 732 (.ref 391)),(en P "bearers" 744 (.ref 398)),(en P "is_heavy" 754 (.ref 405)),(en P "fraction" 765 (.ref 412)),(en P "common_divisor" 774 (.ref 419)),(en P "plus" 782 (.ref 426)),(en P "minus" 790 (.ref 433)),(en P "sum_up" 796 (.ref 438)),(en P "ONE" 801 (.ref 439)),(en P "even_shares" 807 (.ref 444)),(en P "even_share" 813 (.ref 449)),(en P "second_shares" 819 (.ref 454)),(en P "second_share" 825 (.ref 459)),(en P "road_part" 833 (.ref 466)),(en P "differences" 841 (.ref 471)),(en P "value_at" 853 (.ref 478)),(en P "first_values" 859 (.ref 483)),(en P "parted" 865 (.ref 488)),(en P "parted_at" 871 (.ref 493)),(en P "worst_many" 882 (.ref 500)),(en P "Tally" 914 (.ref 515)),(en P "rests_of" 920 (.ref 524)),(en P "is_free" 929 (.ref 531)),(en P "ways_of" 938 (.ref 538)),(en P "ways_given" 948 (.ref 545)),(en P "held_for" 958 (.ref 552)),(en P "_law_drawn" 971 (.ref 559)),(en P "_law_toll" 978 (.ref 566)),(en P "_law_roads" 993 (.ref 573)),(en P "_law_bound" 1001 (.ref 580)),(en P "_law_laying" 1013 (.ref 587)),(en P "_law_wish" 1025 (.ref 594)),(en P "_law_order" 1035 (.ref 601)),(en P "_law_put" 1046 (.ref 608)),(en P "_law_all_told" 1058 (.ref 615)),(en P "law" 1064 (.ref 620))] 94) #[])
def Y0:Obj:=(.mk .none none (.fields (tF [(2,20),(4,33),(6,45),(8,57),(10,69),(12,81),(14,93),(20,105),(31,124),(40,131),(43,138),(46,145),(48,152),(53,159),(58,166),(62,173),(73,180),(82,187),(86,192),(88,199),(91,206),(102,213),(112,218),(114,223),(118,230),(122,235),(129,242),(133,249),(136,256),(138,263),(143,270),(147,275),(152,282),(154,289),(156,296),(165,315),(169,322),(175,327),(177,334),(186,341),(191,348),(196,355),(199,362),(201,369),(207,376),(211,383),(216,390),(218,397),(225,404),(228,411),(233,418),(239,425),(241,432),(243,437),(250,443),(252,448),(255,453),(257,458),(260,465),(263,470),(270,477),(277,482),(279,487),(281,492),(284,499),(287,506),(298,523),(310,530),(312,537),(314,544),(316,551),(319,558),(328,565),(332,572),(347,579),(350,586),(357,593),(364,600),(370,607),(375,614),(379,619)]).toArray) #[])
def Y1:Obj:=(fr "rests_of" (top 82))
def X3:Obj:=(cO "rests_of" "rests_of" 915 916 917 298 2 0 0 3 (.ref 520) true 181 (.ref 521) .none .none .none (.ref 522) 918 298 919)
def X7:Obj:=(fo "rests_of" (top 82) (.str "pebbletoll.worsts" 872) (.ref 523))
def VT:Obj:=(tS 924 ["tally","place","kid"])
def YQ:Obj:=(fr "is_free" (top 83))
def XJ:Obj:=(cF "is_free" 921 310 3 3 525 927)
def XE:Obj:=(fo "is_free" (top 83) (.str "pebbletoll.worsts" 872) (.ref 530))
def Vs:Obj:=(tS 933 ["tally","place","held"])
def YV:Obj:=(fr "ways_of" (top 84))
def W9:Obj:=(cF "ways_of" 930 312 3 3 532 936)
def VM:Obj:=(fo "ways_of" (top 84) (.str "pebbletoll.worsts" 872) (.ref 537))
def Xy:Obj:=(tS 942 ["tally","place","kid","given"])
def YU:Obj:=(fr "ways_given" (top 85))
def XT:Obj:=(cF "ways_given" 939 314 4 3 539 946)
def Xn:Obj:=(fo "ways_given" (top 85) (.str "pebbletoll.worsts" 872) (.ref 544))
def Wl:Obj:=(tS 952 ["tally","place","kid","given"])
def YX:Obj:=(fr "held_for" (top 86))
def V6:Obj:=(cF "held_for" 949 316 4 3 546 956)
def VY:Obj:=(fo "held_for" (top 86) (.str "pebbletoll.worsts" 872) (.ref 551))
def Yd:Obj:=(tS 964 ["script","k","cell","near","far"])
def YJ:Obj:=(fr "_law_drawn" (top 88))
def Vr:Obj:=(cF "_law_drawn" 961 319 2 3 553 969)
def VX:Obj:=(fo "_law_drawn" (top 88) (.str "law_pebbletoll_k69_whole_told_otherwise" 959) (.ref 558))
def Xk:Obj:=(tO #[(.str "part" 975)])
def YH:Obj:=(fr "_law_toll" (top 89))
def WE:Obj:=(cF "_law_toll" 972 328 1 3 560 976)
def We:Obj:=(fo "_law_toll" (top 89) (.str "law_pebbletoll_k69_whole_told_otherwise" 959) (.ref 565))
def XX:Obj:=(tS 982 ["script","many","shape","roads","k","part","to","there","back"])
def YG:Obj:=(fr "_law_roads" (top 90))
def Xl:Obj:=(cF "_law_roads" 979 332 3 3 567 991)
def Xb:Obj:=(fo "_law_roads" (top 90) (.str "law_pebbletoll_k69_whole_told_otherwise" 959) (.ref 572))
def V7:Obj:=(tS 997 ["script","head"])
def YE:Obj:=(fr "_law_bound" (top 91))
def Wu:Obj:=(cF "_law_bound" 994 347 1 3 574 999)
def W6:Obj:=(fo "_law_bound" (top 91) (.str "law_pebbletoll_k69_whole_told_otherwise" 959) (.ref 579))
def VD:Obj:=(tS 1005 ["script","many","bound","laying","k","place"])
def YA:Obj:=(fr "_law_laying" (top 92))
def WF:Obj:=(cF "_law_laying" 1002 350 3 3 581 1011)
def WJ:Obj:=(fo "_law_laying" (top 92) (.str "law_pebbletoll_k69_whole_told_otherwise" 959) (.ref 586))
def Vy:Obj:=(tS 1017 ["script","many","bound","wish","k","place"])
def YR:Obj:=(fr "_law_wish" (top 93))
def V3:Obj:=(cF "_law_wish" 1014 357 3 3 588 1023)
def XG:Obj:=(fo "_law_wish" (top 93) (.str "law_pebbletoll_k69_whole_told_otherwise" 959) (.ref 593))
def Vo:Obj:=(tS 1029 ["cell","many","order","place"])
def YO:Obj:=(fr "_law_order" (top 94))
def WR:Obj:=(cF "_law_order" 1026 364 2 3 595 1033)
def XS:Obj:=(fo "_law_order" (top 94) (.str "law_pebbletoll_k69_whole_told_otherwise" 959) (.ref 600))
def Yc:Obj:=(tS 1039 ["numbers","order","told","place","number"])
def YB:Obj:=(fr "_law_put" (top 95))
def Wr:Obj:=(cF "_law_put" 1036 370 2 3 602 1044)
def VS:Obj:=(fo "_law_put" (top 95) (.str "law_pebbletoll_k69_whole_told_otherwise" 959) (.ref 607))
def Vk:Obj:=(tS 1050 ["web","laying","wish","r","told","wanted"])
def YZ:Obj:=(fr "_law_all_told" (top 96))
def XU:Obj:=(cF "_law_all_told" 1047 375 4 3 609 1056)
def VO:Obj:=(fo "_law_all_told" (top 96) (.str "law_pebbletoll_k69_whole_told_otherwise" 959) (.ref 614))
def YL:Obj:=(fr "law" (top 97))
def Xe:Obj:=(cO "law" "law" 1059 1060 1061 379 1 0 0 3 (.ref 616) true 181 (.ref 617) .none .none .none (.ref 618) 1062 379 1063)
def V8:Obj:=(fo "law" (top 97) (.str "law_pebbletoll_k69_whole_told_otherwise" 959) (.ref 619))
noncomputable def h2(P:Params):Heap:=.mk (.mk (boot_o_0 P::boot_o_1 P::boot_o_2 P::WL P::boot_o_4 P::boot_o_5 P::boot_o_6 P::boot_o_7 P::boot_o_8 P::boot_o_9 P::boot_o_10 P::x0::Y0::x2::x3::x6::x7::x8 P::x0::x1::x9::x10::x0::x11 P::x12::x13::x14::x15::Zb::x7::x17 P::x0::x1::x18::x19::x0::x20 P::x21::x22::x23::Zb::x7::x24 P::x0::x1::x25::x26::x0::x27 P::x28::x29::x30::Zb::x7::x31 P::x0::x1::x32::x33::x0::x34 P::x35::x36::x37::Zb::x7::x38 P::x0::x1::x39::x40::x0::x41 P::x42::x43::x44::Zb::x7::x45 P::x0::x1::x46::x47::x0::x48 P::x49::x50::x51::Zb::x7::x52 P::x0::x1::x53::x54::x0::x55 P::x56::x57::x58::x0::x7::x59 P::x0::x60::x61::x62::x0::x1::x63::x64::x65::x66::x67 P::x68::x69::x70::x71::x72::x0::x1::x73::x0::x74::x75::x76::x0::x1::x77::x0::x78::x79::x80::x0::x1::x81::x0::x82::x83::x84::x0::x1::x85::x0::x86::x87::x88::x0::x1::x89::x0::x90::x91::x92::x0::x1::x93::x0::x94::x95::x96::x0::x1::x97::x0::x98::x99::MI::x0::x1::LW::x0::P4::Lm::Ml::x0::x1::SH::x0::Xu::Pw::RA::x0::x1::QC::x0::WC::QA::RF::x0::x1::X1::RC::Sr::x0::x1::R8::x0::Vz::QB::PJ::x0::x1::Q1::x0::Wd::QP::Rg::x0::x1::O7::x0::Wb::RR::QR::x0::x1::W4::PD::Rl::x0::x1::Xw::Rf::RU::x0::x1::S7::x0::Wx::PR::QX::x0::x1::Vg::Tg::Ta::x0::x1::RY::x0::VF::P2::Rr::x0::x1::RJ::x0::X6::Qc::SX::x0::x1::Q3::x0::VN::QF::Rx::x0::x1::PU::x0::XH::SN::RZ::x0::x1::Rn::x0::WO::Qt::RV::x0::x1::X8::Rk::Sx::x0::x1::Pj::x0::Vi::O4::RM::x0::x1::Ru::x0::Ws::RH::QV::x0::x7::Wv P::x0::Wi::W5::VL::x0::x1::Wa::Qb::Sd::Q7::QN P::Py::Q0::RB::Xm::Xh::x0::x1::QL::x0::Vh::PX::S5::x0::x1::Ql::x0::WW::SS::Tc::x0::x1::Wg::Pe::Sv::x0::x1::Ra::x0::WG::QG::Se::x0::x1::Tq::x0::Vv::Qh::SF::x0::x1::QT::x0::Vw::OZ::RO::x0::x1::PF::x0::VQ::SI::Rq::x0::x1::SB::x0::Yb::Qm::SQ::x0::x1::Sy::x0::WB::Pt::Pm::x0::x1::RI::x0::WY::O6::Pc::x0::x1::SK::x0::Vl::To::O0::x0::x1::Q6::x0::VH::RK::Qy::x0::x1::SV::x0::Wt::Tp::SA::x0::x1::R6::x0::Wq::SY::Ps::x0::x1::S9::x0::Xr::Pf::Rm::x0::x1::Qe::x0::Wk::SE::Sb::x0::x1::O3::x0::Vt::Qi::SC::x0::x1::RS::x0::WD::Sn::OQ::x0::x1::XR::Tk::Tl::Qz::x0::x1::Xj::QD::RG::x0::x1::VC::Rv::Qp::x0::x1::Wm::Sk::Pq::x0::x1::XI::RN::Re::x0::x1::Pn::x0::W7::Qw::Qj::x0::x1::VG::PM::SM::x0::x1::Ry::x0::WQ::Qr::Pp::x0::x1::VB::QK::RT::x0::x1::VU::RE::PV::x0::x1::V0::Tj::PN::x0::x1::SD::x0::XC::P5::R9::x0::x7::Xi P::x0::W8::Vn::XV::x0::x1::WS::Qn::Q4::RD::Qq P::Sl::P7::Rz::WI::Xv::x0::x1::Y1::X3::X7::x0::x1::VT::x0::YQ::XJ::XE::x0::x1::Vs::x0::YV::W9::VM::x0::x1::Xy::x0::YU::XT::Xn::x0::x1::Wl::x0::YX::V6::VY::x0::x1::Yd::x0::YJ::Vr::VX::x0::x1::Xk::x0::YH::WE::We::x0::x1::XX::x0::YG::Xl::Xb::x0::x1::V7::x0::YE::Wu::W6::x0::x1::VD::x0::YA::WF::WJ::x0::x1::Vy::x0::YR::V3::XG::x0::x1::Vo::x0::YO::WR::XS::x0::x1::Yc::x0::YB::Wr::VS::x0::x1::Vk::x0::YZ::XU::VO::x0::x1::YL::Xe::V8::[])) (.mk [] [] [] 0 [] [] false #[] [] 0 false false false 0 [2000,10,10] false 0 true [] [] 0 false)
theorem YY(w:World)(os:OsState):segRun treeTable PySem.Challenge.pw_pebbletoll_k69_whole_told_otherwise w 11 (some (.ref 6)) 1 484 (Shared.mk (h1 w.params) (.mk []) (.mk 0 0 0 0) 915 os) (piecesOf st2 env cE (.mk 287 0 297 53) [topFrame (.mk 0 0 0 0)])=some (.next,(Shared.mk (h2 w.params) (.mk []) (.mk 0 0 0 0) 1065 os),cE,(.mk 379 0 398 75)):=by kernel_rfl
noncomputable def hf(P:Params):Heap:=h2 P
theorem YF(w:World)(os:OsState):topRun treeTable PySem.Challenge.pw_pebbletoll_k69_whole_told_otherwise w 11 (some (.ref 6)) 2 (Shared.mk (h2 w.params) (.mk []) (.mk 0 0 0 0) 1065 os) (restOf [] env cE (.mk 379 0 398 75) [topFrame (.mk 0 0 0 0)])=some (Shared.mk (hf w.params) (.mk []) (.mk 0 0 0 0) 1065 os):=by kernel_rfl
theorem run(w:World)(os:OsState):topRun treeTable PySem.Challenge.pw_pebbletoll_k69_whole_told_otherwise w 11 (some (.ref 6)) (12+(1+(1978+(1991+(484+(2)))))) (Shared.mk (boot_heap w.params) (.mk []) boot_drawn boot_toks os) (topStub PySem.Challenge.pw_pebbletoll_k69_whole_told_otherwise)=some (Shared.mk (hf w.params) (.mk []) (.mk 0 0 0 0) 1065 os):=go_top (Y3 w os) (piece_block (YD w os) (piece_app (YN w os) (piece_app (YT w os) (piece_app (YY w os) (YF w os)))))
theorem opn:∀w:World,(fencedOpening treeTable PySem.Challenge.pw_pebbletoll_k69_whole_told_otherwise w 9026).map (λs=>(s.heap,s.gens,s.drawn,s.toks))=some (boot_heap w.params,Array.mk [],boot_drawn,boot_toks):=boot_open (by kernel_rfl) (by decide) λs=>by kernel_rfl
theorem siz(w:World):((boot_heap w.params).isNs mainGlobals&&(Array.mk ([]:List GenState)).size==0,(boot_heap w.params).objs.size,(boot_heap w.params).nsMap mainGlobals "__annotations__")=(true,11,(some (.ref 6))):=by kernel_rfl
noncomputable def KK:Params->Frag:=λP=>
 (nat_lit 2,boot_o_2 P)::(nat_lit 3,WL P)::(nat_lit 15,x6)::(nat_lit 22,x0)::(nat_lit 23,x11 P)::(nat_lit 24,x12)::(nat_lit 25,x13)::(nat_lit 28,Zb)::(nat_lit 35,x0)::(nat_lit 36,x20 P)::(nat_lit 37,x21)::(nat_lit 40,Zb)::(nat_lit 47,x0)::(nat_lit 48,x27 P)::(nat_lit 49,x28)::(nat_lit 52,Zb)::(nat_lit 59,x0)::(nat_lit 60,x34 P)::(nat_lit 61,x35)::(nat_lit 64,Zb)::(nat_lit 71,x0)::(nat_lit 72,x41 P)::(nat_lit 73,x42)::(nat_lit 76,Zb)::(nat_lit 83,x0)::(nat_lit 84,x48 P)::(nat_lit 85,x49)::(nat_lit 88,Zb)::(nat_lit 95,x0)::(nat_lit 96,x55 P)::(nat_lit 97,x56)::(nat_lit 107,x0)::(nat_lit 110,x64)::(nat_lit 111,x65)::(nat_lit 112,x66)::(nat_lit 113,x67 P)::(nat_lit 114,x68)::(nat_lit 115,x69)::(nat_lit 116,x70)::(nat_lit 119,x0)::(nat_lit 121,x73)::(nat_lit 122,x0)::(nat_lit 124,x75)::(nat_lit 125,x76)::(nat_lit 126,x0)::(nat_lit 128,x77)::(nat_lit 129,x0)::(nat_lit 131,x79)::(nat_lit 132,x80)::(nat_lit 133,x0)::(nat_lit 135,x81)::(nat_lit 136,x0)::(nat_lit 138,x83)::(nat_lit 139,x84)::(nat_lit 140,x0)::(nat_lit 142,x85)::(nat_lit 143,x0)::(nat_lit 145,x87)::(nat_lit 146,x88)::(nat_lit 147,x0)::(nat_lit 149,x89)::(nat_lit 150,x0)::(nat_lit 152,x91)::(nat_lit 153,x92)::(nat_lit 154,x0)::(nat_lit 156,x93)::(nat_lit 157,x0)::(nat_lit 159,x95)::(nat_lit 160,x96)::(nat_lit 161,x0)::(nat_lit 163,x97)::(nat_lit 164,x0)::(nat_lit 166,x99)::(nat_lit 167,MI)::(nat_lit 168,x0)::(nat_lit 170,LW)::(nat_lit 171,x0)::(nat_lit 173,Lm)::(nat_lit 174,Ml)::(nat_lit 175,x0)::(nat_lit 177,SH)::(nat_lit 178,x0)::(nat_lit 180,Pw)::(nat_lit 181,RA)::(nat_lit 182,x0)::(nat_lit 184,QC)::(nat_lit 185,x0)::(nat_lit 187,QA)::(nat_lit 188,RF)::(nat_lit 189,x0)::(nat_lit 192,RC)::(nat_lit 193,Sr)::(nat_lit 194,x0)::(nat_lit 196,R8)::(nat_lit 197,x0)::(nat_lit 199,QB)::(nat_lit 200,PJ)::(nat_lit 201,x0)::(nat_lit 203,Q1)::(nat_lit 204,x0)::(nat_lit 206,QP)::(nat_lit 207,Rg)::(nat_lit 208,x0)::(nat_lit 210,O7)::(nat_lit 211,x0)::(nat_lit 213,RR)::(nat_lit 214,QR)::(nat_lit 215,x0)::(nat_lit 218,PD)::(nat_lit 219,Rl)::(nat_lit 220,x0)::(nat_lit 223,Rf)::(nat_lit 224,RU)::(nat_lit 225,x0)::(nat_lit 227,S7)::(nat_lit 228,x0)::(nat_lit 230,PR)::(nat_lit 231,QX)::(nat_lit 232,x0)::(nat_lit 235,Tg)::(nat_lit 236,Ta)::(nat_lit 237,x0)::(nat_lit 239,RY)::(nat_lit 240,x0)::(nat_lit 242,P2)::(nat_lit 243,Rr)::(nat_lit 244,x0)::(nat_lit 246,RJ)::(nat_lit 247,x0)::(nat_lit 249,Qc)::(nat_lit 250,SX)::(nat_lit 251,x0)::(nat_lit 253,Q3)::(nat_lit 254,x0)::(nat_lit 256,QF)::(nat_lit 257,Rx)::(nat_lit 258,x0)::(nat_lit 260,PU)::(nat_lit 261,x0)::(nat_lit 263,SN)::(nat_lit 264,RZ)::(nat_lit 265,x0)::(nat_lit 267,Rn)::(nat_lit 268,x0)::(nat_lit 270,Qt)::(nat_lit 271,RV)::(nat_lit 272,x0)::(nat_lit 275,Rk)::(nat_lit 276,Sx)::(nat_lit 277,x0)::(nat_lit 279,Pj)::(nat_lit 280,x0)::(nat_lit 282,O4)::(nat_lit 283,RM)::(nat_lit 284,x0)::(nat_lit 286,Ru)::(nat_lit 287,x0)::(nat_lit 289,RH)::(nat_lit 290,QV)::(nat_lit 298,x0)::(nat_lit 301,Qb)::(nat_lit 302,Sd)::(nat_lit 303,Q7)::(nat_lit 304,QN P)::(nat_lit 305,Py)::(nat_lit 306,Q0)::(nat_lit 307,RB)::(nat_lit 310,x0)::(nat_lit 312,QL)::(nat_lit 313,x0)::(nat_lit 315,PX)::(nat_lit 316,S5)::(nat_lit 317,x0)::(nat_lit 319,Ql)::(nat_lit 320,x0)::(nat_lit 322,SS)::(nat_lit 323,Tc)::(nat_lit 324,x0)::(nat_lit 327,Pe)::(nat_lit 328,Sv)::(nat_lit 329,x0)::(nat_lit 331,Ra)::(nat_lit 332,x0)::(nat_lit 334,QG)::(nat_lit 335,Se)::(nat_lit 336,x0)::(nat_lit 338,Tq)::(nat_lit 339,x0)::(nat_lit 341,Qh)::(nat_lit 342,SF)::(nat_lit 343,x0)::(nat_lit 345,QT)::(nat_lit 346,x0)::(nat_lit 348,OZ)::(nat_lit 349,RO)::(nat_lit 350,x0)::(nat_lit 352,PF)::(nat_lit 353,x0)::(nat_lit 355,SI)::(nat_lit 356,Rq)::(nat_lit 357,x0)::(nat_lit 359,SB)::(nat_lit 360,x0)::(nat_lit 362,Qm)::(nat_lit 363,SQ)::(nat_lit 364,x0)::(nat_lit 366,Sy)::(nat_lit 367,x0)::(nat_lit 369,Pt)::(nat_lit 370,Pm)::(nat_lit 371,x0)::(nat_lit 373,RI)::(nat_lit 374,x0)::(nat_lit 376,O6)::(nat_lit 377,Pc)::(nat_lit 378,x0)::(nat_lit 380,SK)::(nat_lit 381,x0)::(nat_lit 383,To)::(nat_lit 384,O0)::(nat_lit 385,x0)::(nat_lit 387,Q6)::(nat_lit 388,x0)::(nat_lit 390,RK)::(nat_lit 391,Qy)::(nat_lit 392,x0)::(nat_lit 394,SV)::(nat_lit 395,x0)::(nat_lit 397,Tp)::(nat_lit 398,SA)::(nat_lit 399,x0)::(nat_lit 401,R6)::(nat_lit 402,x0)::(nat_lit 404,SY)::(nat_lit 405,Ps)::(nat_lit 406,x0)::(nat_lit 408,S9)::(nat_lit 409,x0)::(nat_lit 411,Pf)::(nat_lit 412,Rm)::(nat_lit 413,x0)::(nat_lit 415,Qe)::(nat_lit 416,x0)::(nat_lit 418,SE)::(nat_lit 419,Sb)::(nat_lit 420,x0)::(nat_lit 422,O3)::(nat_lit 423,x0)::(nat_lit 425,Qi)::(nat_lit 426,SC)::(nat_lit 427,x0)::(nat_lit 429,RS)::(nat_lit 430,x0)::(nat_lit 432,Sn)::(nat_lit 433,OQ)::(nat_lit 434,x0)::(nat_lit 437,Tk)::(nat_lit 438,Tl)::(nat_lit 439,Qz)::(nat_lit 440,x0)::(nat_lit 443,QD)::(nat_lit 444,RG)::(nat_lit 445,x0)::(nat_lit 448,Rv)::(nat_lit 449,Qp)::(nat_lit 450,x0)::(nat_lit 453,Sk)::(nat_lit 454,Pq)::(nat_lit 455,x0)::(nat_lit 458,RN)::(nat_lit 459,Re)::(nat_lit 460,x0)::(nat_lit 462,Pn)::(nat_lit 463,x0)::(nat_lit 465,Qw)::(nat_lit 466,Qj)::(nat_lit 467,x0)::(nat_lit 470,PM)::(nat_lit 471,SM)::(nat_lit 472,x0)::(nat_lit 474,Ry)::(nat_lit 475,x0)::(nat_lit 477,Qr)::(nat_lit 478,Pp)::(nat_lit 479,x0)::(nat_lit 482,QK)::(nat_lit 483,RT)::(nat_lit 484,x0)::(nat_lit 487,RE)::(nat_lit 488,PV)::(nat_lit 489,x0)::(nat_lit 492,Tj)::(nat_lit 493,PN)::(nat_lit 494,x0)::(nat_lit 496,SD)::(nat_lit 497,x0)::(nat_lit 499,P5)::(nat_lit 500,R9)::(nat_lit 508,x0)::(nat_lit 511,Qn)::(nat_lit 512,Q4)::(nat_lit 513,RD)::(nat_lit 514,Qq P)::(nat_lit 515,Sl)::(nat_lit 516,P7)::(nat_lit 517,Rz)::(nat_lit 520,x0)::(nat_lit 523,X3)::(nat_lit 524,X7)::(nat_lit 525,x0)::(nat_lit 527,VT)::(nat_lit 528,x0)::(nat_lit 530,XJ)::(nat_lit 531,XE)::(nat_lit 532,x0)::(nat_lit 534,Vs)::(nat_lit 535,x0)::(nat_lit 537,W9)::(nat_lit 538,VM)::(nat_lit 539,x0)::(nat_lit 541,Xy)::(nat_lit 542,x0)::(nat_lit 544,XT)::(nat_lit 545,Xn)::(nat_lit 546,x0)::(nat_lit 548,Wl)::(nat_lit 549,x0)::(nat_lit 551,V6)::(nat_lit 552,VY)::(nat_lit 553,x0)::(nat_lit 555,Yd)::(nat_lit 556,x0)::(nat_lit 558,Vr)::(nat_lit 559,VX)::(nat_lit 560,x0)::(nat_lit 562,Xk)::(nat_lit 563,x0)::(nat_lit 565,WE)::(nat_lit 566,We)::(nat_lit 567,x0)::(nat_lit 569,XX)::(nat_lit 570,x0)::(nat_lit 572,Xl)::(nat_lit 573,Xb)::(nat_lit 574,x0)::(nat_lit 576,V7)::(nat_lit 577,x0)::(nat_lit 579,Wu)::(nat_lit 580,W6)::(nat_lit 581,x0)::(nat_lit 583,VD)::(nat_lit 584,x0)::(nat_lit 586,WF)::(nat_lit 587,WJ)::(nat_lit 588,x0)::(nat_lit 590,Vy)::(nat_lit 591,x0)::(nat_lit 593,V3)::(nat_lit 594,XG)::(nat_lit 595,x0)::(nat_lit 597,Vo)::(nat_lit 598,x0)::(nat_lit 600,WR)::(nat_lit 601,XS)::(nat_lit 602,x0)::(nat_lit 604,Yc)::(nat_lit 605,x0)::(nat_lit 607,Wr)::(nat_lit 608,VS)::(nat_lit 609,x0)::(nat_lit 611,Vk)::(nat_lit 612,x0)::(nat_lit 614,XU)::(nat_lit 615,VO)::(nat_lit 616,x0)::(nat_lit 619,Xe)::(nat_lit 620,V8)::[]
abbrev qq:Program:=PySem.W.view PySem.Challenge.pw_pebbletoll_k69_whole_told_otherwise [1,2,3,4,5,6,7,9,10,11,12,13,14,15,16,17,18,19,20,21,23,24,25,27,28,29,30,32,33,34,35,37,38,39,40,41,42,43,44,45,46,47,48,50,51,53,54,55,56,57,58,59,61,62,63,64,65,67,68,69,70,71,72,74,75,76,77,78,80,81,82,83,84,85,86,88,89,90,91,92,93,94,95,96,97]
abbrev asK:List Addr:=[2,3,15,22,23,24,25,28,35,36,37,40,47,48,49,52,59,60,61,64,71,72,73,76,83,84,85,88,95,96,97,107,110,111,112,113,114,115,116,119,121,122,124,125,126,128,129,131,132,133,135,136,138,139,140,142,143,145,146,147,149,150,152,153,154,156,157,159,160,161,163,164,166,167,168,170,171,173,174,175,177,178,180,181,182,184,185,187,188,189,192,193,194,196,197,199,200,201,203,204,206,207,208,210,211,213,214,215,218,219,220,223,224,225,227,228,230,231,232,235,236,237,239,240,242,243,244,246,247,249,250,251,253,254,256,257,258,260,261,263,264,265,267,268,270,271,272,275,276,277,279,280,282,283,284,286,287,289,290,298,301,302,303,304,305,306,307,310,312,313,315,316,317,319,320,322,323,324,327,328,329,331,332,334,335,336,338,339,341,342,343,345,346,348,349,350,352,353,355,356,357,359,360,362,363,364,366,367,369,370,371,373,374,376,377,378,380,381,383,384,385,387,388,390,391,392,394,395,397,398,399,401,402,404,405,406,408,409,411,412,413,415,416,418,419,420,422,423,425,426,427,429,430,432,433,434,437,438,439,440,443,444,445,448,449,450,453,454,455,458,459,460,462,463,465,466,467,470,471,472,474,475,477,478,479,482,483,484,487,488,489,492,493,494,496,497,499,500,508,511,512,513,514,515,516,517,520,523,524,525,527,528,530,531,532,534,535,537,538,539,541,542,544,545,546,548,549,551,552,553,555,556,558,559,560,562,563,565,566,567,569,570,572,573,574,576,577,579,580,581,583,584,586,587,588,590,591,593,594,595,597,598,600,601,602,604,605,607,608,609,611,612,614,615,616,619,620]
theorem ϥ:∀P,asK=(KK P).map (·.1):=λ_=>by kernel_rfl
theorem Yw(w:World):(λos=>((staticsOk (importedModules PySem.Challenge.pw_pebbletoll_k69_whole_told_otherwise.main.body) (boot_heap w.params) (hf w.params)&&namesBound PySem.Challenge.pw_pebbletoll_k69_whole_told_otherwise (hf w.params)&&gensDone (Shared.mk (Hd.hf w.params) (.mk []) (.mk 0 0 0 0) 1065 os)&&laidKept (boot_heap w.params) (hf w.params)),openSeen qq [] (importedModules PySem.Challenge.pw_pebbletoll_k69_whole_told_otherwise.main.body) (λs=>PySem.W.xlAt Hd.qq [] s&&PySem.W.recOk (PySem.W.RowW.records (PySem.W.OpenRow.toRowW (PySem.Challenge.rw_pebbletoll_k69_whole_told_otherwise).row)) s) true (Shared.mk (Hd.hf w.params) (.mk []) (.mk 0 0 0 0) 1065 os),Hook.obs (PySem.W.kHook Hd.KK Hd.asK Hd.ϥ) (Shared.mk (Hd.hf w.params) (.mk []) (.mk 0 0 0 0) 1065 os)))=λ_=>(true,openGood qq [],Hook.val (PySem.W.kHook Hd.KK Hd.asK Hd.ϥ) w):=by kernel_rfl
theorem left:PySem.W.LeftO (PySem.Challenge.rw_pebbletoll_k69_whole_told_otherwise).row.prog qq [] (λs=>PySem.W.xlAt Hd.qq [] s&&PySem.W.recOk (PySem.W.RowW.records (PySem.W.OpenRow.toRowW (PySem.Challenge.rw_pebbletoll_k69_whole_told_otherwise).row)) s) (PySem.W.Hook.obs (PySem.W.kHook Hd.KK Hd.asK Hd.ϥ)) (PySem.W.Hook.val (PySem.W.kHook Hd.KK Hd.asK Hd.ϥ)) 9026:=LeftO.of_pieces opn siz run (by decide) Yw
end Hd
abbrev hR:=Int->Int->Int
abbrev hO:=List PySem.Str
abbrev hL:=PySem.Str->Option PySem.Value
abbrev hH:=List PySem.Value
abbrev g9:=List PySem.Addr
abbrev g8:=List (PySem.Addr×PySem.Obj)
abbrev gx:=PySem.W.Frag
abbrev gq:=PySem.Value->PySem.Shared->Prop
abbrev fz:=Int->Nat
abbrev fc:=Int->Int
abbrev du:=List Int
namespace L2
open PySem PySem.Spec PyProof.Rows
abbrev Key:=Sum Int Str
def yI:Key->Value->Bool
 | .inl k,v=>Value.isInt k v
 | .inr x,v=>Value.isStrOf x v
def Y2(w:World):Key->Int
 | .inl k=>hashInt k
 | .inr x=>hashStr w x
theorem jq:∀{k:Key}{v:Value},yI k v=true->(∃i t,k=Sum.inl i/\v=Value.int i t)\/(∃x t,k=Sum.inr x/\v=Value.str x t)
 | .inl i,v,h=>by
   obtain⟨t,e⟩:=Value.isInt_shape (k:=i) (v:=v) h;exact .inl ⟨i,t,rfl,e⟩
 | .inr x,v,h=>by
   obtain⟨t,e⟩:=Value.isStrOf_shape (x:=x) (v:=v) h;exact .inr ⟨x,t,rfl,e⟩
theorem NJ(i:Int)(t:Tok):yI (.inl i) (.int i t)=true:=by simp[yI,Value.isInt]
theorem Ob(x:Str)(t:Tok):yI (.inr x) (.str x t)=true:=by simp[yI,Value.isStrOf]
theorem WH(a b:Int):decide ((Sum.inl a:Key)=Sum.inl b)=(a==b):=by
 by_cases e:a=b
 .subst e;simp
 .have h:¬(Sum.inl a:Key)=Sum.inl b:=λq=>e (Sum.inl.inj q);rw[cV h];exact(beq_eq_false_iff_ne.mpr e).symm
theorem XB(a b:Str):decide ((Sum.inr a:Key)=Sum.inr b)=decide (a=b):=by
 by_cases e:a=b
 .subst e;simp
 .have h:¬(Sum.inr a:Key)=Sum.inr b:=λq=>e (Sum.inr.inj q);rw[cV h,cV e]
theorem WU(a:Int)(b:Str):decide ((Sum.inl a:Key)=Sum.inr b)=false:=cV (λq=>nomatch q)
theorem Xs(a:Str)(b:Int):decide ((Sum.inr a:Key)=Sum.inl b)=false:=cV (λq=>nomatch q)
def iR(prog:Program)(w:World):PySem.KeyKind prog w Key where
 is:=yI
 hash:=Y2 w
 inj:=λv a b f hb=>by
  rcases jq f with⟨i,t,rfl,rfl⟩|⟨x,t,rfl,rfl⟩
  .rcases jq hb with⟨j,u,rfl,e⟩|⟨y,u,rfl,e⟩
   .injection e with e1 _;rw[e1]
   .exact nomatch e
  .rcases jq hb with⟨j,u,rfl,e⟩|⟨y,u,rfl,e⟩
   .exact nomatch e
   .injection e with e1 _;rw[e1]
 byValue:=λk v h=>by
  rcases jq h with⟨i,t,rfl,rfl⟩|⟨x,t,rfl,rfl⟩<;>rfl
 pyHash:=λc h=>by
  rcases jq c with⟨i,t,rfl,rfl⟩|⟨x,t,rfl,rfl⟩
  .exact wpAny_pyHash_int h
  .exact wpAny_pyHash_str h
 eqBool:=λd c h=>by
  rcases jq d with⟨i,t,rfl,rfl⟩|⟨x,t,rfl,rfl⟩
  .rcases jq c with⟨j,u,rfl,rfl⟩|⟨y,u,rfl,rfl⟩
   .rw[WH]at h;exact wpAny_eqBool_int h
   .rw[WU]at h;exact SeqAt.EqAt.int_str i t y u _ _ _ _ h
  .rcases jq c with⟨j,u,rfl,rfl⟩|⟨y,u,rfl,rfl⟩
   .rw[Xs]at h;exact SeqAt.EqAt.str_int x t j u _ _ _ _ h
   .rw[XB]at h;exact wpAny_eqBool_str h
 «strs»:=λk x t v h=>by
  rcases jq h with⟨i,u,rfl,e⟩|⟨y,u,rfl,e⟩
  .exact nomatch e
  .injection e with e1 _
   subst e1;cases v<;>rfl
theorem Jm(a:Program)(w:World)(i:Int)(t:Tok):(iR a w).is (.inl i) (.int i t)=true:=NJ i t
theorem Jw(a:Program)(w:World)(x:Str)(t:Tok):(iR a w).is (.inr x) (.str x t)=true:=Ob x t
inductive V where
 | ς|bl (b:Bool)|int (i:Int)|str (x:Str)|byt (b:Array UInt8)|flt (b:UInt64)|ref (a:Addr)|ty (n:String)
 deriving DecidableEq
def RelV:V->Value->Prop
 | .ς,u=>u=Value.none
 | .bl b,u=>u=Value.bool b
 | .int i,u=>∃t,u=Value.int i t
 | .str x,u=>∃t,u=Value.str x t
 | .byt b,u=>∃t,u=Value.bytes b t
 | .flt b,u=>∃t,u=Value.float b t
 | .ref a,u=>u=Value.ref a
 | .ty n,u=>u=Value.type n
abbrev Vals:List V->List Value->Prop:=Paired RelV
theorem Vals.length{a:List V}{b:hH}(r:Vals a b):a.length=b.length:=Paired.length r
theorem Vals.get:∀{b:List V}{a:hH}{i:Nat}{x:V},Vals b a->b[i]?=some x->∃u,a[i]?=some u/\RelV x u
 | _,_,_,_,.nil,e=>by simp at e
 | _,_,0,_,.cons r _,e=>by simp at e;subst e;exact⟨_,rfl,r⟩
 | _,_,i+1,x,.cons _ t,e=>by
   obtain⟨u,c,d⟩:=Vals.get (i:=i) (x:=x) t (by simpa using e);exact⟨u,by simpa using c,d⟩
theorem Vals.set{x:V}{u:Value}(r:RelV x u):∀{b:List V}{a:hH}(i:Nat),Vals b a->Vals (b.set i x) (a.set i u)
 | _,_,_,.nil=>.nil
 | _,_,0,.cons _ t=>.cons r t
 | _,_,i+1,.cons q t=>.cons q (Vals.set r i t)
theorem Vals.append:∀{b c:List V}{d a:hH},Vals b d->Vals c a->Vals (b++c) (d++a)
 | _,_,_,_,.nil,s=>s
 | _,_,_,_,.cons r t,s=>.cons r (Vals.append t s)
theorem Vals.take:∀{a:List V}{b:hH}(n:Nat),Vals a b->Vals (a.take n) (b.take n)
 | _,_,0,_=>.nil
 | _,_,_+1,.nil=>.nil
 | _,_,n+1,.cons r t=>.cons r (Vals.take n t)
theorem Vals.drop:∀{a:List V}{b:hH}(n:Nat),Vals a b->Vals (a.drop n) (b.drop n)
 | _,_,0,r=>r
 | _,_,_+1,.nil=>.nil
 | _,_,n+1,.cons _ t=>Vals.drop n t
def Zg:Option V->Option Value->Prop
 | some v,some u=>RelV v u
 | none,none=>True
 | _,_=>False
def KV{a:Type}:List (a×V)->List (a×Value)->Prop:=Paired λ(p:a×V)(q:a×Value)=>p.1=q.1/\RelV p.2 q.2
def kV:Key->V
 | .inl i=>.int i
 | .inr x=>.str x
inductive HO where
 /-- a list -/
 | lst (xs:List V)
 /-- a tuple (never changes) -/
 | tup (xs:List V)
 /-- a dict adk keys are ints and texts;one adk keys are tuples of ints and texts (Zq empty one is both) -/
 | dK (θ:List (Key×V))|dT (θ:List (List Key×V))
 /-- a set of ints: its members,its size -/
 | set (S:Int->Bool) (n:Nat)
 /-- an instance of Zq class at C,its dict at dx,its attributes -/
 | ins (C dx:Addr) (fs:List (Str×V))
 /-- Zq dict of Zq instance at x -/
 | own (x:Addr)
 /-- Zq dict of an exception -/
 | xd (fs:List (Str×V))
 /-- a bound method,f of x -/
 | met (f x:Addr)
 /-- a range object lo,lo+1,.. bG hi -/
 | Δ (lo hi:Int)
 /-- a thing adR is known to Zq object (Zq script;a dict while a loop walks it): read,never written while it is so -/
 | frz (o:Obj) (u:HO)
 /-- a code afs table -/
 | tbl (ps:Array Value)
 /-- any other thing,by adS is true of its one object (a def of amS own: api a S n:=HO.ext λh=>..) -/
 | ext (φ:Heap->Prop)
abbrev Hp:=Addr->Option HO
def upd(H:Hp)(a:Addr)(o:HO):Hp:=λb=>if b=a then some o else H b
theorem az{H:Hp}{a:Addr}{o:HO}:upd H a o a=some o:=by unfold upd;rw[aj rfl]
theorem aL{H:Hp}{a b:Addr}{o:HO}(h:b≠a):upd H a o b=H b:=by unfold upd;rw[ah h]
theorem sd{H:Hp}{a:Addr}{o u:HO}:upd (upd H a o) a u=upd H a u:=by
 funext b;unfold upd;split<;>rfl
theorem fS{H:Hp}{a b:Addr}{o u:HO}(h:H a=some o)(c:H b=some u)(d:o≠u):a≠b:=by
 intro e;subst e;rw[h]at c;exact d (bq c)
theorem cJ{H:Hp}{a b:Addr}{o:HO}(h:H a=some o)(c:H b=none):a≠b:=by
 intro e;subst e;rw[h]at c;cases c
section
variable(P:Program)(w:World)
def Λ(H:Hp)(h:Heap)(a:Addr):HO->Prop
 | .lst c=>c.length<=sizeLine/\∃(b:hH)(n:Nat),Vals c b/\h.get? a=some { cls:=.type "list",data:=.seq b.toArray n }
 | .tup c=>c.length<=sizeLine/\∃b:List Value,Vals c b/\IsTup h a b.toArray
 | .dK θ=>θ.length<=sizeLine/\(a==sysModules)=false/\∃g,KV θ g/\h.DictOf (iR P w) a g
 | .dT θ=>θ.length<=sizeLine/\(a==sysModules)=false/\∃c:List (List Key×Addr×Value),Paired (λ(p:List Key×V)(q:List Key×Addr×Value)=>p.1=q.1/\H q.2.1=some (.tup (p.1.map kV))/\RelV p.2 q.2.2) θ c/\∃o e k,h.get? a=some o/\o.ExactDict/\o.data=.dict e k/\e.toList=c.map (entryOfKey (tupleKind (iR P w)))/\(c.map (·.1)).Nodup
 | .set S n=>h.SetOf (intKind P w) a S n
 | .ins C dx fs=>H dx=some (.own a)/\fs.length<=1000/\dx≠a/\h.get? a=some (PySem.W.instObj C dx)/\∃d,h.Ns1 dx d/\(∀f,Zg (fs.lookup f) (d f))/\PySem.Within d (fs.map (·.1))
 | .own _=>∃o,h.get? a=some o
 | .xd fs=>∃d,h.Ns1 a d/\∀f,Zg (fs.lookup f) (d f)
 | .Δ lo hi=>∃t u v,h.get? a=some { cls:=.type "range",data:=.fields #[.int lo t,.int hi u,.int 1 v] }
 | .frz o u=>h.get? a=some o/\Λ H h a u
 | .tbl ps=>h.get? a=some { cls:=.none,data:=.fields ps }
 | .met f x=>h.get? a=some (PySem.W.methodObj (.ref f) (.ref x))
 | .ext φ=>φ h/\(∃o,h.get? a=some o)/\∀j i:Heap,φ j->(∀o,j.get? a=some o->i.get? a=some o)->φ i
def Ϯ(H:Hp)(h:Heap):Prop:=∀a o,H a=some o->Λ P w H h a o
end
section
variable{P:Program}{w:World}{H g:Hp}{h h':Heap}{a:Addr}{o:HO}
theorem Λ.lt(x:Λ P w H h a o):a<h.objs.size:=by
 cases o with
 | lst xs=>obtain⟨_,_,_,_,e⟩:=x;exact aH e
 | tup xs=>obtain⟨_,_,_,p⟩:=x;exact p.lt
 | dK θ=>obtain⟨_,_,_,_,o,_,_,e,_⟩:=x;exact aH e
 | dT θ=>obtain⟨_,_,_,_,o,_,_,e,_⟩:=x;exact aH e
 | set S n=>obtain⟨o,_,_,_,e,_⟩:=x;exact aH e
 | ins C dx fs=>obtain⟨_,_,_,e,_⟩:=x;exact aH e
 | own y=>obtain⟨_,e⟩:=x;exact aH e
 | xd fs=>obtain⟨_,⟨_,_,_,e,_⟩,_⟩:=x;exact aH e
 | Δ lo hi=>obtain⟨_,_,_,e⟩:=x;exact aH e
 | frz ob u=>obtain⟨e,_⟩:=x;exact aH e
 | tbl ps=>exact aH (show h.get? a=some _ from x)
 | met f y=>exact aH (show h.get? a=some _ from x)
 | ext φ=>obtain⟨_,⟨_,e⟩,_⟩:=x;exact aH e
theorem Paired.acs{e i:Type}{F G:e->i->Prop}:∀{d:List e}{c:List i},Paired F d c->(∀a b,F a b->G a b)->Paired G d c
 | _,_,.nil,_=>.nil
 | _,_,.cons r t,f=>.cons (f _ _ r) (Paired.acs t f)
theorem Paired.imp'{e i:Type}{F G:e->i->Prop}(f:∀a b,F a b->G a b){d:List e}{c:List i}(r:Paired F d c):Paired G d c:=Paired.acs r f
theorem Λ.dO(x:Λ P w H h a o)(k:∀b u,(b=a\/H b=some (.own a))->h.get? b=some u->h'.get? b=some u)(F:∀b,H b=some (.own a)->g b=some (.own a))(D:∀b s,H b=some (.tup s)->g b=some (.tup s)):Λ P w g h' a o:=by
 induction o with
 | lst s=>obtain⟨z,m,n,r,e⟩:=x;exact⟨z,m,n,r,k _ _ (.inl rfl) e⟩
 | tup s=>obtain⟨z,m,r,i,e,c⟩:=x;exact⟨z,m,r,i,k _ _ (.inl rfl) e,c⟩
 | dK θ=>obtain⟨z,y,E,r,i,l,j,e,c⟩:=x;exact⟨z,y,E,r,i,l,j,k _ _ (.inl rfl) e,c⟩
 | dT θ=>
   obtain⟨z,y,s,r,i,l,j,e,c⟩:=x;exact⟨z,y,s,Paired.acs r λp q z=>⟨z.1,D _ _ z.2.1,z.2.2⟩,i,l,j,k _ _ (.inl rfl) e,c⟩
 | set S n=>obtain⟨i,l,j,t,e,c⟩:=x;exact⟨i,l,j,t,k _ _ (.inl rfl) e,c⟩
 | ins C dx fs=>
   obtain⟨d,z,ne,e,B,⟨A,l,j,G,c⟩,r⟩:=x;exact⟨F _ d,z,ne,k _ _ (.inl rfl) e,B,⟨A,l,j,k _ _ (.inr d) G,c⟩,r⟩
 | own y=>obtain⟨i,e⟩:=x;exact⟨i,k _ _ (.inl rfl) e⟩
 | xd fs=>obtain⟨B,⟨A,l,j,e,c⟩,r⟩:=x;exact⟨B,⟨A,l,j,k _ _ (.inl rfl) e,c⟩,r⟩
 | Δ lo hi=>obtain⟨t,u,v,e⟩:=x;exact⟨t,u,v,k _ _ (.inl rfl) e⟩
 | frz i u ih=>obtain⟨e,q⟩:=x;exact⟨k _ _ (.inl rfl) e,ih q⟩
 | tbl ps=>
   have e:h.get? a=some { cls:=.none,data:=.fields ps }:=x;show h'.get? a=some { cls:=.none,data:=.fields ps };exact k a _ (.inl rfl) e
 | met f y=>
   have e:h.get? a=some (PySem.W.methodObj (.ref f) (.ref y)):=x;show h'.get? a=some (PySem.W.methodObj (.ref f) (.ref y));exact k a _ (.inl rfl) e
 | ext φ=>obtain⟨p,⟨o,e⟩,st⟩:=x;exact⟨st _ _ p λo q=>k _ _ (.inl rfl) q,⟨o,k _ _ (.inl rfl) e⟩,st⟩
theorem Ϯ.lt(x:Ϯ P w H h)(e:H a=some o):a<h.objs.size:=(x a o e).lt
theorem Ϯ.fresh(x:Ϯ P w H h)(e:h.objs.size<=a):H a=none:=by
 cases q:H a with
 | none=>rfl
 | some u=>exact absurd (aP (x.lt q) e) (dB _)
theorem Ϯ.kept(x:Ϯ P w H h)(k:∀b u,h.get? b=some u->h'.get? b=some u):Ϯ P w H h':=λa o e=>
 (x a o e).dO (λb u _ q=>k b u q) (λ_ q=>q) λ_ _ q=>q
theorem Ϯ.laid(x:Ϯ P w H h)(k:∀b u,h.get? b=some u->h'.get? b=some u)(j:h.objs.size<=a)(d:Λ P w (upd H a o) h' a o):Ϯ P w (upd H a o) h':=λb u e=>by
 have f:=x.fresh j;by_cases i:b=a
 .subst i;rw[az]at e;cases e;exact d
 .rw[aL i]at e;exact(x b u e).dO (λc v _ q=>k c v q) (λc q=>by rw[aL (cJ q f)];exact q) λc l q=>by rw[aL (cJ q f)];exact q
end
def Rd(H:Hp)(a:Addr)(u:HO):Prop:=H a=some u\/∃o,H a=some (.frz o u)
theorem Rd.ok{P:Program}{w:World}{H:Hp}{h:Heap}{a:Addr}{u:HO}(r:Rd H a u)(x:Ϯ P w H h):Λ P w H h a u:=by
 rcases r with r|⟨o,r⟩
 .exact x a u r
 .obtain⟨_,q⟩:=x a _ r;exact q
def Mut:Option HO->Prop
 | some (.lst _)=>True
 | some (.dK _)=>True
 | some (.dT _)=>True
 | some (.set _ _)=>True
 | some (.ins _ _ _)=>True
 | some (.ext _)=>True
 | _=>False
section
variable{P:Program}{w:World}{H:Hp}{h a:Heap}{x e:Addr}{d:HO}
theorem Ϯ.write(t:Ϯ P w H h)(j:Mut (H x))(p:e=x\/H e=some (.own x))(k:∀b u,b≠e->h.get? b=some u->a.get? b=some u)(o:∃u,a.get? e=some u)(m:Λ P w (upd H x d) a x d):Ϯ P w (upd H x d) a:=λb u q=>by
 have g:∀c y,H c=some (.own y)->c≠x:=λc y r z=>by subst z;rw[r]at j;exact j
 have n:∀c i,H c=some (.tup i)->c≠x:=λc i r z=>by subst z;rw[r]at j;exact j
 by_cases l:b=x
 .subst l;rw[az]at q;cases q;exact m
 .rw[aL l]at q;by_cases f:b=e
  .have q':H b=some (.own x):=by
    rcases p with z|z
    .exact absurd (f.trans z) l
    .rw[f];exact z
   rw[q]at q';cases q';obtain⟨v,s⟩:=o;exact⟨v,by rw[f];exact s⟩
  .refine(t b u q).dO (λc v hc r=>k c v ?_ r) (λc r=>by rw[aL (g c b r)];exact r) λc i r=>by rw[aL (n c i r)];exact r
   rcases hc with rfl|hc
   .exact f
   .rintro rfl;rcases p with z|z
    .exact g c b hc z
    .rw[hc]at z;cases z;exact l rfl
end
structure Un(fs ex:g9)(H H':Hp)(h h':Heap):Prop where
 keep:∀b o,h.get? b=some o->H b=none->b∉fs->b∉ex->h'.get? b=some o
 slot:∀b o,h.get? b=some o->H b=none->b∈fs->b∉ex->∃sl,h'.get? b=some { o with slots:=sl }
 free:∀b o,h.get? b=some o->H b=none->b∉ex->H' b=none
 there:∀b o,h.get? b=some o->b∉ex->∃o',h'.get? b=some o'
 ϟ:∀b xs,H b=some (.tup xs)->H' b=some (.tup xs)
 eQ:∀b o u,H b=some (.frz o u)->H' b=some (.frz o u)
 lT:∀b ps,H b=some (.tbl ps)->∃more,H' b=some (.tbl (ps++more))
section
variable{c i d j:g9}{H g l:Hp}{h f m h':Heap}{a x e:Addr}{o:HO}
theorem Un.any(u:Un c d H g h f){b:Addr}{k:Obj}(q:h.get? b=some k)(n:H b=none)(p:b∉d):∃s,f.get? b=some { k with slots:=s }:=by
 by_cases r:b∈c
 .exact u.slot b k q n r p
 .exact⟨k.slots,u.keep b k q n r p⟩
theorem Un.kept(k:∀b u,h.get? b=some u->h'.get? b=some u):Un c d H H h h':=⟨λb p q _ _ _=>k b p q,λb p q _ _ _=>⟨p.slots,k b p q⟩,λ_ _ _ n _=>n,λb p q _=>⟨p,k b p q⟩,λ_ _ q=>q,λ_ _ _ q=>q,λ_ r q=>⟨#[],by rw[q];simp⟩⟩
theorem Un.refl:Un c d H H h h:=Un.kept λ_ _ q=>q
theorem Un.laid(k:∀b u,h.get? b=some u->h'.get? b=some u)(p:h.objs.size<=a)(hn:H a=none):Un c d H (upd H a o) h h' where
 keep:=λb u q _ _ _=>k b u q
 slot:=λb u q _ _ _=>⟨u.slots,k b u q⟩
 free:=λb u q n _=>by rw[aL (aW (aP (aH q) p))];exact n
 there:=λb u q _=>⟨u,k b u q⟩
 ϟ:=λb r q=>by rw[aL (cJ q hn)];exact q
 eQ:=λb u r q=>by rw[aL (cJ q hn)];exact q
 lT:=λb s q=>⟨#[],by rw[aL (cJ q hn),q];simp⟩
theorem Un.write(s:Mut (H x))(A:e=x\/H e=some (.own x))(k:∀b u,b≠e->h.get? b=some u->h'.get? b=some u)(v:∃u,h'.get? e=some u):Un c d H (upd H x o) h h':=by
 have w:∀b,H b=none->b≠x:=λb n z=>by subst z;rw[n]at s;exact s
 have y:∀b,H b=none->b≠e:=λb n z=>by
  subst z;rcases A with r|r
  .exact w b n r
  .rw[n]at r;cases r
 have t:∀b u,H b=some u->¬Mut (some u)->b≠x:=λb u q C z=>by subst z;rw[q]at s;exact C s
 refine⟨λb u q n _ _=>k b u (y b n) q,λb u q n _ _=>⟨u.slots,k b u (y b n) q⟩,λb u q n _=>by rw[aL (w b n)];exact n,λb u q _=>?_,λb B q=>by rw[aL (t b _ q λz=>z)];exact q,λb u B q=>by rw[aL (t b _ q λz=>z)];exact q,λb D q=>⟨#[],by rw[aL (t b _ q λz=>z),q];simp⟩⟩
 by_cases p:b=e
 .subst p;exact v
 .exact⟨u,k b u p q⟩
end
def trk(h:Heap)(H:Hp):List Addr:=(List.range h.objs.size).filter λa=>(H a).isSome
def vD(h:Heap)(H:Hp):Heap:=PySem.W.hideAll h (trk h H)
theorem Of(h:Heap)(H:Hp):(vD h H).objs.size=h.objs.size:=PySem.W.hideAll_size _ _
theorem Qo{h:Heap}{H:Hp}{b:Addr}{o:Obj}(e:h.get? b=some o)(n:H b=none):(vD h H).get? b=some o:=PySem.W.hideAll_get _ e λa=>by
 have q:(H b).isSome=true:=(bu.mp a).2;rw[n]at q;simp at q
theorem Ul{h:Heap}{H:Hp}{b:Addr}{o:Obj}(e:(vD h H).get? b=some o):h.get? b=some o/\H b=none:=by
 have a:h.get? b=some o:=PySem.W.of_hideAll (trk h H) e;refine⟨a,?_⟩;cases q:H b with
 | none=>rfl
 | some x=>
   have c:b∈trk h H:=bu.mpr ⟨cQ.mpr (aH a),by simp[q]⟩;have z:(vD h H).get? b=none:=PySem.W.hideAll_none (trk h H) c;rw[z]at e;cases e
def Uy(g h:Heap)(L:Addr):List (Addr×Obj):=(List.range h.objs.size).filterMap λa=>if a=L\/(g.get? a).isSome=true then none else(h.get? a).map λo=>(a,o)
def rest(g h:Heap)(L d:Addr):List (Addr×Obj):=(Uy g h L).filter λp=>decide (p.1≠d)
structure Mod(K:gx)(mg:hL)(base:Heap):Prop where
 kin:K.In base
 glob:base.Ns mainGlobals mg
 blt:∃mb,base.Ns builtinsNs mb/\∀x:Str,x≠"__name__"->mb x=bootBuiltins x
 nolimit:base.NoLimit
structure Cx where
 prog:Program
 w:World
 K:PySem.W.Frag
 mg:Str->Option Value
 base:Heap
 A:Around
 N:List Str
 s₀:Shared
 H₀:Hp
 env:Env
 outer:List Env
 stack:List Env
 ex:List Addr
 fn:Str->Bool
 calm:Bool
 pn:List (Addr×Obj)
 xe:Value->Shared->Prop
def Ϥ(l:List Env):List Addr:=l.filterMap (·.frame)
abbrev Cx.fs(X:Cx):List Addr:=Ϥ X.outer
def Vis(a:Scope)(x:Str):Prop:=a.names.lookup x=some .local\/a.names.lookup x=some .cell\/a.names.lookup x=some .free
def Loc(a:Scope)(x:Str):Prop:=a.names.lookup x=some .local\/a.names.lookup x=some .cell
def YI(a:Env)(h:Heap)(m:hL)(x:Str)(u:Value):Prop:=(a.kindOf x=some .local/\m x=some u)\/((a.kindOf x=some .cell\/a.kindOf x=some .free)/\∃c,a.cells.lookup x=some c/\h.IsCell c (some u))
structure Cx.Ok(X:Cx):Prop where
 mod:Mod X.K X.mg X.base
 kind:X.env.scope.kind=.function
 glob:X.env.globals=mainGlobals
 blt:X.env.builtins=builtinsNs
 above:X.s₀.heap.objs.size<=X.env.locals
 inj:∀x y c,X.env.cells.lookup x=some c->X.env.cells.lookup y=some c->x=y
 has:∀x,(X.env.kindOf x=some .cell\/X.env.kindOf x=some .free)->∃c,X.env.cells.lookup x=some c
 cab:∀x c,X.fn x=true->X.env.cells.lookup x=some c->X.s₀.heap.objs.size<=c
 hd:X.calm=true->X.A.handled=none
 frames:X.A.frames=some X.stack
 stk:X.stack=X.outer\/(X.stack=X.env::X.outer/\X.env.frame=some X.env.locals)
 exf:∀b∈X.ex,b≠X.env.locals/\∀x c,X.env.cells.lookup x=some c->c≠b
 bs:∀b o,X.base.get? b=some o->X.s₀.heap.get? b=some o/\X.H₀ b=none
 bsz:X.base.objs.size<=X.s₀.heap.objs.size
 aaW:∀b o,X.base.get? b=some o->b∉X.ex
 aas:∀b∈X.ex,b∉X.fs
 nE:X.s₀.heap.FunFrames X.base X.outer
 frf:∀b∈X.fs,X.H₀ b=none
structure Inv(X:Cx)(pins:g8)(σ:List (Option V))(H:Hp)(s:Shared):Prop where
 ok:X.Ok
 os:s.os=X.s₀.os
 bare:AllBare s.gens
 base:Un X.fs X.ex X.H₀ H X.s₀.heap s.heap
 loc:∃m,s.heap.Ns X.env.locals m/\∀(i:Nat)(x:Str)(v:V),X.N[i]?=some x->σ[i]?=some (some v)->Vis X.env.scope x->∃u,RelV v u/\YI X.env s.heap m x u
 cell:∀x c,X.env.cells.lookup x=some c->∃v,s.heap.IsCell c v
 free:H X.env.locals=none
 ϡ:∀x c,X.env.cells.lookup x=some c->H c=none
 pin:∀p∈X.pn++pins,s.heap.get? p.1=some p.2/\H p.1=none/\p.1≠X.env.locals/\p.1∉X.fs/\∀v,p.2.data≠.cell v
 Β:Ϯ X.prog X.w H s.heap
 len:σ.length=X.N.length
section
variable{X:Cx}{f:g8}{g:List (Option V)}{H B:Hp}{s:Shared}{h':Heap}
theorem Cx.Ok.akb(a:X.Ok){b:Addr}{o:Obj}(e:X.base.get? b=some o):b∉X.fs:=λc=>by
 have:=(a.nE.mem c).1;rw[e]at this;cases this
theorem Inv.bs(I:Inv X f g H s):∀b o,X.base.get? b=some o->s.heap.get? b=some o/\H b=none:=λb o e=>
 ⟨I.base.keep b o (I.ok.bs b o e).1 (I.ok.bs b o e).2 (I.ok.akb e) (I.ok.aaW b o e),I.base.free b o (I.ok.bs b o e).1 (I.ok.bs b o e).2 (I.ok.aaW b o e)⟩
theorem Inv.bk(I:Inv X f g H s):∀b o,X.base.get? b=some o->s.heap.get? b=some o:=λb o e=>(I.bs b o e).1
theorem Inv.mod(I:Inv X f g H s):Mod X.K X.mg X.base:=I.ok.mod
theorem Inv.kIn(I:Inv X f g H s):X.K.In s.heap:=I.ok.mod.kin.keeps I.bk
theorem Inv.lt(I:Inv X f g H s):X.env.locals<s.heap.objs.size:=let ⟨_,hn,_⟩:=I.loc;hn.lt
theorem Inv.sz(I:Inv X f g H s):X.s₀.heap.objs.size<=s.heap.objs.size:=bw I.ok.above (jd I.lt)
theorem Inv.akc(I:Inv X f g H s){a:Addr}(h:s.heap.objs.size<=a):a∉X.fs:=λc=>by
 obtain⟨_,o,b,_⟩:=I.ok.nE.mem c;exact absurd (aP (aH b) (bw I.sz h)) (dB _)
theorem Inv.cne(I:Inv X f g H s):∀x c,X.env.cells.lookup x=some c->c≠X.env.locals:=λx c e z=>by
 obtain⟨v,o,h,d⟩:=I.cell x c e;obtain⟨m,⟨j,k,i,a,b,_⟩,_⟩:=I.loc;rw[z,a]at h;cases h;rw[b]at d;cases d
theorem Inv.nE(I:Inv X f g H s):s.heap.FunFrames X.base X.outer:=by
 have a:∀(l:List Env),(∀b∈Ϥ l,b∈X.fs)->X.s₀.heap.FunFrames X.base l->s.heap.FunFrames X.base l:=by
  intro l
  induction l with
  | nil=>intro _ _;trivial
  | cons env r ih=>
    intro i n;obtain⟨q,⟨L,o,d,j,m,k⟩,p⟩:=n;have c:L∈X.fs:=i L (by unfold Ϥ;rw[iB,d];exact ax);obtain⟨t,e⟩:=I.base.slot L o m (I.ok.frf L c) c λz=>I.ok.aas L z c;exact⟨q,⟨L,_,d,j,e,k⟩,ih (λb h=>i b (by unfold Ϥ;rw[iB,d];exact aq _ h)) p⟩
 exact a X.outer (λ_ h=>h) I.ok.nE
theorem Inv.stack(I:Inv X f g H s):s.heap.FunFrames X.base X.stack:=by
 rcases I.ok.stk with e|⟨e,b⟩
 .rw[e];exact I.nE
 .rw[e];obtain⟨m,a,_⟩:=I.loc;refine .cons (by rw[I.ok.kind];decide) b a ?_ I.nE;exact Heap.get?_none_of_le (bw I.ok.bsz I.ok.above)
theorem Inv.aau(I:Inv X f g H s):∀b∈Ϥ X.stack,b∈X.env.locals::X.fs:=λb a=>by
 rcases I.ok.stk with e|⟨e,c⟩
 .rw[e]at a;exact aq _ a
 .rw[e]at a;unfold Ϥ at a;rw[iB,c]at a;exact a
theorem Inv.Zc(I:Inv X f g H s):∀b∈Ϥ X.stack,H b=none:=λb hb=>by
 rcases aD.mp (I.aau b hb)with e|hb
 .rw[e];exact I.free
 .obtain⟨_,o,ho,_⟩:=I.ok.nE.mem hb;exact I.base.free b o ho (I.ok.frf b hb) λz=>I.ok.aas b z hb
theorem Inv.step{g':Array GenState}{t':Nat}{d':Drawn}{ch:g9}(I:Inv X f g H s)(h:∀b∈ch,(b∈X.ex\/X.s₀.heap.objs.size<=b)/\b≠X.env.locals/\(∀x c,X.env.cells.lookup x=some c->c≠b)/\∀p∈X.pn++f,p.1≠b)(keep:∀b o,b≠X.env.locals->b∉X.fs->b∉ch->s.heap.get? b=some o->H b=none->h'.get? b=some o)(slot:∀b o,b≠X.env.locals->b∈X.fs->b∉ch->s.heap.get? b=some o->H b=none->∃O,h'.get? b=some { o with slots:=O })(free:∀b o,b∉ch->s.heap.get? b=some o->H b=none->B b=none)(there:∀b o,b∉ch->s.heap.get? b=some o->∃G,h'.get? b=some G)(ϟ:∀b C,H b=some (.tup C)->B b=some (.tup C))(eQ:∀b o u,H b=some (.frz o u)->B b=some (.frz o u))(lT:∀b L,H b=some (.tbl L)->∃F,B b=some (.tbl (L++F)))(U:∀m,s.heap.Ns X.env.locals m->h'.Ns X.env.locals m)(V:Ϯ X.prog X.w B h')(S:AllBare g'):Inv X f g B { s with heap:=h',gens:=g',drawn:=d',toks:=t' }:=by
 have J:∀b o,X.s₀.heap.get? b=some o->b≠X.env.locals:=λb o e=>aW (aP (aH e) I.ok.above);have A:∀b o,X.s₀.heap.get? b=some o->b∉X.ex->b∉ch:=λb o e a D=>by
  rcases(h b D).1 with z|z
  .exact a z
  .exact absurd (aP (aH e) z) (dB _)
 have t:∀x c,X.env.cells.lookup x=some c->∀v,s.heap.IsCell c v->h'.IsCell c v:=λx c e v ⟨o,E,N⟩=>by
  have j:c∉ch:=λz=>(h c z).2.2.1 x c e rfl;by_cases Q:c∈X.fs
  .obtain⟨O,q⟩:=slot c o (I.cne x c e) Q j E (I.ϡ x c e);exact⟨_,q,N⟩
  .exact⟨o,keep c o (I.cne x c e) Q j E (I.ϡ x c e),N⟩
 refine⟨I.ok,I.os,S,⟨λb o e n D a=>?_,λb o e n D a=>?_,λb o e n a=>?_,λb o e a=>?_,λb C e=>ϟ b C (I.base.ϟ b C e),λb o C e=>eQ b o C (I.base.eQ b o C e),λb L e=>?_⟩,?_,λx c e=>?_,?_,λx c e=>?_,λp P=>?_,V,I.len⟩
 .exact keep b o (J b o e) D (A b o e a) (I.base.keep b o e n D a) (I.base.free b o e n a)
 .obtain⟨O,y⟩:=I.base.slot b o e n D a;obtain⟨M,K⟩:=slot b _ (J b o e) D (A b o e a) y (I.base.free b o e n a);exact⟨M,K⟩
 .obtain⟨G,y⟩:=I.base.there b o e a;exact free b G (A b o e a) y (I.base.free b o e n a)
 .obtain⟨G,y⟩:=I.base.there b o e a;exact there b G (A b o e a) y
 .obtain⟨m1,y⟩:=I.base.lT b L e;obtain⟨T,K⟩:=lT b _ y;exact⟨m1++T,by rw[K,Array.append_assoc]⟩
 .obtain⟨m,hn,hl⟩:=I.loc;refine⟨m,U m hn,λi x v y K R=>?_⟩;obtain⟨u,r,l⟩:=hl i x v y K R;refine⟨u,r,?_⟩;rcases l with l|⟨k,c,e,z⟩
  .exact .inl l
  .exact .inr ⟨k,c,e,t x c e _ z⟩
 .obtain⟨v,z⟩:=I.cell x c e;exact⟨v,t x c e v z⟩
 .obtain⟨m,⟨o,_,_,E,_⟩,_⟩:=I.loc;exact free _ o (λz=>(h _ z).2.1 rfl) E I.free
 .obtain⟨v,o,E,N⟩:=I.cell x c e;exact free c o (λz=>(h c z).2.2.1 x c e rfl) E (I.ϡ x c e)
 .obtain⟨e,n,ne,nf,d⟩:=I.pin p P;have j:p.1∉ch:=λz=>(h p.1 z).2.2.2 p P rfl;exact⟨keep p.1 p.2 ne nf j e n,free p.1 p.2 j e n,ne,nf,d⟩
theorem Inv.un{t':Nat}(I:Inv X f g H s)(u:Un X.fs [] H B s.heap h')(p:Ϯ X.prog X.w B h'):Inv X f g B { s with heap:=h',toks:=t' }:=by
 obtain⟨m,⟨o,x,q,i,r⟩,_⟩:=id I.loc;obtain⟨y,k⟩:=u.any i I.free (by simp);exact I.step (g':=s.gens) (d':=s.drawn) (ch:=[]) (λ_ z=>nomatch z) (λb o _ h _ e n=>u.keep b o e n h (by simp)) (λb o _ h _ e n=>u.slot b o e n h (by simp)) (λb o _ e n=>u.free b o e n (by simp)) (λb o _ e=>u.there b o e (by simp)) u.ϟ u.eQ u.lT (λt l=>by
  obtain⟨v,d,c,a,j⟩:=l;rw[i]at a;cases a;exact⟨_,d,c,k,j⟩) p I.bare
theorem Inv.call{g':Array GenState}{t':Nat}{d':Drawn}{ch:g9}(I:Inv X f g H s)(u:Un (Ϥ X.stack) ch H B s.heap h')(y:Ϯ X.prog X.w B h')(t:AllBare g')(d:∀b∈ch,(b∈X.ex\/X.s₀.heap.objs.size<=b)/\b≠X.env.locals/\(∀x c,X.env.cells.lookup x=some c->c≠b)/\∀p∈X.pn++f,p.1≠b):Inv X f g B { s with heap:=h',gens:=g',drawn:=d',toks:=t' }:=by
 obtain⟨m,⟨o,F,C,l,r⟩,_⟩:=id I.loc;obtain⟨G,k⟩:=u.any l I.free λz=>(d _ z).2.1 rfl;exact I.step (ch:=ch) d (λb o k A a e n=>u.keep b o e n (λz=>(aD.mp (I.aau b z)).elim k A) a) (λb o _ _ a e n=>u.any e n a) (λb o a e n=>u.free b o e n a) (λb o a e=>u.there b o e a) u.ϟ u.eQ u.lT (λD v=>by
  obtain⟨E,j,i,h,q⟩:=v;rw[l]at h;cases h;exact⟨_,j,i,k,q⟩) y t
theorem Inv.turned{t':Nat}{it:Addr}(I:Inv X f g H s)(k:∀b o,b≠it->s.heap.get? b=some o->h'.get? b=some o)(i:H it=none)(h:it≠X.env.locals)(t:it∈X.ex\/X.s₀.heap.objs.size<=it)(l:∀x c,X.env.cells.lookup x=some c->c≠it)(j:∀p∈X.pn++f,p.1≠it):Inv X f g H { s with heap:=h',toks:=t' }:=by
 have d:∀b u,H b=some u->b≠it:=λb u e z=>by rw[z,i]at e;cases e
 refine I.step (g':=s.gens) (d':=s.drawn) (ch:=[it]) (λb y=>?_) (λb o _ _ a e _=>k b o (λz=>a (by simp[z])) e) (λb o _ _ a e _=>⟨o.slots,k b o (λz=>a (by simp[z])) e⟩) (λ_ _ _ _ n=>n)
  (λb o a e=>⟨o,k b o (λz=>a (by simp[z])) e⟩) (λ_ _ e=>e) (λ_ _ _ e=>e) (λb A e=>⟨#[],by rw[e];simp⟩) (λm w=>?_) (λb u e=>?_) I.bare
 .have e:b=it:=by simpa using y
  subst e;exact⟨t,h,l,j⟩
 .obtain⟨o,es,ep,ho,r⟩:=w;exact⟨o,es,ep,k _ o (Ne.symm h) ho,r⟩
 .refine(I.Β b u e).dO (λc v a q=>k c v ?_ q) (λ_ q=>q) λ_ _ q=>q;rcases a with z|z
  .rw[z];exact d b u e
  .exact d c _ z
theorem Inv.tok(I:Inv X f g H s)(t:Nat):Inv X f g H { s with toks:=t }:=I.un (h':=s.heap) (t':=t) Un.refl I.Β
theorem Inv.kept{t':Nat}(I:Inv X f g H s)(k:∀b u,s.heap.get? b=some u->h'.get? b=some u):Inv X f g H { s with heap:=h',toks:=t' }:=I.un (Un.kept k) (I.Β.kept k)
theorem Inv.laid{a:Addr}{o:HO}{t':Nat}(I:Inv X f g H s)(k:∀b u,s.heap.get? b=some u->h'.get? b=some u)(c:s.heap.objs.size<=a)(d:Λ X.prog X.w (upd H a o) h' a o):Inv X f g (upd H a o) { s with heap:=h',toks:=t' }:=I.un (Un.laid k c (I.Β.fresh c)) (I.Β.laid k c d)
theorem Inv.write{x e:Addr}{o:HO}{i:Nat}(I:Inv X f g H s)(h:Mut (H x))(d:e=x\/H e=some (.own x))(k:∀b u,b≠e->s.heap.get? b=some u->h'.get? b=some u)(a:∃u,h'.get? e=some u)(c:Λ X.prog X.w (upd H x o) h' x o):Inv X f g (upd H x o) { s with heap:=h',toks:=i }:=I.un (Un.write h d k a) (I.Β.write h d k a c)
theorem Inv.aaH{a:g8}(I:Inv X f g H s)(h:∀p∈a,s.heap.get? p.1=some p.2/\H p.1=none/\p.1≠X.env.locals/\p.1∉X.fs/\∀v,p.2.data≠.cell v):Inv X a g H s:=⟨I.ok,I.os,I.bare,I.base,I.loc,I.cell,I.free,I.ϡ,λp b=>(bd.mp b).elim (λz=>I.pin p (bB _ z)) (h p),I.Β,I.len⟩
theorem Iq{N:hO}(d:N.Nodup){i j:Nat}{x:Str}(a:N[i]?=some x)(b:N[j]?=some x):i=j:=by
 obtain⟨h,c⟩:=aw.mp a;obtain⟨k,e⟩:=aw.mp b;exact(List.getElem_inj d).mp (c.trans e.symm)
theorem EB{M:Model}{A:Around}{E:gq}{i:Nat}{x:Str}{v:V}{u:Value}{Q:Unit->Shared->Prop}(I:Inv X f g H s)(hN:X.N.Nodup)(O:X.N[i]?=some x)(D:Loc X.env.scope x)(r:RelV v u)(h:∀s',Inv X f (g.set i (some v)) H s'->(∃a,Heap.SameBut a s.heap s'.heap/\(a=X.env.locals\/X.env.cells.lookup x=some a))->Q () s')(hf:X.fn x=true\/X.env.scope.names.lookup x=some .local:=by first|exact .inl rfl|exact .inr rfl|assumption):wpAny M A (storeName X.env x u) Q E s:=by
 obtain⟨m,S,hl⟩:=id I.loc;have ac:(X.env.scope.kind==.class||(X.env.scope.kind==.module&&X.env.locals != X.env.globals))=false:=by rw[I.ok.kind];rfl
 have J:i<g.length:=by rw[I.len];exact(aw.mp O).1
 have cne:=I.cne;have C:∀{a:Addr}{h':Heap},(∃o,s.heap.get? a=some o/\H a=none)->Heap.SameBut a s.heap h'->Ϯ X.prog X.w H h':=λ{a h'} ha l b ob e=>by
  obtain⟨_,_,Z6⟩:=ha;refine(I.Β b ob e).dO (λc R hc q=>(l.2 c ?_).trans q) (λ_ q=>q) λ_ _ q=>q;rintro rfl;rcases hc with rfl|hc
  .rw[Z6]at e;cases e
  .rw[Z6]at hc;cases hc
 rcases D with hk|hk
 .refine wpAny_storeName_local hk S (λh' ae l=>?_) ac;obtain⟨oL,_,_,Y,_⟩:=id S;refine h _ ⟨I.ok,I.os,I.bare,⟨λb o e n G D=>?_,λb o e n G D=>?_,I.base.free,λb o e D=>?_,I.base.ϟ,I.base.eQ,I.base.lT⟩,⟨_,ae,λj y Z t F U=>?_⟩,λy c e=>?_,I.free,I.ϡ,λp hp=>?_,C ⟨oL,Y,I.free⟩ l,by simpa using I.len⟩ ⟨_,l,.inl rfl⟩
  .exact(l.2 b (aW (aP (aH e) I.ok.above))).trans (I.base.keep b o e n G D)
  .obtain⟨sl,t⟩:=I.base.slot b o e n G D;exact⟨sl,(l.2 b (aW (aP (aH e) I.ok.above))).trans t⟩
  .obtain⟨o',t⟩:=I.base.there b o e D;exact⟨o',(l.2 b (aW (aP (aH e) I.ok.above))).trans t⟩
  .by_cases hj:j=i
   .subst hj;rw[O]at t;cases t;rw[dG J]at F;cases F;exact⟨u,r,.inl ⟨hk,by simp⟩⟩
   .rw[cP (Ne.symm hj)]at F;obtain⟨u',T,q⟩:=hl j y Z t F U;refine⟨u',T,?_⟩;rcases q with⟨k,e⟩|⟨k,c,e,z⟩
    .refine .inl ⟨k,?_⟩;have:y≠x:=λe=>hj (Iq hN t (e▸O));simp[this,e]
    .exact .inr ⟨k,c,e,z.sameBut l (cne y c e)⟩
  .obtain⟨R,z⟩:=I.cell y c e;exact⟨R,z.sameBut l (cne y c e)⟩
  .obtain⟨e,n,ne,nf,d⟩:=I.pin p hp;exact⟨(l.2 p.1 ne).trans e,n,ne,nf,d⟩
 .have hfn:X.fn x=true:=by
   rcases hf with z|z
   .exact z
   .rw[z]at hk;cases hk
  obtain⟨c,hc⟩:=I.ok.has x (.inl hk);obtain⟨R,z⟩:=I.cell x c hc;refine wpAny_storeName_cell I.ok.kind hk hc z (λh' K l=>?_);obtain⟨oc,L,W⟩:=id z;refine h { s with heap:=h' } ⟨I.ok,I.os,I.bare,⟨λb o e n G D=>?_,λb o e n G D=>?_,I.base.free,λb o e D=>?_,I.base.ϟ,I.base.eQ,I.base.lT⟩,⟨m,S.sameBut l (Ne.symm (cne x c hc)),λj y Z t F U=>?_⟩,λy P e=>?_,I.free,I.ϡ,λp hp=>?_,C ⟨oc,L,I.ϡ x c hc⟩ l,by simpa using I.len⟩ ⟨c,l,.inr hc⟩
  .exact(l.2 b (aW (aP (aH e) (I.ok.cab x c hfn hc)))).trans (I.base.keep b o e n G D)
  .obtain⟨sl,t⟩:=I.base.slot b o e n G D;exact⟨sl,(l.2 b (aW (aP (aH e) (I.ok.cab x c hfn hc)))).trans t⟩
  .obtain⟨o',t⟩:=I.base.there b o e D;exact⟨o',(l.2 b (aW (aP (aH e) (I.ok.cab x c hfn hc)))).trans t⟩
  .by_cases hj:j=i
   .subst hj;rw[O]at t;cases t;rw[dG J]at F;cases F;exact⟨u,r,.inr ⟨.inl hk,c,hc,K⟩⟩
   .rw[cP (Ne.symm hj)]at F;obtain⟨u',T,q⟩:=hl j y Z t F U;refine⟨u',T,?_⟩;rcases q with q|⟨k,P,e,z'⟩
    .exact .inl q
    .refine .inr ⟨k,P,e,z'.sameBut l ?_⟩;rintro rfl;exact hj (Iq hN t (I.ok.inj _ _ _ e hc▸O))
  .by_cases hcc:P=c
   .subst hcc;exact⟨_,K⟩
   .obtain⟨w2,z2⟩:=I.cell y P e;exact⟨w2,z2.sameBut l hcc⟩
  .obtain⟨e,n,ne,nf,d⟩:=I.pin p hp;refine⟨(l.2 p.1 ?_).trans e,n,ne,nf,d⟩;intro q;rw[q,L]at e;have q':oc=p.2:=bq e;exact d R (by rw[<-q'];exact W)
theorem Ab{M:Model}{A:Around}{E:gq}{i:Nat}{x:Str}{v:V}{u:Value}{Q:Unit->Shared->Prop}(I:Inv X f g H s)(d:X.N.Nodup)(b:X.N[i]?=some x)(c:Loc X.env.scope x)(r:RelV v u)(h:∀a,Inv X f (g.set i (some v)) H a->Q () a)(j:X.fn x=true\/X.env.scope.names.lookup x=some .local:=by first|exact .inl rfl|exact .inr rfl|assumption):wpAny M A (storeName X.env x u) Q E s:=EB I d b c r (λa e _=>h a e) j
theorem Inv.adp{s':Shared}{ch:g9}(I:Inv X f g H s)(h:s'.os=s.os)(u:Un (Ϥ X.stack) ch H B s.heap s'.heap)(i:Ϯ X.prog X.w B s'.heap)(d:AllBare s'.gens)(a:∀b∈ch,(b∈X.ex\/X.s₀.heap.objs.size<=b)/\b≠X.env.locals/\(∀x c,X.env.cells.lookup x=some c->c≠b)/\∀p∈X.pn++f,p.1≠b):Inv X f g B s':=by
 obtain⟨h',g',d',t',j⟩:=s';have e:j=s.os:=h;subst e;exact I.call (g':=g') (t':=t') (d':=d') u i d a
end
abbrev XK:=Value->Option Addr->Hp->Prop
abbrev St:=List (Option V)
abbrev VK:=V->Hp->Prop
abbrev TE:=St->Hp->VK->Prop
abbrev TT:=St->Hp->(Bool->Hp->Prop)->Prop
abbrev TA:=St->Hp->(List V->Hp->Prop)->Prop
structure Ends where
 nx:St->Hp->Prop
 rt:VK
 bk:St->Hp->Prop:=λ_ _=>False
 ct:St->Hp->Prop:=λ_ _=>False
abbrev TS:=Ends->St->Hp->Prop
def EP(X:Cx)(a:g8)(c:St)(Q:VK)(u:Value)(d:Shared):Prop:=∃v b,Inv X a c b d/\RelV v u/\Q v b
def TP(X:Cx)(a:g8)(d:St)(Q:Bool->Hp->Prop)(b:Bool)(e:Shared):Prop:=∃c,Inv X a d c e/\Q b c
def AP(X:Cx)(a:g8)(d:St)(Q:List V->Hp->Prop)(e:hH)(f:Shared):Prop:=∃c b,Inv X a d b f/\Vals c e/\Q c b
def SP(X:Cx)(b:g8)(D:Ends)(f:Flow)(d:Shared):Prop:=match f with
 | .next=>∃a c,Inv X b a c d/\D.nx a c
 | .brk=>∃a c,Inv X b a c d/\D.bk a c
 | .cont=>∃a c,Inv X b a c d/\D.ct a c
 | .ret u=>∃v a c,Inv X b a c d/\RelV v u/\D.rt v c
def PE(X:Cx)(e:Expr)(t:TE):Prop:=∀(a:g8)(s:Shared)(b:St)(H:Hp)(Q:VK),Inv X a b H s->t b H Q->wpAny (model X.prog X.w) X.A (eval e X.env) (EP X a b Q) X.xe s
def PT(X:Cx)(e:Expr)(t:TT):Prop:=∀(a:g8)(s:Shared)(b:St)(H:Hp)(Q:Bool->Hp->Prop),Inv X a b H s->t b H Q->wpAny (model X.prog X.w) X.A (isTrue e X.env (eval e X.env)) (TP X a b Q) X.xe s
def PW(X:Cx)(e:Expr)(t:TT):Prop:=∀(b:Sem Value)(a:g8)(s:Shared)(c:St)(H:Hp)(Q:Bool->Hp->Prop),Inv X a c H s->t c H Q->wpAny (model X.prog X.w) X.A (isTrue e X.env b) (TP X a c Q) X.xe s
theorem PW.pt{X:Cx}{e:Expr}{t:TT}(h:PW X e t):PT X e t:=h _
def PA(X:Cx)(d:List Expr)(t:TA):Prop:=∀(c:Pos)(a:g8)(s:Shared)(b:St)(H:Hp)(Q:List V->Hp->Prop),Inv X a b H s->t b H Q->wpAny (model X.prog X.w) X.A (spliced (backTo c (starEach d X.env))) (AP X a b Q) X.xe s
def PS(X:Cx)(st:Stmt)(t:TS):Prop:=∀(a:g8)(s:Shared)(b:St)(H:Hp)(D:Ends),Inv X a b H s->t D b H->wpAny (model X.prog X.w) X.A (exec st X.env) (SP X a D) X.xe s
def PSs(X:Cx)(st:List Stmt)(t:TS):Prop:=∀(a:g8)(s:Shared)(b:St)(H:Hp)(D:Ends),Inv X a b H s->t D b H->wpAny (model X.prog X.w) X.A (execs st X.env) (SP X a D) X.xe s
theorem ϖ{b:Type}{t:Sem b}{Q c:b->Shared->Prop}{M:Model}{A:Around}{E:gq}{s:Shared}(h:wpAny M A t Q E s)(d:∀a s,Q a s->c a s):wpAny M A t c E s:=fI h d λ_ _ x=>x
theorem eT{t:Sem Value}{X:Cx}{a:g8}{b:St}{Q:VK}{c:gq}{M:Model}{A:Around}{E:gq}{s:Shared}(h:wpAny M A t (EP X a b Q) E s)(d:∀u s v H,Inv X a b H s->RelV v u->Q v H->c u s):wpAny M A t c E s:=ϖ h λu s ⟨v,H,I,r,q⟩=>d u s v H I r q
theorem uG{t:Sem (List Value)}{X:Cx}{a:g8}{b:St}{Q:List V->Hp->Prop}{c:List Value->Shared->Prop}{M:Model}{A:Around}{E:gq}{s:Shared}(h:wpAny M A t (AP X a b Q) E s)(d:∀u s v H,Inv X a b H s->Vals v u->Q v H->c u s):wpAny M A t c E s:=ϖ h λu s ⟨v,H,I,r,q⟩=>d u s v H I r q
theorem Db{t:Sem Bool}{X:Cx}{a:g8}{b:St}{Q:Bool->Hp->Prop}{c:Bool->Shared->Prop}{M:Model}{A:Around}{E:gq}{s:Shared}(h:wpAny M A t (TP X a b Q) E s)(d:∀u s H,Inv X a b H s->Q u H->c u s):wpAny M A t c E s:=ϖ h λu s ⟨H,I,q⟩=>d u s H I q
section
variable{X:Cx}
def xK(i:Nat):TE:=λa H Q=>∃v,a[i]?=some (some v)/\Q v H
def tC(v:V):TE:=λ_ H Q=>Q v H
theorem FU{i:Nat}{x:Str}{g:Pos}(n:X.N[i]?=some x)(p:Vis X.env.scope x)(d:(x==("__debug__":Str))=false:=by decide)(f:(x==("__classdict__":Str))=false:=by decide):PE X (.Name x g) (xK i):=by
 intro b s k H Q I h;obtain⟨v,e,h⟩:=h;obtain⟨m,j,o⟩:=I.loc;obtain⟨u,r,l⟩:=o i x v n e p;have a:EP X b k Q u s:=⟨v,H,I,r,h⟩;rcases l with⟨hk,hm⟩|⟨hk,c,hc,Ϲ⟩
 .exact wpAny_Name (wpAny_loadName_local I.ok.kind hk j hm a) d
 .rcases hk with hk|hk
  .exact wpAny_Name (wpAny_loadName_cell I.ok.kind hk hc Ϲ a) d
  .exact wpAny_Name (wpAny_loadName_free I.ok.kind hk hc Ϲ a f) d
theorem aQ{i j pos}:PE X (.Constant (.int i) j pos) (tC (.int i)):=λ_ _ _ H _ I h=>wpAny_Constant_int ⟨.int i,H,I.tok _,⟨_,rfl⟩,h⟩
theorem Cd{b j pos}:PE X (.Constant (.bool b) j pos) (tC (.bl b)):=λ_ _ _ H _ I h=>Constant_bool ⟨.bl b,H,I,rfl,h⟩
theorem vo{j pos}:PE X (.Constant .none j pos) (tC .ς):=λ_ _ _ H _ I h=>Constant_none ⟨.ς,H,I,rfl,h⟩
theorem uK{x j pos}:PE X (.Constant (.str x) j pos) (tC (.str x)):=λ_ _ _ H _ I h=>Calls.Constant_str ⟨.str x,H,I.tok _,⟨_,rfl⟩,h⟩
def Gl(X:Cx)(x:Str):Prop:=X.env.kindOf x=some .globalImplicit
theorem yO{E:gq}{a:g8}{s:Shared}{c:St}{H:Hp}{x:Str}{u:Value}{b:Pos}{Q:gq}(I:Inv X a c H s)(d:Gl X x)(e:X.mg x=some u)(h:Q u s)(f:(x==("__debug__":Str))=false:=by decide):wpAny (model X.prog X.w) X.A (eval (.Name x b) X.env) Q E s:=kD I.ok.kind d (Calls.loadGlobal_global (by rw[I.ok.glob];exact I.mod.glob.keeps I.bk) e h) f
theorem pS{E:gq}{a:g8}{s:Shared}{d:St}{H:Hp}{x:Str}{u:Value}{b:Pos}{Q:gq}(I:Inv X a d H s)(e:Gl X x)(k:X.mg x=none)(i:bootBuiltins x=some u)(h:Q u s)(c:x≠"__name__":=by decide)(f:(x==("__debug__":Str))=false:=by decide):wpAny (model X.prog X.w) X.A (eval (.Name x b) X.env) Q E s:=by
 obtain⟨l,j,g⟩:=I.mod.blt;exact kD I.ok.kind e (Calls.loadGlobal_builtin (by rw[I.ok.glob];exact I.mod.glob.keeps I.bk) k (by rw[I.ok.blt];exact j.keeps I.bk) ((g x c).trans i) h) f
theorem JQ{x:Str}{v:V}{u:Value}{a:Pos}(b:Gl X x)(c:X.mg x=some u)(r:RelV v u)(d:(x==("__debug__":Str))=false:=by decide):PE X (.Name x a) (tC v):=λ_ _ _ H _ I h=>yO I b c ⟨v,H,I,r,h⟩ d
variable{a b:Expr}{n o:TE}{pos:Pos}
def PC(X:Cx)(g:CmpOp)(a b:Expr)(t:TE):Prop:=∀(c:g8)(s:Shared)(f:St)(H:Hp)(Q:VK),Inv X c f H s->t f H Q->wpAny (model X.prog X.w) X.A (eval a X.env) (λv d=>wpAny (model X.prog X.w) X.A (eval b X.env) (λu e=>wpAny (model X.prog X.w) X.A (compareOp g v u) (EP X c f Q) X.xe e) X.xe d) X.xe s
def tB(t:TE):TT:=λe H Q=>t e H λx d=>∃c,x=.bl c/\Q c d
theorem X0{f:CmpOp}{t:TE}(h:PC X f a b t)(g:behindInMarks f b=false:=by first|exact afz _ (by decide) (by decide)|rfl):PT X (.Compare a [f] [b] pos) (tB t):=by
 intro e s k H Q I i;refine wpAny_isTrue_Compare1 (ϖ (h e s k H _ I i) λv y g=>ϖ g λu z p=>ϖ p λc w ⟨x,j,r,l,m⟩=>?_) g;obtain⟨d,rfl,q⟩:=m;cases l;exact dy ⟨j,r,q⟩
theorem pR{e:Expr}{t:TE}(h:PE X e t)(g:∀c,isTrue e X.env c=(do let v <-c;standAt e.pos;holding [v] (truthy v)):=by intro _;rfl):PT X e (tB t):=by
 intro f s k H Q I i;refine isTrue_plain (eT (h f s k H _ I i) λv r x j p l m=>?_) (g _);obtain⟨d,rfl,q⟩:=m;cases l;exact dy ⟨j,p,q⟩
variable{g k:TT}{f:List Expr}
def QI(t u:TT):TT:=λe H Q=>t e H λc d=>if c=true then u e d Q else Q false d
def tOr(t u:TT):TT:=λe H Q=>t e H λc d=>if c=true then Q true d else u e d Q
def Ti(t:TT):TT:=λe H Q=>t e H λc d=>Q (!c) d
theorem Dw(i:PT X a g):PW X (.BoolOp .And [a] pos) g:=by
 intro m d s j H Q I h;refine isTrue_and (ϖ (i d s j H Q I h) λc l e=>?_);cases c with
 | true=>exact isTrue_and_nil e
 | false=>exact e
theorem Wy(i:PT X a g):PW X (.BoolOp .Or [a] pos) g:=by
 intro m d s j H Q I h;refine isTrue_or (ϖ (i d s j H Q I h) λc l e=>?_);cases c with
 | false=>exact isTrue_or_nil e
 | true=>exact e
theorem GS(m:PT X a g)(r:PW X (.BoolOp .And (b::f) pos) k):PW X (.BoolOp .And (a::b::f) pos) (QI g k):=by
 intro q d s i H Q I h;refine isTrue_and (Db (m d s i H _ I h) λc p e j l=>?_);cases c with
 | true=>exact r q d p i e Q j l
 | false=>exact⟨e,j,l⟩
theorem Yq(m:PT X a g)(r:PW X (.BoolOp .Or (b::f) pos) k):PW X (.BoolOp .Or (a::b::f) pos) (tOr g k):=by
 intro q d s i H Q I h;refine isTrue_or (Db (m d s i H _ I h) λc p e j l=>?_);cases c with
 | true=>exact⟨e,j,l⟩
 | false=>exact r q d p i e Q j l
theorem sH(i:PT X a g):PT X (.UnaryOp .Not a pos) (Ti g):=by
 intro d s j H Q I h;exact isTrue_not (i d s j H (λc e=>Q (!c) e) I h)
def LR(n o:TE):TE:=λe H Q=>n e H λx d=>∃c,x=.bl c/\if c=true then o e d Q else Q (.bl false) d
theorem Oi{op}{t:TE}(h:PE X a t):PE X (.BoolOp op [a] pos) t:=λc s d H Q I e=>BoolOp_one (h c s d H Q I e)
theorem MT(m:PE X a n)(r:PE X (.BoolOp .And (b::f) pos) o):PE X (.BoolOp .And (a::b::f) pos) (LR n o):=by
 intro d s j H Q I h;refine BoolOp_and (eT (m d s j H _ I h) λv p x i l q e=>?_);obtain⟨c,rfl,e⟩:=e;cases q;refine dy ?_;cases c with
 | true=>exact r d p j i Q l e
 | false=>exact⟨.bl false,i,l,rfl,e⟩
end
def ν(K:gx)(H:Hp)(a:Addr)(xs:List V):Prop:=Rd H a (.lst xs)\/∃(o:Obj)(b:Array Value)(n:Nat),K.lookup a=some o/\o.cls=.type "list"/\o.dict=none/\o.data=.seq b n/\b.size<=sizeLine/\Vals xs b.toList
def Κ(K:gx)(H:Hp)(a:Addr)(xs:List V):Prop:=Rd H a (.tup xs)\/∃(o:Obj)(b:Array Value)(n:Nat),K.lookup a=some o/\o.cls=.type "tuple"/\o.data=.seq b n/\b.size<=sizeLine/\Vals xs b.toList
def YM:Value->Option V
 | .none=>some .ς
 | .bool b=>some (.bl b)
 | .int i _=>some (.int i)
 | .str x _=>some (.str x)
 | .bytes b _=>some (.byt b)
 | .float b _=>some (.flt b)
 | .ref a=>some (.ref a)
 | .type n=>some (.ty n)
 | _=>none
theorem RelV.abs{x:V}{u:Value}(r:RelV x u):YM u=some x:=by
 cases x with
 | ς=>cases r;rfl
 | bl _=>cases r;rfl
 | int _=>obtain⟨t,rfl⟩:=r;rfl
 | str _=>obtain⟨t,rfl⟩:=r;rfl
 | byt _=>obtain⟨t,rfl⟩:=r;rfl
 | flt _=>obtain⟨t,rfl⟩:=r;rfl
 | ref _=>cases r;rfl
 | ty _=>cases r;rfl
theorem RelV.inj{x y:V}{u:Value}(r:RelV x u)(q:RelV y u):x=y:=bq (r.abs.symm.trans q.abs)
theorem Vals.inj{d a:List V}{b:hH}(h:Vals d b)(c:Vals a b):d=a:=by
 induction h generalizing a with
 | nil=>cases c;rfl
 | cons r _ ih=>cases c with|cons r2 t2=>rw[r.inj r2,ih t2]
section
variable{X:Cx}{b:g8}{c:St}{H:Hp}{s:Shared}{a:Addr}{xs f:List V}
theorem ν.of{K:gx}(h:H a=some (.lst xs)):ν K H a xs:=.inl (.inl h)
theorem Κ.of{K:gx}(h:H a=some (.tup xs)):Κ K H a xs:=.inl (.inl h)
theorem Inv.list(I:Inv X b c H s)(h:ν X.K H a xs):∃d:List Value,Vals xs d/\PlainL s.heap a d.toArray/\xs.length<=sizeLine:=by
 rcases h with h|⟨o,d,n,i,j,k,g,l,r⟩
 .obtain⟨z,d,n,r,e⟩:=h.ok I.Β;exact⟨d,r,⟨_,n,e,rfl,rfl,rfl⟩,z⟩
 .refine⟨d.toList,r,⟨o,n,I.kIn a o i,j,k,by simpa using g⟩,?_⟩;have e:=r.length;simp only[nL]at e
  lia
theorem Inv.tuple(I:Inv X b c H s)(h:Κ X.K H a xs):∃d:List Value,Vals xs d/\IsTup s.heap a d.toArray/\xs.length<=sizeLine:=by
 rcases h with h|⟨o,d,n,i,j,g,k,r⟩
 .obtain⟨z,d,r,p⟩:=h.ok I.Β;exact⟨d,r,p,z⟩
 .refine⟨d.toList,r,⟨o,I.kIn a o i,j,n,by simpa using g⟩,?_⟩;have e:=r.length;simp only[nL]at e
  lia
theorem Inv.gE(I:Inv X b c H s)(h:ν X.K H a xs)(m:ν X.K H a f):xs=f:=by
 obtain⟨i,r,⟨o,n,e,_,_,d⟩,_⟩:=I.list h;obtain⟨g,l,⟨q,p,j,_,_,k⟩,_⟩:=I.list m;rw[e]at j;cases j;rw[d]at k;injection k with d1 _
 have:i=g:=by simpa using congrArg Array.toList d1
 subst this;exact r.inj l
theorem Inv.ZC(I:Inv X b c H s)(h:Κ X.K H a xs)(m:Κ X.K H a f):xs=f:=by
 obtain⟨i,r,⟨o,e,_,n,d⟩,_⟩:=I.tuple h;obtain⟨g,l,⟨q,j,_,p,k⟩,_⟩:=I.tuple m;rw[e]at j;cases j;rw[d]at k;injection k with d1 _
 have:i=g:=by simpa using congrArg Array.toList d1
 subst this;exact r.inj l
end
abbrev Cx.wish(X:Cx)(E:gq):Cx:={ X with xe:=E }
abbrev Cx.nox(X:Cx):Cx:=X.wish λ_ _=>False
theorem Cx.Ok.wish{X:Cx}(a:X.Ok)(E:gq):(X.wish E).Ok:=⟨a.mod,a.kind,a.glob,a.blt,a.above,a.inj,a.has,a.cab,a.hd,a.frames,a.stk,a.exf,a.bs,a.bsz,a.aaW,a.aas,a.nE,a.frf⟩
theorem Cx.Ok.ϯ{X:Cx}{E:gq}(a:(X.wish E).Ok):X.Ok:=⟨a.mod,a.kind,a.glob,a.blt,a.above,a.inj,a.has,a.cab,a.hd,a.frames,a.stk,a.exf,a.bs,a.bsz,a.aaW,a.aas,a.nE,a.frf⟩
section
variable{X:Cx}{a:g8}{b:St}{H:Hp}{s:Shared}{E:gq}
theorem Inv.wish(I:Inv X a b H s)(E:gq):Inv (X.wish E) a b H s:=⟨I.ok.wish E,I.os,I.bare,I.base,I.loc,I.cell,I.free,I.ϡ,I.pin,I.Β,I.len⟩
theorem Inv.ϯ(I:Inv (X.wish E) a b H s):Inv X a b H s:=⟨I.ok.ϯ,I.os,I.bare,I.base,I.loc,I.cell,I.free,I.ϡ,I.pin,I.Β,I.len⟩
theorem SP.ϯ{D:Ends}{f:Flow}{e:Shared}(h:SP (X.wish E) a D f e):SP X a D f e:=by
 cases f with
 | next=>obtain⟨c,d,I,q⟩:=h;exact⟨c,d,I.ϯ,q⟩
 | brk=>obtain⟨c,d,I,q⟩:=h;exact⟨c,d,I.ϯ,q⟩
 | cont=>obtain⟨c,d,I,q⟩:=h;exact⟨c,d,I.ϯ,q⟩
 | ret u=>obtain⟨v,c,d,I,r,q⟩:=h;exact⟨v,c,d,I.ϯ,r,q⟩
theorem PSs.nox{st:List Stmt}{t:TS}(h:PSs X.nox st t):PSs X st t:=λa s b H D I c=>
 fI (h a s b H D (I.wish _) c) (λ_ _ q=>q.ϯ) λ_ _ z=>False.elim z
end
section
variable{X:Cx}{k:Stmt}{i:List Stmt}{t u:TS}{e:Expr}{j:TE}{g:Pos}
def abz:TS:=λD a H=>D.nx a H
def K0(t u:TS):TS:=λD a H=>t { D with nx:=u D } a H
theorem dI:PSs X [] abz:=λ_ _ a H _ I h=>jp ⟨a,H,I,h⟩
theorem aI(c:PS X k t)(n:PSs X i u):PSs X (k::i) (K0 t u):=by
 intro a s d H D I h;refine wpAny_execs_cons (ϖ (c a s d H { D with nx:=u D } I h) λf m q=>?_);cases f with
 | next=>
   obtain⟨b,l,o,q⟩:=q;exact n a m b l D o q
 | ret v=>exact q
 | brk=>exact q
 | cont=>exact q
theorem aM(b:PS X k t):PSs X [k] t:=by
 intro a s c H D I h;refine wpAny_execs_cons (ϖ (b a s c H D I h) λf d q=>?_);cases f with
 | next=>exact jp q
 | ret v=>exact q
 | brk=>exact q
 | cont=>exact q
theorem Inv.quiet{a:g8}{b:St}{H:Hp}{s:Shared}(I:Inv X a b H s):interactive X.env=false:=by simp[interactive,I.ok.kind]
def Mn(j:TE):TS:=λD a H=>j a H λ_ b=>D.nx a b
theorem fD(f:PE X e j)(c:swapsWith e none g.line X.env=pure false:=by rfl):PS X (.Expr e g) (Mn j):=by
 intro a s b H D I h;exact wpAny_Expr_any (eT (f a s b H _ I h) λv n x d l o m=>⟨b,d,l,m⟩) I.quiet c
def Td(j:TE):TS:=λD a H=>j a H D.rt
theorem bM(d:PE X e j):PS X (.Return (some e) g) (Td j):=by
 intro a s b H D I h;exact wpAny_Return_some (eT (d a s b H _ I h) λv n x c l f m=>⟨x,b,c,l,f,m⟩)
def Su(c:TT)(t u:TS):TS:=λD a H=>c a H λb d=>if b=true then t D a d else u D a d
theorem fh{c:Expr}{a b:List Stmt}{o:TT}(v:PT X c o)(r:PSs X a t)(w:PSs X b u):PS X (.If c a b g) (Su o t u):=by
 intro f s l H D I h;refine wpAny_If (Db (v f s l H _ I h) λd p m q n=>?_);cases d with
 | true=>exact r f p l m D q n
 | false=>exact w f p l m D q n
def abA:TS:=λ_ _ _=>False
theorem qM:PS X k abA:=λ_ _ _ _ _ _ h=>h.elim
end
abbrev TG:=V->St->Hp->(St->Hp->Prop)->Prop
abbrev TGs:=List V->St->Hp->(St->Hp->Prop)->Prop
def PG(X:Cx)(a:Expr)(t:TG):Prop:=∀(b:g8)(s:Shared)(d:St)(H:Hp)(v:V)(u:Value)(Q:St->Hp->Prop),Inv X b d H s->RelV v u->t v d H Q->wpAny (model X.prog X.w) X.A (assign a X.env u) (λ_ f=>∃c e,Inv X b c e f/\Q c e) X.xe s
def PGs(X:Cx)(g:List Expr)(t:TGs):Prop:=∀(a:g8)(s:Shared)(c:St)(H:Hp)(f:List V)(e:hH)(Q:St->Hp->Prop),Inv X a c H s->Vals f e->t f c H Q->wpAny (model X.prog X.w) X.A (assignInOrder ((assignEach g X.env).map (·.2)) e) (λ_ h=>∃b d,Inv X a b d h/\Q b d) X.xe s
abbrev Gx:=V->V->V->Hp->(Hp->Prop)->Prop
def Ro(X:Cx)(t:Gx):Prop:=∀(a:g8)(s:Shared)(b:St)(H:Hp)(o i v:V)(c e u:Value)(Q:Hp->Prop),Inv X a b H s->RelV o c->RelV i e->RelV v u->t o i v H Q->wpAny (model X.prog X.w) X.A (setItem c e u) (λ_ f=>∃d,Inv X a b d f/\Q d) X.xe s
abbrev TIp:=V->V->Hp->VK->Prop
def PIp(X:Cx)(c:Operator)(t:TIp):Prop:=∀(a:g8)(s:Shared)(b:St)(H:Hp)(x y:V)(v u:Value)(Q:VK),Inv X a b H s->RelV x v->RelV y u->t x y H Q->wpAny (model X.prog X.w) X.A (inplaceOp c v u) (EP X a b Q) X.xe s
section
variable{X:Cx}{d:Pos}
def vL(i:Nat):TG:=λv a H Q=>Q (a.set i (some v)) H
theorem eE{i:Nat}{x:Str}(e:X.N.Nodup)(b:X.N[i]?=some x)(c:Loc X.env.scope x)(g:X.fn x=true\/X.env.scope.names.lookup x=some .local:=by first|exact .inl rfl|exact .inr rfl|assumption):PG X (.Name x d) (vL i):=by
 intro a s j H v u Q I r h;exact wpAny_assign_Name (Ab I e b c r (λk f=>⟨_,H,f,h⟩) g)
def adV:TGs:=λb a H Q=>b=[]/\Q a H
def L6(t:TG)(u:TGs):TGs:=λe b H Q=>∃v r,e=v::r/\t v b H λa c=>u r a c Q
theorem jH:PGs X [] adV:=by
 intro a s b H f c Q I r h;obtain⟨e,h⟩:=h;subst e;cases r;exact assignInOrder_nil ⟨b,H,I,h⟩
theorem dj{e:Expr}{b:List Expr}{t:TG}{u:TGs}(o:PG X e t)(m:PGs X b u)(k:(assignEach (e::b) X.env).map (·.2)=assign e X.env::(assignEach b X.env).map (·.2):=by rfl):PGs X (e::b) (L6 t u):=by
 intro a s g H p q Q I r h;obtain⟨v,w,i,h⟩:=h;subst i;cases r with
 | cons r rr=>
   rw[k];refine assignInOrder_cons (ϖ (o a s g H _ _ _ I r h) λ_ l ⟨c,f,n,j⟩=>?_);exact m a l c f _ _ Q n rr j
def LM(K:gx)(n:Nat)(t:TGs):TG:=λv c H Q=>∃a b,v=.ref a/\Κ K H a b/\b.length=n/\t b c H Q
theorem nM{f:List Expr}{k:Nat}{t:TGs}{n:Nat}(B:X.calm=true)(h:PGs X f t)(p:(assignEach f X.env).length=n:=by rfl)(g:(assignEach f X.env).findIdx? (·.1)=none:=by rfl):PG X (.Tuple f k d) (LM X.K n t):=by
 intro c s j H v u Q I r i;obtain⟨a,q,x,z,y,i⟩:=i;subst x;cases r;obtain⟨C,l,w,E⟩:=I.tuple z;refine assign_Tuple_tuple (I.ok.hd B) w (by simp[p,<-y,l.length]) g λD m=>?_;have A:Inv X c j H { s with heap:=D }:=I.kept (t':=s.toks) λb o e=>m b o (aW (aH e)) e;exact h c _ j H q _ Q A (by simpa using l) i
def PB(b g:TE)(t:Gx):TG:=λv a H Q=>b a H λo c=>g a c λi e=>t o i v e λf=>Q a f
theorem rB{o i:Expr}{f g:TE}{t:Gx}(w:PE X o f)(J:PE X i g)(B:Ro X t)(m:∀v,assign (.Subscript o i d) X.env v=(do
 let b <-holding [v] (eval o X.env)
 let c <-holding [v,b] (eval i X.env)
 standAt d
 holding [v,b,c] (setItem b c v)
 release [v,b,c] []):=by intro _;rfl):PG X (.Subscript o i d) (PB f g t):=by
 intro a s e H v u Q I r h;rw[m];refine ap (j1 (eT (w a s e H _ I h) λb E x l F q A=>?_));refine ap (j1 (eT (J a E e l _ F A) λc G y C D p k=>?_));refine ap (jV (ap (j1 (ϖ (B a G e C x y v b c u _ D q p r k) λ_ K ⟨n,z,j⟩=>?_))));exact wpAny_release ⟨e,n,z,j⟩
def DM(c:TE)(g:TG):TS:=λD a H=>c a H λx b=>g x a b D.nx
theorem rc{b e:Expr}{f:TE}{g:TG}(i:PE X e f)(l:PG X b g)(o:swapsWithSole [b] e d.line X.env=pure false:=by rfl)(j:swappedStores [b] e X.env=pure none:=by rfl)(t:(assignEach [b] X.env).map (·.2)=[assign b X.env]:=by rfl):PS X (.Assign [b] e d) (DM f g):=by
 intro a s c H D I h;refine wpAny_Assign_stores (eT (i a s c H _ I h) λv p x k r m n=>?_) o j;rw[t];exact ϖ (l a p c k x v _ r m n) λ_ u q=>q
theorem pV{i:Nat}{x:Str}{e:Expr}{c:TE}{a:Pos}(l:X.N.Nodup)(r:X.N[i]?=some x)(f:Loc X.env.scope x)(g:PE X e c)(o:swapsWith e (some (.Name x a)) d.line X.env=pure false:=by rfl)(t:X.fn x=true\/X.env.scope.names.lookup x=some .local:=by first|exact .inl rfl|exact .inr rfl|assumption):PS X (.Assign [.Name x a] e d) (DM c (vL i)):=by
 intro b s k H D I h;refine wpAny_Assign_Name (eT (g b s k H _ I h) λv u y j q m n=>?_) o;exact Ab q l r f m (λw p=>⟨_,j,p,n⟩) t
def Qx(i:Nat)(e:TE)(f:TIp):TS:=λD a H=>∃x,a[i]?=some (some x)/\e a H λy b=>f x y b λz c=>D.nx (a.set i (some z)) c
theorem Ny{i:Nat}{x:Str}{e:Expr}{C:TE}{n:Operator}{q:TIp}{g:Pos}(M:X.N.Nodup)(B:X.N[i]?=some x)(j:Loc X.env.scope x)(E:PE X e C)(P:PIp X n q)(Y:X.fn x=true\/X.env.scope.names.lookup x=some .local:=by first|exact .inl rfl|exact .inr rfl|assumption):PS X (.AugAssign (.Name x g) n e d) (Qx i C q):=by
 intro a s p H D I h;obtain⟨v,K,h⟩:=h;obtain⟨m,F,R⟩:=I.loc;have o:Vis X.env.scope x:=by rcases j with k|k;exact .inl k;exact .inr (.inl k)
 obtain⟨u,r,l⟩:=R i x v B K o;refine wpAny_AugAssign_Name ?_;have t:wpAny (model X.prog X.w) X.A (eval e X.env) (λw f=>wpAny (model X.prog X.w) X.A (inplaceOp n u w) (λr b=>wpAny (model X.prog X.w) X.A (storeName X.env x r) (λ_=>SP X a D .next) X.xe b) X.xe f) X.xe s:=by
  refine ϖ (E a s p H _ I h) λw V ⟨y,J,W,O,S⟩=>?_;refine ϖ (P a V p J v y u w _ W r O S) λz s2 ⟨Z,U,T,L,G⟩=>?_;exact Ab T M B j L (λs3 Q=>⟨_,U,Q,G⟩) Y
 rcases l with⟨hk,hm⟩|⟨hk,c,hc,Ϲ⟩
 .exact wpAny_loadName_local I.ok.kind hk F hm t
 .rcases hk with hk|hk
  .exact wpAny_loadName_cell I.ok.kind hk hc Ϲ t
  .rcases j with k|k
   .have:X.env.scope.names.lookup x=some .free:=hk;rw[k]at this;cases this
   .have:X.env.scope.names.lookup x=some .free:=hk;rw[k]at this;cases this
def Mq(k m p:TE)(b:V->V->Hp->VK->Prop)(e:TIp)(c:Gx):TS:=λD a H=>k a H λo g=>m a g λi l=>b o i l λx j=>p a j λy h=>e x y h λz f=>c o i z f λn=>D.nx a n
def Xp(X:Cx)(t:V->V->Hp->VK->Prop):Prop:=∀(a:g8)(s:Shared)(b:St)(H:Hp)(o i:V)(c e:Value)(Q:VK),Inv X a b H s->RelV o c->RelV i e->t o i H Q->wpAny (model X.prog X.w) X.A (getItem c e) (EP X a b Q) X.xe s
theorem yL{o i e:Expr}{t u w:TE}{j:V->V->Hp->VK->Prop}{l:TIp}{k:Gx}{n:Operator}{y:Pos}(Q:PE X o t)(hi:PE X i u)(K:Xp X j)(B:PE X e w)(hp:PIp X n l)(U:Ro X k)(L:∀c g b,augStore i c g b=(do holding [b,c,g] (setItem c g b);release [b,c,g] [];pure .next):=by intros;rfl):PS X (.AugAssign (.Subscript o i y) n e d) (Mq t u w j l k):=by
 intro a s f H D I h;refine wpAny_AugAssign_SubscriptAny (eT (Q a s f H _ I h) λc s1 x J I1 q S=>?_) L;refine eT (hi a s1 f J _ I1 S) λg s2 r Y W p F=>?_;refine ϖ (K a s2 f Y x r c g _ W q p F) λm T ⟨z,P,R,Z,C⟩=>?_;refine eT (B a T f P _ R C) λv G N M I4 O q4=>?_;refine ϖ (hp a G f M z N m v _ I4 Z O q4) λb s5 ⟨x5,A,I5,r5,E⟩=>?_;exact ϖ (U a s5 f A x r x5 c g b _ I5 q p r5 E) λ_ s6 ⟨H6,I6,q6⟩=>⟨f,H6,I6,q6⟩
def ipI(f:hR):TIp:=λx y H Q=>∃i j,x=.int i/\y=.int j/\Q (.int (f i j)) H
theorem uS:PIp X .Add (ipI λi j=>i+j):=by
 intro a s g H x y v u Q I e c h;obtain⟨i,j,b,f,q⟩:=h;subst b;subst f;obtain⟨t,rfl⟩:=e;obtain⟨k,rfl⟩:=c;exact iadd_int ⟨.int _,H,I.tok _,⟨_,rfl⟩,q⟩
end
section
variable{X:Cx}{a:Pos}
def GK(c:TT)(i:TS):TS:=λD d H=>∃W:Nat->St->Hp->Prop,(∃m,W m d H)/\∀m d H,W m d H->c d H λb f=>if b=true then ∃N:St->Hp->Prop,(∀e g,N e g->∃h,h<m/\W h e g)/\i { D with nx:=N,ct:=N,bk:=D.nx } d f else D.nx d f
theorem tx{c:Expr}{i:List Stmt}{E:TT}{G:TS}(C:PassesOwn (model X.prog X.w) X.A X.env X.xe)(S:PT X c E)(T:PSs X i G):PS X (.While c i [] a) (GK E G):=by
 intro e s J H D I h;obtain⟨W,⟨L,O⟩,j⟩:=h;refine wpAny_While (codeAny_whileLoop (λn M=>∃l F,Inv X e l F M/\W n l F) ?_ L ⟨J,H,I,O⟩);rintro n P ⟨g,x,Q,K⟩;refine fx C (Db (S e P g x _ Q (j n g x K)) λb R B z o=>?_);cases b with
 | true=>
   obtain⟨N,y,o⟩:=o;rw[aj rfl];refine fx C (ϖ (T e R g B _ z o) λf U m=>?_);cases f with
   | next=>
     obtain⟨d,k,r,t⟩:=m;obtain⟨p,u,q⟩:=y d k t;exact⟨p,u,d,k,r,q⟩
   | cont=>
     obtain⟨d,k,r,t⟩:=m;obtain⟨p,u,q⟩:=y d k t;exact⟨p,u,d,k,r,q⟩
   | brk=>exact m
   | ret v=>exact m
 | false=>
   rw[ah bz];exact jp ⟨g,B,z,o⟩
end
structure It where
 go:Nat->Hp->Prop
 yld:Nat->Hp->V->Hp->Prop
 stop:Nat->Hp->Prop
def pD(X:Cx)(a:g8)(H:Hp)(b:Addr):Prop:=H b=none/\b≠X.env.locals/\b∉X.fs/\(b∈X.ex\/X.s₀.heap.objs.size<=b)/\(∀x c,X.env.cells.lookup x=some c->c≠b)/\∀p∈X.pn++a,p.1≠b
theorem Inv.aaY{X:Cx}{a:g8}{g:St}{H f:Hp}{s:Shared}{b:Addr}(I:Inv X a g H s)(d:s.heap.objs.size<=b)(i:f b=none):pD X a f b:=by
 refine⟨i,eO (aP I.lt d),I.akc d,.inr (bw I.sz d),λx c e z=>?_,λp h z=>?_⟩
 .obtain⟨v,q⟩:=I.cell x c e;exact absurd (aP q.lt (by rw[z];exact d)) (dB _)
 .exact absurd (aP (aH (I.pin p h).1) (by rw[z];exact d)) (dB _)
structure Turn(P:Program)(w:World)(K:gx)(tg:Expr)(J:It)(fp:g9)(it:Addr)(tn:Nat->Heap->Prop):Prop where
 mem:it∈fp
 obj:∀i h,tn i h->∀b∈fp,∃o,h.get? b=some o/\∀v,o.data≠.cell v
 keep:∀i h h',tn i h->(∀b∈fp,∀o,h.get? b=some o->h'.get? b=some o)->tn i h'
 item:∀(X:Cx),X.prog=P->X.w=w->X.K=K->X.calm=true->∀(i:Nat)(pins:g8)(s:Shared)(σ:St)(H:Hp)(E:gq),Inv X pins σ H s->(∀b∈fp,pD X pins H b)->tn i s.heap->J.go i H->wpAny (model P w) X.A (pyNext (.ref it)) (λr s1=>∃u,r=some u/\wpAny (model P w) X.A (letOwnedTupleGo tg (.ref it) u) (λ_ s2=>∃x H',Inv X pins σ H' s2/\RelV x u/\J.yld i H x H'/\tn (i+1) s2.heap/\∀b∈fp,H' b=none) E s1) E s
 done:∀(X:Cx),X.prog=P->X.w=w->X.K=K->X.calm=true->∀(i:Nat)(pins:g8)(s:Shared)(σ:St)(H:Hp)(E:gq),Inv X pins σ H s->(∀b∈fp,pD X pins H b)->tn i s.heap->J.stop i H->wpAny (model P w) X.A (pyNext (.ref it)) (λr s1=>r=none/\Inv X pins σ H s1) E s
 self:∀(A:Around)(i:Nat)(s:Shared)(Q:gq)(E:gq),tn i s.heap->Q (.ref it) s->wpAny (model P w) A (pyIter (.ref it)) Q E s
abbrev TI:=St->Hp->(It->Hp->Prop)->Prop
def PIE(X:Cx)(a:g8)(i:St)(j:Expr)(R:It->Hp->Prop)(d:Value)(f:Shared):Prop:=∃(g:Addr)(h:g9)(e:Nat->Heap->Prop)(J:It)(c:Hp),d=.ref g/\Inv X a i c f/\Turn X.prog X.w X.K j J h g e/\e 0 f.heap/\(∀b∈h,pD X a c b)/\R J c
def PI(X:Cx)(f b:Expr)(e:TI):Prop:=∀(a:g8)(s:Shared)(c:St)(H:Hp)(R:It->Hp->Prop),Inv X a c H s->e c H R->wpAny (model X.prog X.w) X.A (eval b X.env) (λv d=>wpAny (model X.prog X.w) X.A (pyIter v) (PIE X a c f R) X.xe d) X.xe s
theorem FB{M:Model}{A:Around}{E:gq}{s:Shared}{d:Expr}{c:Addr}{u:Value}{o:Obj}{n:String}{b:Array Value}{Q:Unit->Shared->Prop}(i:s.heap.get? c=some o)(e:o.cls=.type n)(f:o.data=.fields b)(g:["enumerate","zip","dict_itemiterator","dict_reverseitemiterator","odict_iterator","itertools.zip_longest","itertools.pairwise"].contains n=false)(a:Q () s):wpAny M A (letOwnedTupleGo d (.ref c) u) Q E s:=by
 unfold letOwnedTupleGo;cases d<;>first
  | exact bh a
  | (cases u<;>first
   | exact bh a
   | (refine ap (wpAny_load i ?_)
      rw[e,f];show wpAny M A (if(["enumerate","zip","dict_itemiterator","dict_reverseitemiterator","odict_iterator","itertools.zip_longest","itertools.pairwise"].contains n&&b[0]?==some (rawInt _))=true then _ else _) Q E s;rw[ah (by intro h;rw[g,kJ]at h;cases h)];exact bh a))
def Itl(K:gx)(a:Addr):It:=⟨λi H=>∃b x,ν K H a b/\b[i]?=some x,λi H x c=>c=H/\∀b,ν K H a b->b[i]?=some x,λi H=>∃b,ν K H a b/\b.length<=i⟩
def Itt(K:gx)(a:Addr):It:=⟨λi H=>∃b x,Κ K H a b/\b[i]?=some x,λi H x c=>c=H/\∀b,Κ K H a b->b[i]?=some x,λi H=>∃b,Κ K H a b/\b.length<=i⟩
def Itr(lo:Int)(n:Nat):It:=⟨λi _=>i<n,λi H x a=>a=H/\x=.int (lo+i),λi _=>n<=i⟩
theorem NQ{P:Program}{w:World}{K:gx}{Q:Expr}(a g:Addr):Turn P w K Q (Itl K a) [g] g (λi h=>h.IsListIter g a i) where
 mem:=by simp
 obj:=λi h st b hb=>by
  have e:b=g:=by simpa using hb
  subst e;obtain⟨o,e,c,d⟩:=st;exact⟨o,e,λv z=>by rw[d]at z;cases z⟩
 keep:=λi h m st k=>st.at λo e=>k g (by simp) o e
 item:=by
  intro X r hw n hc i f s J H E I hf st A;subst r hw n;obtain⟨L,x,l,t⟩:=A;obtain⟨G,q,p,V⟩:=I.list l;obtain⟨u,S,T⟩:=q.get t;obtain⟨C,B,U,y,F,D⟩:=hf g (by simp);refine wpAny_pyNext_list_item st p.isList (x:=u) (by simpa using S) λm j R=>?_;have N:Inv X f J H { s with heap:=m }:=I.turned (t':=s.toks) (λb o hb e=>(R.2 b hb).trans e) C B y F D;obtain⟨o,e,c,d⟩:=id j;exact⟨u,rfl,FB (s:={ s with heap:=m }) e c d (by decide) ⟨x,H,N,T,⟨rfl,λY O=>by rw[I.gE O l];exact t⟩,j,λb hb=>(hf b hb).1⟩⟩
 done:=by
  intro X r hw n hc i f s J H E I hf st A;subst r hw n;obtain⟨L,l,t⟩:=A;obtain⟨G,q,p,V⟩:=I.list l;obtain⟨C,B,U,y,F,D⟩:=hf g (by simp);have Z:=q.length;exact wpAny_pyNext_list_end (I.ok.hd hc) st p.isList (by simp;lia) λm M=>⟨rfl,I.turned (t':=s.toks) (λb o hb e=>M b o hb e) C B y F D⟩
 self:=λ_ _ _ _ _ st h=>wpAny_pyIter_listiter st h
theorem LA{P:Program}{w:World}{K:gx}{Q:Expr}(a g:Addr):Turn P w K Q (Itt K a) [g] g (λi h=>h.IsTupleIter g a i) where
 mem:=by simp
 obj:=λi h st b hb=>by
  have e:b=g:=by simpa using hb
  subst e;obtain⟨o,e,c,d⟩:=st;exact⟨o,e,λv z=>by rw[d]at z;cases z⟩
 keep:=λi h n st k=>st.at λo e=>k g (by simp) o e
 item:=by
  intro X t hw q hc i f s J H E I hf st B;subst t hw q;obtain⟨L,x,m,y⟩:=B;obtain⟨j,r,p,V⟩:=I.tuple m;obtain⟨u,S,T⟩:=r.get y;obtain⟨D,C,U,A,G,F⟩:=hf g (by simp);refine wpAny_pyNext_tuple_item st (show s.heap.IsTuple a j.toArray from p) (x:=u) (by simpa using S) λn l R=>?_;have N:Inv X f J H { s with heap:=n }:=I.turned (t':=s.toks) (λb o hb e=>(R.2 b hb).trans e) D C A G F;obtain⟨o,e,c,d⟩:=id l;exact⟨u,rfl,FB (s:={ s with heap:=n }) e c d (by decide) ⟨x,H,N,T,⟨rfl,λY O=>by rw[I.ZC O m];exact y⟩,l,λb hb=>(hf b hb).1⟩⟩
 done:=by
  intro X t hw q hc i f s J H E I hf st B;subst t hw q;obtain⟨L,m,y⟩:=B;obtain⟨j,r,p,V⟩:=I.tuple m;obtain⟨D,C,U,A,G,F⟩:=hf g (by simp);have Z:=r.length;exact wpAny_pyNext_tuple_end (I.ok.hd hc) st (show s.heap.IsTuple a j.toArray from p) (by simp;lia) λn M=>⟨rfl,I.turned (t':=s.toks) (λb o hb e=>M b o hb e) D C A G F⟩
 self:=λ_ _ _ _ _ st h=>wpAny_pyIter_tupleiter st h
theorem K7{P:Program}{w:World}{K:gx}{D:Expr}(a:Addr)(lo:Int)(n:Nat):Turn P w K D (Itr lo n) [a] a (λi h=>IsRangeIter h a (lo+(i:Nat)*1) ((n:Int)-(i:Nat)) 1) where
 mem:=by simp
 obj:=λi h st b hb=>by
  have e:b=a:=by simpa using hb
  subst e;exact⟨_,st,λv z=>by
   have B:Data.fields _=Data.cell v:=z;cases B⟩
 keep:=λi h f st k=>k a (by simp) _ st
 item:=by
  intro X j hw g hc i c s x H E I hf st m;subst j hw g;obtain⟨q,p,G,l,u,r⟩:=hf a (by simp);have W:=Walks.range (prog:=X.prog) (w:=X.w) (I.ok.hd hc) a lo 1 n;refine W.item i s _ _ m st λv f tk C d F=>?_;obtain⟨t,rfl⟩:=C;have A:Inv X c x H { s with heap:=f,toks:=tk }:=I.turned (λb o hb e=>F b o (by simpa using hb) e) q p l u r;refine⟨_,rfl,FB (s:={ s with heap:=f,toks:=tk }) (n:="range_iterator") d rfl rfl (by decide) ⟨.int (lo+i),H,A,⟨t,?_⟩,⟨rfl,rfl⟩,d,λb hb=>(hf b hb).1⟩⟩;rw[eU]
 done:=by
  intro X j hw g hc i c s x H E I hf st m;subst j hw g;obtain⟨q,p,G,l,u,r⟩:=hf a (by simp);exact wpAny_pyNext_range_end (I.ok.hd hc) st (by have:n<=i:=m;lia) λf y=>⟨rfl,I.turned (t':=s.toks) (λb o hb e=>y b o hb e) q p l u r⟩
 self:=λ_ _ _ _ _ st h=>wpAny_pyIter_rangeiter st h
section
variable{X:Cx}{c:Expr}
def Ly(K:gx)(e:TE):TI:=λd H R=>e d H λx b=>∃a,x=.ref a/\(∃f,ν K b a f)/\R (Itl K a) b
def Qa(K:gx)(e:TE):TI:=λd H R=>e d H λx b=>∃a,x=.ref a/\(∃f,Κ K b a f)/\R (Itt K a) b
theorem jM{l:Expr}{i:TE}(n:PE X l i):PI X c l (Ly X.K i):=by
 intro d s k H R I h;refine eT (n d s k H _ I h) λv f x j g m r=>?_;obtain⟨a,e,⟨y,t⟩,q⟩:=r;subst e;cases m;obtain⟨w,z,p,A⟩:=g.list t;refine iP p.isList ?_;refine⟨f.heap.objs.size,[f.heap.objs.size],_,_,j,rfl,g.kept (t':=f.toks) λb o e=>ay _ e,NQ a _,⟨_,bc _ rfl,rfl,rfl⟩,λb u=>?_,q⟩;have e:b=f.heap.objs.size:=by simpa using u
 subst e;exact g.aaY (aJ _) (g.Β.fresh (aJ _))
theorem xg{l:Expr}{j:TE}(r:PE X l j):PI X c l (Qa X.K j):=by
 intro f s m H R I h;refine eT (r f s m H _ I h) λv d x k g n t=>?_;obtain⟨a,e,⟨y,u⟩,q⟩:=t;subst e;cases n;obtain⟨i,z,p,A⟩:=g.tuple u;refine jY (show d.heap.IsTuple a i.toArray from p) ?_;refine⟨d.heap.objs.size,[d.heap.objs.size],_,_,k,rfl,g.kept (t':=d.toks) λb o e=>ay _ e,LA a _,⟨_,bc _ rfl,rfl,rfl⟩,λb w=>?_,q⟩;have e:b=d.heap.objs.size:=by simpa using w
 subst e;exact g.aaY (aJ _) (g.Β.fresh (aJ _))
theorem F7{d:g8}{f:St}{H:Hp}{s:Shared}{R:It->Hp->Prop}{E:gq}{lo a:Int}{t u v:Tok}{g:Nat}(I:Inv X d f H s)(k:-(2^62)<=lo)(j:lo<2^62)(i:-(2^62)<=a)(l:a<2^62)(q:R (Itr lo (a-lo).toNat) H):wpAny (model X.prog X.w) X.A (pyIter (.ref s.heap.objs.size)) (PIE X d f c R) E { s with heap:=s.heap.push { cls:=.type "range",data:=.fields #[.int lo t,.int a u,.int 1 v] },toks:=g }:=by
 refine wpAny_pyIter_range (IsRange.new ..) (small_one k j i l) ?_;have h:Inv X d f H { s with heap:=s.heap.push { cls:=.type "range",data:=.fields #[.int lo t,.int a u,.int 1 v] },toks:=g }:=I.kept λb o e=>ay _ e;refine⟨(s.heap.push { cls:=.type "range",data:=.fields #[.int lo t,.int a u,.int 1 v] }).objs.size,[(s.heap.push { cls:=.type "range",data:=.fields #[.int lo t,.int a u,.int 1 v] }).objs.size],_,_,H,rfl,h.kept (t':=g) λb o e=>ay _ e,K7 _ lo (a-lo).toNat,?_,λb m=>?_,q⟩
 .have e1:lo+((0:Nat):Int)*1=lo:=by simp
  have n:(((a-lo).toNat:Nat):Int)-((0:Nat):Int)=Builtin.Range.rangeSize lo a 1:=by rw[rangeSize_one];split<;>lia
  show IsRangeIter _ _ (lo+((0:Nat):Int)*1) ((((a-lo).toNat:Nat):Int)-((0:Nat):Int)) 1;rw[e1,n];exact bc _ rfl
 .have e:b=(s.heap.push { cls:=.type "range",data:=.fields #[.int lo t,.int a u,.int 1 v] }).objs.size:=by simpa using m
  subst e;exact h.aaY (aJ _) (h.Β.fresh (aJ _))
def K8(e:TA):TI:=λb H R=>e b H λd a=>∃j:Int,d=[.int j]/\-(2^62)<=j/\j<2^62/\R (Itr 0 j.toNat) a
def L4(e:TA):TI:=λb H R=>e b H λd a=>∃i j:Int,d=[.int i,.int j]/\(-(2^62)<=i/\i<2^62/\-(2^62)<=j/\j<2^62)/\R (Itr i (j-i).toNat) a
theorem j9{a:Expr}{g:TA}{p d:Pos}(k:Gl X "range")(v:X.mg "range"=none)(l:PA X [a] g)(o:starEach [a] X.env=[(false,eval a X.env)]:=by rfl):PI X c (.Call (.Name "range" p) [a] [] d) (K8 g):=by
 intro b s m H R I h;refine Call_ (pS I k v boot_range (cG (uG (l d b s m H _ I h) λy z x w u n f=>?_) o rfl));obtain⟨j,e,f,i,q⟩:=f;subst e;cases n with
 | cons r rr=>
   cases rr;obtain⟨t,rfl⟩:=r;exact call_range_1 (F7 u (by lia) (by lia) f i (by simpa using q))
theorem xQ{a b:Expr}{l:TA}{p g:Pos}(o:Gl X "range")(A:X.mg "range"=none)(u:PA X [a,b] l)(y:starEach [a,b] X.env=[(false,eval a X.env),(false,eval b X.env)]:=by rfl)(d:starEach [b] X.env=[(false,eval b X.env)]:=by rfl):PI X c (.Call (.Name "range" p) [a,b] [] g) (L4 l):=by
 intro f s v H R I h;refine Call_ (pS I o A boot_range (cG (uG (u g f s v H _ I h) λE F D B z w k=>?_) (by rw[y,d]) (by rw[d];rfl)));obtain⟨i,j,e,⟨k,n,m,x⟩,q⟩:=k;subst e;cases w with
 | cons r rr=>
   cases rr with
   | cons r' rr=>
     cases rr;obtain⟨t,rfl⟩:=r;obtain⟨C,rfl⟩:=r';exact call_range_2 (F7 z k n m x q)
def VP(k:TI)(g:TG)(l:TS):TS:=λD a H=>k a H λJ h=>∃W:Nat->Nat->St->Hp->Prop,(∃m,W 0 m a h)/\∀i m a H,W i m a H->(J.stop i H/\D.nx a H)\/(J.go i H/\∃N:St->Hp->Prop,(∀d b,N d b->∃f,f<m/\W (i+1) f d b)/\∀x b,J.yld i H x b->g x a b λe j=>l { D with nx:=N,ct:=N,bk:=D.nx } e j)
def u6(a:g9)(h:Heap):List (Addr×Obj):=a.filterMap λb=>(h.get? b).map λo=>(b,o)
theorem oH{a:g9}{h:Heap}{b:Addr}{o:Obj}(d:b∈a)(e:h.get? b=some o):(b,o)∈u6 a h:=List.mem_filterMap.mpr ⟨b,d,by rw[e];rfl⟩
theorem Ot{a:g9}{h:Heap}{p:Addr×Obj}(f:p∈u6 a h):p.1∈a/\h.get? p.1=some p.2:=by
 obtain⟨b,g,e⟩:=List.mem_filterMap.mp f;cases q:h.get? b with
 | none=>rw[q]at e;cases e
 | some o=>
   rw[q]at e;have d:(b,o)=p:=bq e;subst d;exact⟨g,q⟩
theorem Inv.pinned{a:g8}{h:St}{H:Hp}{s:Shared}{f:g9}(I:Inv X a h H s)(q:∀b∈f,pD X a H b)(k:∀b∈f,∃o,s.heap.get? b=some o/\∀v,o.data≠.cell v):Inv X (a++u6 f s.heap) h H s:=I.aaH λp m=>(bd.mp m).elim (λz=>I.pin p (aY _ z)) λz=>by
 obtain⟨i,e⟩:=Ot z;obtain⟨l,j,n,_⟩:=q p.1 i;obtain⟨o,g,d⟩:=k p.1 i;rw[e]at g;cases g;exact⟨e,l,j,n,d⟩
theorem Inv.ϰ{a e:g8}{b:St}{H:Hp}{s:Shared}(I:Inv X (a++e) b H s):Inv X a b H s:=I.aaH λp d=>I.pin p (aY _ (bB _ d))
theorem fV{B:Expr}{E:List Stmt}{wi:TI}{g:TG}{tb:TS}{Y:Pos}(O:PassesOwn (model X.prog X.w) X.A X.env X.xe)(hc:X.calm=true)(hi:PI X c B wi)(hg:PG X c g)(z:PSs X E tb)(hs:∀x,foldedSetIterable B X.env x=pure x:=by intro _;rfl):PS X (.For c B E [] Y) (VP wi g tb):=by
 intro j s σ H D I h;refine wpAny_For (ϖ (hi j s σ H _ I h) λv s1 h1=>ϖ h1 λbe s2 h2=>?_) hs;obtain⟨it,Q,tn,J,H2,e,I2,T,ac,f2,W,⟨m0,w0⟩,L⟩:=h2;subst e;have l:∀{C:Hp},(∀b∈Q,C b=none)->∀b∈Q,pD X j C b:=λhn b z=>⟨hn b z,(f2 b z).2⟩;refine codeAny_forLoop_any (λn s'=>∃i k C,Inv X j k C s'/\tn i s'.heap/\(∀b∈Q,C b=none)/\W i n k C) ?_ m0 ⟨0,σ,H2,I2,ac,λb z=>(f2 b z).1,w0⟩;rintro n s3 ⟨i,p,R,I3,P,M,w3⟩;rcases L i n p R w3 with⟨stop,qn⟩|⟨go,N,hN,step⟩
 .refine fx O (ϖ (T.done X rfl rfl rfl hc i j s3 p R X.xe I3 (l M) P stop) λr s4 ⟨U,I4⟩=>?_);subst U;exact jp ⟨p,R,I4,qn⟩
 .refine fx O (ϖ (T.item X rfl rfl rfl hc i j s3 p R X.xe I3 (l M) P go) λr s4 ⟨u,U,h4⟩=>?_);subst U;refine fx O (ϖ h4 λ_ s5 ⟨x,H5,I5,r5,y5,G,ab⟩=>?_);have S:=I5.pinned (l ab) (T.obj _ _ G);refine fx O (ϖ (hg _ s5 p H5 x u _ S r5 (step x H5 y5)) λ_ s6 ⟨V,H6,I6,q6⟩=>?_);refine fx O (ϖ (z _ s6 V H6 _ I6 q6) λf Z F=>?_);have y:∀{a:St}{t:Hp},Inv X (j++u6 Q s5.heap) a t Z->N a t->∃m,m<n/\∃i k C,Inv X j k C Z/\tn i Z.heap/\(∀b∈Q,C b=none)/\W i m k C:=λ{a t} q K=>by
   obtain⟨m',hm,w7⟩:=hN a t K;refine⟨m',hm,i+1,a,t,q.ϰ,T.keep _ _ _ G λb z o e=>(q.pin (b,o) (aY _ (aY _ (oH z e)))).1,λb z=>?_,w7⟩;obtain⟨o,e,d⟩:=T.obj _ _ G b z;exact(q.pin (b,o) (aY _ (aY _ (oH z e)))).2.1
  cases f with
  | next=>obtain⟨a,t,q,K⟩:=F;exact y q K
  | cont=>obtain⟨a,t,q,K⟩:=F;exact y q K
  | brk=>obtain⟨a,t,q,F⟩:=F;exact⟨a,t,q.ϰ,F⟩
  | ret v=>obtain⟨x7,a,t,q,r7,F⟩:=F;exact⟨x7,a,t,q.ϰ,r7,F⟩
end
theorem Gv{K:gx}{a:Addr}{c:List V}{g:TG}{o:TS}{D:Ends}{b:St}{H:Hp}(d:Nat->St->Hp->Prop)(r:d 0 b H)(t:∀i b H,i<=c.length->d i b H->ν K H a c)(u:∀i x b H,c[i]?=some x->d i b H->g x b H λh k=>o { D with nx:=d (i+1),ct:=d (i+1),bk:=D.nx } h k)(s:∀b H,d c.length b H->D.nx b H):∃W:Nat->Nat->St->Hp->Prop,(∃m,W 0 m b H)/\∀i m b H,W i m b H->((Itl K a).stop i H/\D.nx b H)\/((Itl K a).go i H/\∃N:St->Hp->Prop,(∀f j,N f j->∃l,l<m/\W (i+1) l f j)/\∀x j,(Itl K a).yld i H x j->g x b j λh k=>o { D with nx:=N,ct:=N,bk:=D.nx } h k):=by
 refine⟨λi m b H=>m=c.length-i/\i<=c.length/\d i b H,⟨c.length,by simp,b7 _,r⟩,?_⟩;rintro i m b H ⟨rfl,w,p⟩;have q:=t i b H w p;by_cases n:i<c.length
 .refine .inr ⟨⟨c,c[i],q,by simp[n]⟩,d (i+1),λf j v=>⟨c.length-(i+1),by lia,rfl,n,v⟩,λx j y=>?_⟩;obtain⟨e,y⟩:=y;subst e;exact u i x b _ (y c q) p
 .have e:i=c.length:=by lia
  subst e;exact .inl ⟨⟨c,q,aJ _⟩,s b H p⟩
theorem yB{K:gx}{a:Addr}{xs:List V}{g:TG}{n:TS}{D:Ends}{b:St}{H:Hp}(c:Nat->St->Hp->Prop)(o:c 0 b H)(s:∀i b H,i<=xs.length->c i b H->Κ K H a xs)(t:∀i x b H,xs[i]?=some x->c i b H->g x b H λf j=>n { D with nx:=c (i+1),ct:=c (i+1),bk:=D.nx } f j)(r:∀b H,c xs.length b H->D.nx b H):∃W:Nat->Nat->St->Hp->Prop,(∃m,W 0 m b H)/\∀i m b H,W i m b H->((Itt K a).stop i H/\D.nx b H)\/((Itt K a).go i H/\∃N:St->Hp->Prop,(∀d h,N d h->∃k,k<m/\W (i+1) k d h)/\∀x h,(Itt K a).yld i H x h->g x b h λf j=>n { D with nx:=N,ct:=N,bk:=D.nx } f j):=by
 refine⟨λi m b H=>m=xs.length-i/\i<=xs.length/\c i b H,⟨xs.length,by simp,b7 _,o⟩,?_⟩;rintro i m b H ⟨rfl,v,p⟩;have q:=s i b H v p;by_cases l:i<xs.length
 .refine .inr ⟨⟨xs,xs[i],q,by simp[l]⟩,c (i+1),λd h u=>⟨xs.length-(i+1),by lia,rfl,l,u⟩,λx h y=>?_⟩;obtain⟨e,y⟩:=y;subst e;exact t i x b _ (y xs q) p
 .have e:i=xs.length:=by lia
  subst e;exact .inl ⟨⟨xs,q,aJ _⟩,r b H p⟩
theorem OI{lo:Int}{n:Nat}{g:TG}{l:TS}{D:Ends}{a:St}{H:Hp}(b:Nat->St->Hp->Prop)(o:b 0 a H)(r:∀i a H,i<n->b i a H->g (.int (lo+i)) a H λd h=>l { D with nx:=b (i+1),ct:=b (i+1),bk:=D.nx } d h)(q:∀a H,b n a H->D.nx a H):∃W:Nat->Nat->St->Hp->Prop,(∃m,W 0 m a H)/\∀i m a H,W i m a H->((Itr lo n).stop i H/\D.nx a H)\/((Itr lo n).go i H/\∃N:St->Hp->Prop,(∀c f,N c f->∃k,k<m/\W (i+1) k c f)/\∀x f,(Itr lo n).yld i H x f->g x a f λd h=>l { D with nx:=N,ct:=N,bk:=D.nx } d h):=by
 refine⟨λi m a H=>m=n-i/\i<=n/\b i a H,⟨n,by simp,b7 _,o⟩,?_⟩;rintro i m a H ⟨rfl,t,p⟩;by_cases j:i<n
 .refine .inr ⟨j,b (i+1),λc f s=>⟨n-(i+1),by lia,rfl,j,s⟩,λx f y=>?_⟩;obtain⟨e,y⟩:=y;subst e y;exact r i a _ j p
 .have e:i=n:=by lia
  subst e;exact .inl ⟨aJ _,q a H p⟩
abbrev R2:=V->V->Hp->VK->Prop
def aC(X:Cx)(f:Value->Value->Sem Value)(r:R2):Prop:=∀(a:g8)(s:Shared)(b:St)(H:Hp)(x y:V)(v u:Value)(Q:VK),Inv X a b H s->RelV x v->RelV y u->r x y H Q->wpAny (model X.prog X.w) X.A (f v u) (EP X a b Q) X.xe s
def UnR(X:Cx)(f:Value->Sem Value)(r:V->Hp->VK->Prop):Prop:=∀(a:g8)(s:Shared)(b:St)(H:Hp)(x:V)(v:Value)(Q:VK),Inv X a b H s->RelV x v->r x H Q->wpAny (model X.prog X.w) X.A (f v) (EP X a b Q) X.xe s
def nz(X:Cx)(f:Value)(r:List V->Hp->VK->Prop):Prop:=∀(a:g8)(s:Shared)(b:St)(H:Hp)(d:List V)(c:hH)(Q:VK),Inv X a b H s->Vals d c->r d H Q->wpAny (model X.prog X.w) X.A (call f c) (EP X a b Q) X.xe s
def YC(X:Cx)(r:V->Hp->(Bool->Hp->Prop)->Prop):Prop:=∀(a:g8)(s:Shared)(b:St)(H:Hp)(x:V)(v:Value)(Q:Bool->Hp->Prop),Inv X a b H s->RelV x v->r x H Q->wpAny (model X.prog X.w) X.A (truthy v) (TP X a b Q) X.xe s
def tOp(r:R2)(d e:TE):TE:=λa H Q=>d a H λx b=>e a b λy c=>r x y c Q
def tUn(r:V->Hp->VK->Prop)(c:TE):TE:=λb H Q=>c b H λx a=>r x a Q
def rI(C:Int->Int->Prop)(g:Int->Int->V):R2:=λx y H Q=>∃i j,x=.int i/\y=.int j/\C i j/\Q (g i j) H
def rI0(g:Int->Int->V):R2:=λx y H Q=>∃i j,x=.int i/\y=.int j/\Q (g i j) H
def rU(g:Int->V):V->Hp->VK->Prop:=λx H Q=>∃i,x=.int i/\Q (g i) H
section
variable{X:Cx}{a b c:Expr}{d k l:TE}{e:Pos}
theorem SW(r:PE X a d)(G:PE X b k){g:g8}{s:Shared}{i:St}{H:Hp}{R:V->V->Hp->Prop}(I:Inv X g i H s)(h:d i H λx p=>k i p λy j=>R x y j){Q:gq}{f:Value->Value->Sem Value}(F:∀v u o x y j,Inv X g i j o->RelV x v->RelV y u->R x y j->wpAny (model X.prog X.w) X.A (f v u) Q X.xe o):wpAny (model X.prog X.w) X.A (eval a X.env) (λv n=>wpAny (model X.prog X.w) X.A (eval b X.env) (λu m=>wpAny (model X.prog X.w) X.A (f v u) Q X.xe m) X.xe n) X.xe s:=by
 refine eT (r g s i H _ I h) λv D x p E z B=>?_;refine eT (G g D i p _ E B) λu o y j C t q=>?_;exact F v u o x y j C z t q
theorem bi{g:Operator}{r:R2}(n:aC X (binaryOp g) r)(j:PE X a d)(z:PE X b k):PE X (.BinOp a g b e) (tOp r d k):=by
 intro f s m H Q I h;exact wpAny_BinOp (SW j z I h λv u t x y p o w i q=>n f t m p x y v u Q o w i q)
theorem yP{i:UnaryOp}{r:V->Hp->VK->Prop}(q:UnR X (unaryOp i) r)(m:PE X a d):PE X (.UnaryOp i a e) (tUn r d):=by
 intro f s g H Q I h;exact UnaryOp_ (eT (m f s g H _ I h) λv n x j p o t=>q f n g j x v Q p o t)
theorem opI{f:Value->Value->Sem Value}{C:Int->Int->Prop}{g:hR}(m:∀(i j:Int) (t u:Tok) (s:Shared) (Q:gq) (E:gq),C i j->Q (.int (g i j) s.toks) { s with toks:=s.toks+1 }->wpAny (model X.prog X.w) X.A (f (.int i t) (.int j u)) Q E s):aC X f (rI C λi j=>.int (g i j)):=by
 intro n s B H x y v u Q I r o h;obtain⟨i,j,rfl,rfl,z,q⟩:=h;obtain⟨t,rfl⟩:=r;obtain⟨p,rfl⟩:=o;exact m i j t p s _ _ z ⟨.int (g i j),H,I.tok _,⟨_,rfl⟩,q⟩
theorem WK{f:Value->Value->Sem Value}{g:hR}(m:∀(i j:Int) (t u:Tok) (s:Shared) (Q:gq) (E:gq),Q (.int (g i j) s.toks) { s with toks:=s.toks+1 }->wpAny (model X.prog X.w) X.A (f (.int i t) (.int j u)) Q E s):aC X f (rI0 λi j=>.int (g i j)):=by
 intro n s z H x y v u Q I r o h;obtain⟨i,j,rfl,rfl,q⟩:=h;obtain⟨t,rfl⟩:=r;obtain⟨p,rfl⟩:=o;exact m i j t p s _ _ ⟨.int (g i j),H,I.tok _,⟨_,rfl⟩,q⟩
theorem Ll{f:Value->Value->Sem Value}{g:Int->Int->Bool}(m:∀(i j:Int) (t u:Tok) (s:Shared) (Q:gq) (E:gq),Q (.bool (g i j)) s->wpAny (model X.prog X.w) X.A (f (.int i t) (.int j u)) Q E s):aC X f (rI0 λi j=>.bl (g i j)):=by
 intro n s z H x y v u Q I r o h;obtain⟨i,j,rfl,rfl,q⟩:=h;obtain⟨t,rfl⟩:=r;obtain⟨p,rfl⟩:=o;exact m i j t p s _ _ ⟨.bl (g i j),H,I,rfl,q⟩
def Xx(i j:Int):Prop:=0<j/\j<1073741824
def Xz(i j:Int):Prop:=0<=j/\j<=1000000/\i.natAbs<2^64
def Z7(i j:Int):Prop:=(-(2^64)<i/\i<2^64)\/(-(2^64)<j/\j<2^64)
theorem Z7.ok{i j:Int}(h:Z7 i j):IntMulOk i j:=by
 rcases h with⟨h1,h2⟩|⟨h1,h2⟩
 .exact .of_left (intBits_le_64 h1 h2)
 .exact .of_right (intBits_le_64 h1 h2)
theorem ja:aC X (binaryOp .Add) (rI0 λi j=>.int (i+j)):=WK λ_ _ _ _ _ _ _ q=>add_int q
theorem jS:aC X (binaryOp .Sub) (rI0 λi j=>.int (i-j)):=WK λ_ _ _ _ _ _ _ q=>sub_int q
theorem lY:aC X (binaryOp .Mult) (rI Z7 λi j=>.int (i*j)):=opI λ_ _ _ _ _ _ _ f q=>mul_int q f.ok
theorem iT:aC X (binaryOp .FloorDiv) (rI Xx λi j=>.int (i/j)):=opI λi j _ _ _ _ _ f q=>by
 have g:(0:Int)<j:=f.1;have h:j<1073741824:=f.2;exact floordiv_int (by lia) (by rw[ic i (by lia)];exact q) (.inl (PyProof.noPylong_small (by lia)))
theorem fW:aC X (binaryOp .Mod) (rI (λ_ j=>0<j) λi j=>.int (i%j)):=opI λi j _ _ _ _ _ f q=>by
 have g:(0:Int)<j:=f;exact mod_int' (by lia) (by rw[Int.fmod_eq_emod_of_nonneg i (by lia)];exact q)
theorem TQ:aC X (binaryOp .Mod) (rI (λ_ j=>j≠0) λi j=>.int (i.fmod j)):=opI λ_ _ _ _ _ _ _ f q=>mod_int' f q
theorem qf:aC X (binaryOp .Pow) (rI Xz λi j=>.int (i^j.toNat)):=opI λ_ _ _ _ _ _ _ f q=>pow_int_small f.1 f.2.1 f.2.2 q
theorem unI{f:Value->Sem Value}{g:fc}(j:∀(i:Int) (t:Tok) (s:Shared) (Q:gq) (E:gq),Q (.int (g i) s.toks) { s with toks:=s.toks+1 }->wpAny (model X.prog X.w) X.A (f (.int i t)) Q E s):UnR X f (rU λi=>.int (g i)):=by
 intro m s o H x v Q I n h;obtain⟨i,rfl,q⟩:=h;obtain⟨t,rfl⟩:=n;exact j i t s _ _ ⟨.int (g i),H,I.tok _,⟨_,rfl⟩,q⟩
theorem uP:UnR X (unaryOp .USub) (rU λi=>.int (-i)):=unI λ_ _ _ _ _ q=>neg_int q
end
def uD:V->V->Bool
 | .ς,.ς=>true|.ς,.int _=>true|.int _,.ς=>true|.ς,.bl _=>true|.bl _,.ς=>true|.ς,.str _=>true|.str _,.ς=>true
 | .int _,.int _=>true|.bl _,.bl _=>true|.str _,.str _=>true|.byt _,.byt _=>true
 | .int _,.str _=>true|.str _,.int _=>true|.bl _,.str _=>true|.str _,.bl _=>true
 | _,_=>false
def rEq:R2:=λx y H Q=>uD x y=true/\Q (.bl (decide (x=y))) H
def rNe:R2:=λx y H Q=>uD x y=true/\Q (.bl (!decide (x=y))) H
theorem JO{i j:Int}:decide (V.int i=V.int j)=(i==j):=by
 rw[iM];simp
theorem OB{i j:Bool}:decide (V.bl i=V.bl j)=(i==j):=by
 rw[iM];simp
theorem Ke{i j:Str}:decide (V.str i=V.str j)=(i==j):=by
 rw[iM];simp
theorem Kt{i j:Array UInt8}:decide (V.byt i=V.byt j)=(i.toList==j.toList):=by
 rw[iM];cases i;cases j;simp
section
variable{X:Cx}{a b c:Expr}{f g l:TE}{pos:Pos}
theorem eV{d:g8}{h:St}{H:Hp}{s:Shared}{Q:VK}{k i:Bool}(I:Inv X d h H s)(q:Q (.bl k) H)(e:k=i):EP X d h Q (.bool i) s:=by
 subst e;exact⟨.bl k,H,I,rfl,q⟩
theorem kG:aC X (compareOp .Eq) rEq:=by
 intro n s o H x y v u Q I m d h;obtain⟨k,q⟩:=h;cases x with
 | ς=>
   cases m;cases y with
   | ς=>cases d;exact PySem.EqNone.eq_none_none (eV I q (by simp))
   | bl j=>cases d;exact PySem.EqNone.eq_none_bool (eV I q (by simp))
   | int j=>obtain⟨e,rfl⟩:=d;exact PySem.EqNone.eq_none_int (eV I q (by simp))
   | str j=>obtain⟨e,rfl⟩:=d;exact PySem.EqNone.eq_none_str (eV I q (by simp))
   | _=>exact absurd (show false=true from k) bz
 | bl i=>
   cases m;cases y with
   | ς=>cases d;exact PySem.EqNone.eq_bool_none (eV I q (by simp))
   | bl j=>cases d;exact eq_bool (eV I q OB)
   | str j=>obtain⟨e,rfl⟩:=d;exact PySem.EqMixed.eq_bool_str (eV I q (by simp))
   | _=>exact absurd (show false=true from k) bz
 | int i=>
   obtain⟨t,rfl⟩:=m;cases y with
   | ς=>cases d;exact PySem.EqNone.eq_int_none (eV I q (by simp))
   | int j=>obtain⟨e,rfl⟩:=d;exact eq_int (eV I q JO)
   | str j=>obtain⟨e,rfl⟩:=d;exact PySem.EqMixed.eq_int_str (eV I q (by simp))
   | _=>exact absurd (show false=true from k) bz
 | str i=>
   obtain⟨t,rfl⟩:=m;cases y with
   | ς=>cases d;exact PySem.EqNone.eq_str_none (eV I q (by simp))
   | bl j=>cases d;exact PySem.EqMixed.eq_str_bool (eV I q (by simp))
   | int j=>obtain⟨e,rfl⟩:=d;exact PySem.EqMixed.eq_str_int (eV I q (by simp))
   | str j=>obtain⟨e,rfl⟩:=d;exact eq_str (eV I q Ke)
   | _=>exact absurd (show false=true from k) bz
 | byt i=>
   obtain⟨t,rfl⟩:=m;cases y with
   | byt j=>obtain⟨e,rfl⟩:=d;exact PySem.W.eq_bytes (eV I q Kt)
   | _=>exact absurd (show false=true from k) bz
 | _=>cases y<;>exact absurd (show false=true from k) bz
theorem vE:aC X (compareOp .NotEq) rNe:=by
 intro n s o H x y v u Q I m d h;obtain⟨k,q⟩:=h;cases x with
 | ς=>
   cases m;cases y with
   | ς=>cases d;exact PySem.EqNone.ne_none_none (eV I q (by simp))
   | bl j=>cases d;exact PySem.EqNone.ne_none_bool (eV I q (by simp))
   | int j=>obtain⟨e,rfl⟩:=d;exact PySem.EqNone.ne_none_int (eV I q (by simp))
   | str j=>obtain⟨e,rfl⟩:=d;exact PySem.EqNone.ne_none_str (eV I q (by simp))
   | _=>exact absurd (show false=true from k) bz
 | bl i=>
   cases m;cases y with
   | ς=>cases d;exact PySem.EqNone.ne_bool_none (eV I q (by simp))
   | bl j=>cases d;exact ne_bool (eV I q (congrArg not OB))
   | str j=>obtain⟨e,rfl⟩:=d;exact PySem.EqMixed.ne_bool_str (eV I q (by simp))
   | _=>exact absurd (show false=true from k) bz
 | int i=>
   obtain⟨t,rfl⟩:=m;cases y with
   | ς=>cases d;exact PySem.EqNone.ne_int_none (eV I q (by simp))
   | int j=>obtain⟨e,rfl⟩:=d;exact ne_int (eV I q (congrArg not JO))
   | str j=>obtain⟨e,rfl⟩:=d;exact PySem.EqMixed.ne_int_str (eV I q (by simp))
   | _=>exact absurd (show false=true from k) bz
 | str i=>
   obtain⟨t,rfl⟩:=m;cases y with
   | ς=>cases d;exact PySem.EqNone.ne_str_none (eV I q (by simp))
   | bl j=>cases d;exact PySem.EqMixed.ne_str_bool (eV I q (by simp))
   | int j=>obtain⟨e,rfl⟩:=d;exact PySem.EqMixed.ne_str_int (eV I q (by simp))
   | str j=>obtain⟨e,rfl⟩:=d;exact ne_str (eV I q (congrArg not Ke))
   | _=>exact absurd (show false=true from k) bz
 | byt i=>
   obtain⟨t,rfl⟩:=m;cases y with
   | byt j=>obtain⟨e,rfl⟩:=d;exact PySem.W.ne_bytes (eV I q (congrArg not Kt))
   | _=>exact absurd (show false=true from k) bz
 | _=>cases y<;>exact absurd (show false=true from k) bz
theorem Fz:aC X (compareOp .Lt) (rI0 λi j=>.bl (decide (i<j))):=Ll λ_ _ _ _ _ _ _ q=>lt_int q
theorem CF:aC X (compareOp .LtE) (rI0 λi j=>.bl (decide (i<=j))):=Ll λ_ _ _ _ _ _ _ q=>le_int q
theorem FA:aC X (compareOp .Gt) (rI0 λi j=>.bl (decide (j<i))):=Ll λ_ _ _ _ _ _ _ q=>gt_int q
theorem Tt:aC X (compareOp .GtE) (rI0 λi j=>.bl (decide (j<=i))):=Ll λ_ _ _ _ _ _ _ q=>ge_int q
theorem oY(b:Expr){d:CmpOp}(h:d≠.In:=by decide)(j:d≠.NotIn:=by decide):behindInMarks d b=false:=by
 have e:(d==CmpOp.In)=false:=by cases d<;>first|rfl|exact absurd rfl h
 have i:(d==CmpOp.NotIn)=false:=by cases d<;>first|rfl|exact absurd rfl j
 cases b<;>simp[behindInMarks,e,i]
theorem ss{e:CmpOp}{r:R2}(m:aC X (compareOp e) r)(j:PE X a f)(z:PE X b g)(w:behindInMarks e b=false):PE X (.Compare a [e] [b] pos) (tOp r f g):=by
 intro d s k H Q I h;exact wpAny_Compare1 (SW j z I h λv u p x y o n t i q=>m d p k o x y v u Q n t i q) w
def CH(t:TE):TT:=λd H Q=>t d H λx e=>∃k,x=.bl k/\Q k e
theorem yz{i:CmpOp}{r:R2}(A:aC X (compareOp i) r)(p:PE X a f)(M:PE X b g)(L:behindInMarks i b=false):PT X (.Compare a [i] [b] pos) (CH (tOp r f g)):=by
 intro d s j H Q I h;refine wpAny_isTrue_Compare1 (eT (p d s j H _ I h) λv G x o J w C=>eT (M d G j o _ J C) λu K y F D t n=>
  eT (A d K j F x y v u _ D w t n) λc N z q B E ⟨k,e,m⟩=>?_) L
 subst e;cases E;exact dy ⟨q,B,m⟩
def Cf(r n:R2)(f g l:TE):TE:=λd H Q=>f d H λx h=>g d h λy i=>r x y i λz e=>∃k,z=.bl k/\(if k=true then l d e λj m=>n y j m Q else Q (.bl false) e)
theorem PL{n j:CmpOp}{r q:R2}(L:aC X (compareOp n) r)(o:aC X (compareOp j) q)(E:PE X a f)(hb:PE X b g)(Y:PE X c l)(Z:lastMarks [n,j] [b,c]=false:=by with_unfolding_all rfl):PE X (.Compare a [n,j] [b,c] pos) (Cf r q f g l):=by
 intro i s m H Q I h;refine Compare_chain (eT (E i s m H _ I h) λv T x F U K M=>chain_link (eT (hb i T m F _ U M) λu W y R O w B=>
  eT (L i W m R x y v u _ O K w B) λd N z t A P ⟨k,e,p⟩=>?_)) Z
 subst e;cases P;refine dy ?_;cases k with
 | false=>exact ite_ff ⟨.bl false,t,A,rfl,p⟩
 | true=>exact ite_tt (chain_last (ϖ (Y i N m t _ A p) λD C ⟨V,G,S,J,q4⟩=>o i C m G y V u D Q S w J q4))
theorem G2{n j:CmpOp}{r q:R2}(P:aC X (compareOp n) r)(o:aC X (compareOp j) q)(J:PE X a f)(hb:PE X b g)(hc:PE X c l)(hm:lastMarks [n,j] [b,c]=false:=by with_unfolding_all rfl):PT X (.Compare a [n,j] [b,c] pos) (CH (Cf r q f g l)):=by
 intro i s m H Q I h;refine isTrue_chain (eT (J i s m H _ I h) λv Y x K Z O R=>test_link (eT (hb i Y m K _ Z R) λu s2 y V T w E=>
  eT (P i s2 m V x y v u _ T O w E) λd S z t A U ⟨k,e,p⟩=>?_)) hm
 subst e;cases U;refine dy ?_;cases k with
 | false=>
   obtain⟨k',B,N⟩:=p;cases B;exact ite_ff ⟨t,A,N⟩
 | true=>
   refine ite_tt (test_last (ϖ (hc i S m t _ A p) λG F ⟨z',L,W,M,q4⟩=>ϖ (o i F m L y z' u G _ W w M q4) λd' s5 ⟨z2,C,I5,r5,k2,e2,D⟩=>?_));subst e2;cases r5;exact dy ⟨C,I5,D⟩
def Xa(K:gx)(x:V)(H:Hp)(k:Bool):Prop:=match x with
 | .ς=>k=false
 | .bl b=>k=b
 | .int i=>k=(i != 0)
 | .str y=>y.length<=sizeLine/\k=((y.length:Int) != 0)
 | .byt y=>y.size<=sizeLine/\k=((y.size:Int) != 0)
 | .ref p=>(∃d,ν K H p d/\k=!d.isEmpty)\/(∃d,Κ K H p d/\k=!d.isEmpty)\/∃e,H p=some (.dK e)/\k=!e.isEmpty
 | _=>False
theorem Lu{e:Type}{d:List (e×V)}{h:List (e×Value)}(r:KV d h):(!h.isEmpty)=!d.isEmpty:=by
 cases r<;>rfl
theorem BL{e:List V}{d:hH}(r:Vals e d):(!d.toArray.isEmpty)=!e.isEmpty:=by
 cases r<;>simp
theorem sC:(sizeLine:Nat)<2^63:=by rw[sizeLine_eq];decide
theorem XY:YC X (λx H Q=>∃k,Xa X.K x H k/\Q k H):=by
 intro C s G H x v Q I u h;obtain⟨k,e,q⟩:=h;have J:=sC;have L:sizeLine=16777216:=sizeLine_eq;cases x with
 | ς=>
   cases u;have d:k=false:=e;subst d;exact truthy_none ⟨H,I,q⟩
 | bl b=>
   cases u;have d:k=b:=e;subst d;exact dy ⟨H,I,q⟩
 | int i=>
   obtain⟨t,rfl⟩:=u;have d:k=(i != 0):=e;subst d;exact PySem.P.truthy_int ⟨H,I,q⟩
 | str y=>
   obtain⟨t,rfl⟩:=u;obtain⟨F,d⟩:y.length<=sizeLine/\k=((y.length:Int) != 0):=e;subst d;exact PySem.P.truthy_str (by lia) ⟨H,I.tok _,q⟩
 | byt y=>
   obtain⟨t,rfl⟩:=u;obtain⟨F,d⟩:y.size<=sizeLine/\k=((y.size:Int) != 0):=e;subst d;exact PySem.W.truthy_bytes (by lia) ⟨H,I.tok _,q⟩
 | ref p=>
   cases u;have d:(∃n,ν X.K H p n/\k=!n.isEmpty)\/(∃n,Κ X.K H p n/\k=!n.isEmpty)\/∃o,H p=some (.dK o)/\k=!o.isEmpty:=e;rcases d with⟨n,hx,d⟩|⟨n,hx,d⟩|⟨o,hx,d⟩
   .subst d;obtain⟨B,r,A,D⟩:=I.list hx;have j:=r.length;exact wpAny_truthy_list A.isList (by simp only[aU];lia) ⟨H,I.tok _,by rw[BL r];exact q⟩
   .subst d;obtain⟨B,r,A,D⟩:=I.tuple hx;have j:=r.length;exact truthy_tuple A (by simp only[aU];lia) ⟨H,I.tok _,by rw[BL r];exact q⟩
   .subst d;obtain⟨D,E,z,r,m⟩:o.length<=sizeLine/\(p==sysModules)=false/\∃z,KV o z/\s.heap.DictOf (iR X.prog X.w) p z:=I.Β p _ hx;have j:o.length=z.length:=Paired.length r;exact wpAny_truthy_dict E m (by lia) ⟨H,I.tok _,by rw[Lu r];exact q⟩
 | _=>exact(show False from e).elim
theorem vQ(o:PE X a f)(m:∀d,isTrue a X.env d=(do let v <-d;standAt a.pos;holding [v] (truthy v))):PT X a (λi H Q=>f i H λx j=>∃k,Xa X.K x j k/\Q k j):=by
 intro e s i H Q I h;exact isTrue_plain (eT (o e s i H _ I h) λv r x n t p q=>XY e r i n x v Q t p q) (m _)
theorem ue{x:V}{d:hH}(r:Vals [x] d):∃u,d=[u]/\RelV x u:=by
 cases r with
 | cons r1 r2=>cases r2;exact⟨_,rfl,r1⟩
theorem TK{x y:V}{e:hH}(r:Vals [x,y] e):∃u d,e=[u,d]/\RelV x u/\RelV y d:=by
 cases r with
 | cons r1 r2=>
   cases r2 with
   | cons r3 r4=>cases r4;exact⟨_,_,rfl,r1,r3⟩
theorem QQ:nz X (.builtin "abs") (λe H Q=>∃i,e=[.int i]/\Q (.int (if i<0 then -i else i)) H):=by
 intro d s k H e m Q I r h;obtain⟨i,rfl,q⟩:=h;obtain⟨u,rfl,t,rfl⟩:=ue r;exact call_abs_int λu j=>⟨.int (if i<0 then -i else i),H,I.tok _,⟨_,rfl⟩,q⟩
theorem ON(n:X.calm=true):nz X (.builtin "max") (λe H Q=>∃i j,e=[.int i,.int j]/\Q (.int (if j>i then j else i)) H):=by
 intro m s p H e x Q I r h;obtain⟨i,j,rfl,q⟩:=h;obtain⟨u,o,rfl,⟨t,rfl⟩,⟨v,rfl⟩⟩:=TK r;refine max_two_ints (I.ok.hd n) λy w k=>⟨_,H,I.kept k,?_,q⟩;by_cases d:j>i
 .rw[aj d,aj d];exact⟨_,rfl⟩
 .rw[ah d,ah d];exact⟨_,rfl⟩
end
structure aaZ(h:Heap)(x dx C:Addr)(mA:hL):Prop where
 obj:h.get? x=some (PySem.W.instObj C dx)
 ns:h.Ns1 dx mA
 ne:dx≠x
theorem OH{h:Heap}{g:Addr}{i:hL}(n:h.Ns1 g i):∃d,h.get? g=some d/\∀b,PySem.W.lookIn b d=some (i b):=by
 obtain⟨o,f,s,k,j,p,_,r⟩:=n;refine⟨o,k,λb=>?_⟩;have e:=r b;unfold nsFind findBy at e;rw[<-Array.find?_toList]at e;unfold PySem.W.lookIn;rw[j];dsimp only;split
 .rename_i y q
  rw[q]at e;exact congrArg some e
 .rename_i q
  rw[q]at e;have a:f.toList.any (·.refKey)=false:=by
   rw[List.any_eq_false];intro y l;obtain⟨z,t,c⟩:=p y (Array.mem_toList_iff.mp l);simp[DictEntry.refKey,c]
  have m:¬f.toList.any (·.refKey)=true:=by rw[a];exact bz
  rw[ah m];exact congrArg some e
theorem aaZ.look{h:Heap}{x d C:Addr}{c:hL}(I:aaZ h x d C c):∃b,PySem.W.InstAt h x (PySem.W.instObj C d) C (some b)/\∀a,PySem.W.lookIn a b=some (c a):=let ⟨b,ho,hl⟩:=OH I.ns
 ⟨b,⟨I.obj,rfl,rfl,ho⟩,hl⟩
section
variable{e:Program}{w:World}{A:Around}{E:gq}{s:Shared}{K:gx}{x i C f:Addr}{j:hL}{c:Str}{v:Value}
theorem TN{a:Bool}{Q:gq}(X:K.In s.heap)(I:aaZ s.heap x i C j)(d:PySem.W.plainGet K C c=true)(k:PySem.W.hasDictIn K C=true)(g:PySem.W.findIn K (.ref C) c=some none)(m:j c=some v)(b:PySem.W.handedIn v=true)(h:Q v { s with toks:=s.toks+1 }):wpAny (model e w) A (getAttr (.ref x) c a) Q E s:=by
 obtain⟨n,J,l⟩:=I.look;exact PySem.W.get_value X J (PySem.W.plainGet_of d).1 (PySem.W.findObj_own k g rfl (by rw[l,m])) b h
theorem Uq{ns:hO}{Q:Unit->Shared->Prop}(X:K.In s.heap)(I:aaZ s.heap x i C j)(D:PySem.W.findIn K (.ref C) "__setattr__"=some (some (.builtin "object.__setattr__")))(F:PySem.W.plainOver K C=true)(B:PySem.W.takerIn K C c=some none)(t:PySem.W.hasDictIn K C=true)(z:PySem.Within j ns)(G:ns.length<=sizeLine)(h:∀k,aaZ k x i C (λy=>if y=c then some v else j y)->Heap.SameBut i s.heap k->Q () { s with heap:=k,toks:=s.toks+2 }):wpAny (model e w) A (setAttr (.ref x) c v) Q E s:=by
 obtain⟨L,J,N⟩:=I.look;refine PySem.W.set_plain X J D (PySem.W.osa_open (s:={ s with toks:=s.toks+1 }) (r:=none) X J F B λb=>?_);obtain⟨M,H,l⟩:=PySem.W.any_some t;have u:s.heap.get? x=some ⟨.ref C,some i,.plain,#[]⟩:=I.obj;refine ap (bh (ap (ap (wpAny_loadPart u (ap (PySem.W.Looks.here (s:={ s with toks:=s.toks+1 }) (PySem.W.looks_clsIn X H) ?_))))));rw[l];refine bh (a:=some i) (ap (bh (ap ?_)));refine wpAny_nsSet1 (s:={ s with toks:=s.toks+1 }) I.ns λk g d=>?_;obtain⟨O,p,q,n,m,o⟩:=g.count (PySem.Within.cons c v z);refine ap (wpAny_lookBehind n (by rw[m];exact pastItsLine_dict (bw o (by rw[ba];lia))) ?_);exact bh (h _ ⟨(d.2 _ (Ne.symm I.ne)).trans I.obj,g,I.ne⟩ d)
theorem P3{R:Result->Shared->Prop}{k:hH}{b:List (Str×Value)}(X:K.In s.heap)(m:PySem.W.makesIn K C=true)(l:PySem.W.findIn K (.ref C) "__init__"=some (some (.ref f)))(n:PySem.W.typeIn K (.ref f)=some (.type "function"))(h:codeAny (model e w) (A.under (.builtin "type.__call__" ⟨.ref C::k,b⟩)) (.call (.ref f) ⟨.ref (s.heap.objs.size+1)::k,b⟩) (PySem.W.InitBack (s.heap.objs.size+1) R)
 { s with heap:=(s.heap.push PySem.W.emptyDict).push (PySem.W.instObj C s.heap.objs.size) }):codeAny (model e w) A (.call (.ref C) ⟨k,b⟩) R s:=by
 obtain⟨o,g,d,t,os⟩:=s;exact PySem.W.make_core (PySem.W.makes_of X m) (PySem.W.looks_findIn X l) (λa=>PySem.W.bind_fn X a n) (.inl rfl) h
end
def bf(f:Str)(v:V):List (Str×V)->List (Str×V)
 | []=>[(f,v)]
 | (g,x)::r=>if g=f then(g,v)::r else(g,x)::bf f v r
theorem bT(f g:Str)(v:V):∀b:List (Str×V),(bf f v b).lookup g=if g=f then some v else b.lookup g
 | []=>by
   show List.lookup g [(f,v)]=_;by_cases h:g=f
   .have hb:(g==f)=true:=lN.mpr h;simp only[List.lookup,hb,aj h]
   .have hb:(g==f)=false:=beq_eq_false_iff_ne.mpr h;simp only[List.lookup,hb,ah h]
 | (k,x)::r=>by
   have c:=bT f g v r;rw[show bf f v ((k,x)::r)=(if k=f then(k,v)::r else(k,x)::bf f v r)from rfl];by_cases a:k=f
   .rw[aj a];by_cases h:g=k
    .have hb:(g==k)=true:=lN.mpr h;simp only[List.lookup,hb,aj (h.trans a)]
    .have hb:(g==k)=false:=beq_eq_false_iff_ne.mpr h;simp only[List.lookup,hb,ah (λe:g=f=>h (e.trans a.symm))]
   .rw[ah a];by_cases h:g=k
    .have hb:(g==k)=true:=lN.mpr h;simp only[List.lookup,hb,ah (λe:g=f=>a (h.symm.trans e))]
    .have hb:(g==k)=false:=beq_eq_false_iff_ne.mpr h;simp only[List.lookup,hb];exact c
theorem xI(f:Str)(v:V):∀b:List (Str×V),f∈(bf f v b).map (·.1)/\∀g,g∈b.map (·.1)->g∈(bf f v b).map (·.1)
 | []=>⟨by simp[bf],λg h=>by simp at h⟩
 | (k,x)::r=>by
   obtain⟨d,c⟩:=xI f v r;rw[show bf f v ((k,x)::r)=(if k=f then(k,v)::r else(k,x)::bf f v r)from rfl];by_cases a:k=f
   .rw[aj a];subst a;exact⟨by simp,λg h=>by simpa using h⟩
   .rw[ah a];refine⟨?_,λg h=>?_⟩
    .rw[aF];exact aq _ d
    .rw[aF]at h ⊢;rcases aD.mp h with e|e
     .exact aD.mpr (.inl e)
     .exact aq _ (c g e)
theorem zE(f:Str)(v:V):∀b:List (Str×V),(bf f v b).length<=b.length+1
 | []=>by simp[bf]
 | (k,x)::r=>by
   have c:=zE f v r;rw[show bf f v ((k,x)::r)=(if k=f then(k,v)::r else(k,x)::bf f v r)from rfl];by_cases a:k=f
   .rw[aj a,ba,ba];lia
   .rw[ah a,ba,ba];lia
theorem Zg.some_of{v:V}{o:Option Value}(r:Zg (some v) o):∃u,o=some u/\RelV v u:=by
 cases o with
 | none=>exact(show False from r).elim
 | some u=>exact⟨u,rfl,r⟩
theorem OP{v:V}{u:Value}(r:RelV v u):PySem.W.handedIn u=true:=by
 cases v with
 | ς=>cases(show u=Value.none from r);rfl
 | bl b=>cases(show u=Value.bool b from r);rfl
 | int i=>obtain⟨t,e⟩:=(show ∃t,u=Value.int i t from r);cases e;rfl
 | str x=>obtain⟨t,e⟩:=(show ∃t,u=Value.str x t from r);cases e;rfl
 | byt b=>obtain⟨t,e⟩:=(show ∃t,u=Value.bytes b t from r);cases e;rfl
 | flt b=>obtain⟨t,e⟩:=(show ∃t,u=Value.float b t from r);cases e;rfl
 | ref a=>cases(show u=Value.ref a from r);rfl
 | ty n=>cases(show u=Value.type n from r);rfl
section
variable{P:Program}{w:World}{H i:Hp}{h j:Heap}{a C c:Addr}{b g:List (Str×V)}
theorem KH(m:Ϯ P w H h)(e:H a=some (.ins C c b)):∃k,aaZ h a c C k/\(∀f,Zg (b.lookup f) (k f))/\PySem.Within k (b.map (·.1))/\b.length<=1000/\H c=some (.own a):=by
 obtain⟨d,z,ne,l,k,n,r,q⟩:=(show Λ P w H h a (.ins C c b)from m a _ e);exact⟨k,⟨l,n,ne⟩,r,q,z,d⟩
end
structure Cls(K:gx)(C:Addr):Prop where
 pg:PySem.W.plainGet K C Str.empty=true
 hd:PySem.W.hasDictIn K C=true
 po:PySem.W.plainOver K C=true
 sa:PySem.W.findIn K (.ref C) "__setattr__"=some (some (.builtin "object.__setattr__"))
theorem Cls.get{K:gx}{C:Addr}(c:Cls K C)(f:Str):PySem.W.plainGet K C f=true:=c.pg
def Θ(K:gx)(C:Addr)(f:Str):Prop:=PySem.W.findIn K (.ref C) f=some none
theorem Θ.afC{K:gx}{C:Addr}{f:Str}(n:Θ K C f):PySem.W.takerIn K C f=some none:=by
 unfold PySem.W.takerIn;rw[show PySem.W.findIn K (.ref C) f=some none from n]
 rfl
section
variable{X:Cx}{d:g8}{j:St}{H:Hp}{s:Shared}{a C k:Addr}{i:List (Str×V)}{f:Str}{v:V}{A:Around}{E:gq}
theorem KP{b:Bool}{Q:gq}(I:Inv X d j H s)(e:H a=some (.ins C k i))(c:Cls X.K C)(n:Θ X.K C f)(l:i.lookup f=some v)(h:∀u m,Inv X d j H m->RelV v u->Q u m):wpAny (model X.prog X.w) A (getAttr (.ref a) f b) Q E s:=by
 obtain⟨p,O,r,_,_,_⟩:=KH I.Β e;obtain⟨u,q,g⟩:=Zg.some_of (v:=v) (o:=p f) (by rw[<-l];exact r f);exact TN I.kIn O (c.get f) c.hd n q (OP g) (h u _ (I.tok _) g)
theorem K3{y:V}{u:Value}{Q:Unit->Shared->Prop}(I:Inv X d j H s)(e:H a=some (.ins C k i))(c:Cls X.K C)(n:Θ X.K C f)(N:i.length<1000)(D:RelV y u)(h:∀p,Inv X d j (upd H a (.ins C k (bf f y i))) p->Q () p):wpAny (model X.prog X.w) A (setAttr (.ref a) f u) Q E s:=by
 obtain⟨t,O,r,B,_,m⟩:=KH I.Β e;have M:(i.map (·.1)).length<=sizeLine:=by rw[ag,sizeLine_eq];lia
 refine Uq I.kIn O c.sa c.po n.afC c.hd B M λL l G=>h _ ?_;have hd:∃o,L.get? k=some o:=let ⟨o,_,_,e',_⟩:=l.ns;⟨o,e'⟩;refine I.write (x:=a) (e:=k) (by rw[e];exact True.intro) (.inr m) (λb q J z=>(G.2 b J).trans z) hd ?_;refine⟨by rw[aL O.ne];exact m,?_,O.ne,l.obj,_,l.ns,λg=>?_,λg F=>?_⟩
 .have:=zE f y i;lia
 .show Zg ((bf f y i).lookup g) (if g=f then some u else t g);rw[bT];by_cases q:g=f
  .rw[aj q,aj q];exact D
  .rw[ah q,ah q];exact r g
 .by_cases q:g=f
  .rw[q];exact(xI f y i).1
  .refine(xI f y i).2 g (B g λz=>F ?_);show(if g=f then some u else t g)=none;rw[ah q];exact z
theorem Inv.made(I:Inv X d j H s):Inv X d j (upd (upd H s.heap.objs.size (.own (s.heap.objs.size+1))) (s.heap.objs.size+1) (.ins C s.heap.objs.size []))
 { s with heap:=(s.heap.push PySem.W.emptyDict).push (PySem.W.instObj C s.heap.objs.size) }:=by
 have c:(s.heap.push PySem.W.emptyDict).get? s.heap.objs.size=some PySem.W.emptyDict:=bc s.heap rfl;have l:((s.heap.push PySem.W.emptyDict).push (PySem.W.instObj C s.heap.objs.size)).get? (s.heap.objs.size+1)=some (PySem.W.instObj C s.heap.objs.size):=by
  have:=bc (s.heap.push PySem.W.emptyDict) (o:=PySem.W.instObj C s.heap.objs.size) rfl
  rwa [dz]at this
 have g:(s.heap.push PySem.W.emptyDict).Ns s.heap.objs.size (λ_=>none):=⟨PySem.W.emptyDict,#[],_,c,rfl,(λe h=>absurd h (by simp)),λ_=>rfl⟩;have m:=I.laid (a:=s.heap.objs.size) (o:=.own (s.heap.objs.size+1)) (h':=s.heap.push PySem.W.emptyDict) (t':=s.toks) (λb u q=>ay _ q) (aJ _) ⟨_,c⟩;refine m.laid (a:=s.heap.objs.size+1) (o:=.ins C s.heap.objs.size []) (t':=s.toks) (λb u q=>ay _ q) (Nat.le_of_eq (dz _ _)) ?_;have ne:s.heap.objs.size≠s.heap.objs.size+1:=aW (f7 _);refine⟨by rw[aL ne,az],b7 _,ne,l,λ_=>none,(Heap.Ns1.of_empty g).at λo q=>ay _ q,λ_=>True.intro,λy n=>absurd rfl n⟩
theorem UV{c:Program}{w:World}{b:Env}{e:Expr}{f:Str}{l:Pos}{s:Shared}{Q:gq}(m:attributeBase e f b (eval e b)=eval e b)(h:wpAny (model c w) A (eval e b) (λo g=>wpAny (model c w) A (getAttr o f true) Q E g) E s):wpAny (model c w) A (eval (.Attribute e f l) b) Q E s:=Attribute_any_ h (by rw[arm_eval_Attribute,m])
end
def OS(K:gx)(g:TE)(f:Str):TE:=λd H Q=>g d H λx b=>∃a C e c v,x=.ref a/\b a=some (.ins C e c)/\Cls K C/\Θ K C f/\c.lookup f=some v/\Q v b
def Sz(K:gx)(i h:TE)(f:Str):TS:=λD b H=>h b H λy g=>i b g λx d=>∃a C e c,x=.ref a/\d a=some (.ins C e c)/\Cls K C/\Θ K C f/\c.length<1000/\D.nx b (upd d a (.ins C e (bf f y c)))
section
variable{X:Cx}{o e b:Expr}{f:Str}{g d k:Pos}{i j:TE}
theorem dP(p:PE X e i)(E:attributeBase e f X.env (eval e X.env)=eval e X.env):PE X (.Attribute e f g) (OS X.K i f):=by
 intro m s w H Q I h;refine UV E (eT (p m s w H _ I h) λu J x t A B ⟨a,C,G,F,v,r,y,c,n,l,q⟩=>?_);subst r;obtain rfl:u=Value.ref a:=B;exact KP A y c n l λM L z D=>⟨v,t,z,D,q⟩
theorem mN(A:PE X o i)(N:PE X b j)(F:swapsWith b (some (.Attribute o f d)) g.line X.env=pure false):PS X (.Assign [.Attribute o f d] b g) (Sz X.K i j f):=by
 intro m s p H D I h;refine plainObj_wpAny_Assign_Attribute (eT (N m s p H _ I h) λu J y z L w q=>eT (A m J p z _ L q) λr S x Q G M ⟨a,C,P,O,t,E,c,n,l,v⟩=>?_) F;subst t;obtain rfl:r=Value.ref a:=M;exact K3 G E c n l w λR B=>⟨p,_,B,v⟩
end
structure ύ(k:Nat)(A:Around):Prop where
 hd:A.handled=none
 dp:A.depth+3*k+5<recursionLimit
 un:A.units+16*k+200<cLine
theorem ύ.mono{j k:Nat}{A:Around}(r:ύ k A)(h:j<=k):ύ j A:=⟨r.hd,by have:=r.dp;lia,by have:=r.un;lia⟩
theorem ύ.deeper{k:Nat}{A:Around}(r:ύ (k+1) A)(a:Env):ύ k (A.deeper a):=⟨r.hd,by have:=r.dp;show A.depth+1+3*k+5<_;lia,by have:=r.un;show A.units+3+16*k+200<_;lia⟩
theorem KO{A:Around}{C:Addr}{b:hH}{a:List (Str×Value)}:(A.under (.builtin "type.__call__" ⟨.ref C::b,a⟩)).depth=A.depth+1:=by
 first|rfl|simp[Around.under,Code.weight,Code.isCreation,Code.isGuard,Code.isCaller,Code.frames,Code.isFrame,guardIds]
theorem Md{A:Around}{C:Addr}{b:hH}{a:List (Str×Value)}:(A.under (.builtin "type.__call__" ⟨.ref C::b,a⟩)).units=A.units+1:=by
 first|rfl|simp[Around.under,Code.cUnits,Code.frames,Code.isFrame]
theorem ύ.make{k:Nat}{A:Around}(r:ύ (k+1) A)(C:Addr)(a:hH)(b:List (Str×Value)):ύ k (A.under (.builtin "type.__call__" ⟨.ref C::a,b⟩)):=⟨r.hd,by have:=r.dp;rw[KO];lia,by have:=r.un;rw[Md];lia⟩
theorem ύ.depth{k:Nat}{A:Around}(r:ύ k A):A.depth<recursionLimit:=by have:=r.dp;lia
theorem ύ.units{k:Nat}{A:Around}(r:ύ k A):A.units+64<cLine:=by have:=r.un;lia
def adY:TA:=λ_ H Q=>Q [] H
def Mx(f:TE)(d:TA):TA:=λa H Q=>f a H λx b=>d a b λe c=>Q (x::e) c
section
variable{X:Cx}{e:Expr}{c:List Expr}{d:TE}{t:TA}{a:Pos}
theorem au:PA X [] adY:=λ_ _ _ _ H Q I h=>gV ⟨[],H,I,.nil,h⟩
theorem aa(k:PE X e d)(n:PA X c t)(p:starEach (e::c) X.env=(false,eval e X.env)::starEach c X.env:=by rfl):PA X (e::c) (Mx d t):=by
 intro a b s f H Q I h;rw[p];show wpAny _ _ (spliced ((false,eval e X.env)::backTo a (starEach c X.env))) _ _ s;refine gM (eT (k b s f H _ I h) λu v x j w m o=>?_);exact uG (n a b v f j _ w o) λy z g r q l i=>⟨x::g,r,q,.cons m l,i⟩
def OT(t:TA):TE:=λg H Q=>t g H λf b=>f.length<=sizeLine/\∀p,b p=none->Q (.ref p) (upd b p (.tup f))
def Q5(t:TA):TE:=λg H Q=>t g H λf b=>f.length<=sizeLine/\∀p,b p=none->Q (.ref p) (upd b p (.lst f))
theorem tj{x1}(h:PA X c t):PE X (.Tuple c x1 a) (OT t):=by
 intro f s l H Q I m;refine wpAny_Tuple_spliced (uG (h a f s l H _ I m) λn g k i j r ⟨z,q⟩=>⟨by rw[<-r.length];exact z,?_⟩);have o:i g.heap.objs.size=none:=j.Β.fresh (aJ _);refine⟨.ref g.heap.objs.size,upd i g.heap.objs.size (.tup k),j.laid (t':=g.toks) (λb u e=>ay _ e) (aJ _) ?_,rfl,q _ o⟩;exact⟨z,n,r,⟨_,bc _ rfl,rfl,_,rfl⟩⟩
theorem fG(h:PA X c t):PE X (.List c a) (Q5 t):=by
 intro f s l H Q I m;refine wpAny_List_spliced (uG (h a f s l H _ I m) λn g k i j r ⟨z,q⟩=>⟨by rw[<-r.length];exact z,?_⟩);have o:i g.heap.objs.size=none:=j.Β.fresh (aJ _);refine⟨.ref g.heap.objs.size,upd i g.heap.objs.size (.lst k),j.laid (t':=g.toks) (λb u e=>ay _ e) (aJ _) ?_,rfl,q _ o⟩;exact⟨z,n,0,r,bc _ rfl⟩
end
abbrev Sp:=List V->Hp->VK->XK->Prop
abbrev ZL:=List Env->Hp->Shared->XK->Value->Shared->Prop
structure aaw(P:Program)(w:World)(K:gx)(mg:hL)(base:Heap)(A:Around)(outer:List Env)(s:Shared)(H:Hp):Prop where
 frames:A.frames=some outer
 mod:Mod K mg base
 bs:∀b o,base.get? b=some o->s.heap.get? b=some o/\H b=none
 bsz:base.objs.size<=s.heap.objs.size
 nE:s.heap.FunFrames base outer
 frf:∀b∈Ϥ outer,H b=none
 Β:Ϯ P w H s.heap
 bare:AllBare s.gens
def CE(a:List Env)(P:Program)(w:World)(H:Hp)(s:Shared)(Q:VK)(u:Value)(b:Shared):Prop:=∃v c,b.os=s.os/\AllBare b.gens/\Un (Ϥ a) [] H c s.heap b.heap/\Ϯ P w c b.heap/\RelV v u/\Q v c
def CR(c:ZL)(a:List Env)(P:Program)(w:World)(H:Hp)(s:Shared)(Q:VK)(E:XK)(r:Result)(b:Shared):Prop:=match r with
 | .ok (.ret u)=>CE a P w H s Q u b
 | .ok _=>False
 | .error e=>c a H s E e b
structure Ψ(P:Program)(w:World)(K:gx)(mg:hL)(base:Heap)(CX:ZL)(k:Nat)(f:Addr)(fd:FuncData)(ps:hO)(sp:Sp):Prop where
 len:∀vs H Q E,sp vs H Q E->vs.length=ps.length
 run:∀(A:Around)(outer:List Env)(s:Shared)(H:Hp)(args:Args)(us:hH)(vs:List V)(Q:VK)(E:XK),ύ k A->aaw P w K mg base A outer s H->BindsTo s fd args (ps.zip us)->Vals vs us->sp vs H Q E->codeAny (model P w) A (.call (.ref f) args) (CR CX outer P w H s Q E) s
theorem aaw.make{P:Program}{w:World}{K:gx}{c:hL}{b:Heap}{A:Around}{a:List Env}{s:Shared}{H:Hp}(e:aaw P w K c b A a s H)(C:Addr)(d:hH)(f:List (Str×Value)):aaw P w K c b (A.under (.builtin "type.__call__" ⟨.ref C::d,f⟩)) a s H:=⟨by first|exact e.frames|(simpa[Around.under,Code.envs,Code.isFrame,pushEnvs]using e.frames),e.mod,e.bs,e.bsz,e.nE,e.frf,e.Β,e.bare⟩
section
variable{X:Cx}{a:g8}{c:St}{H:Hp}{s e:Shared}
theorem Inv.afD(I:Inv X a c H s):aaw X.prog X.w X.K X.mg X.base X.A X.stack s H:=⟨I.ok.frames,I.ok.mod,I.bs,bw I.ok.bsz I.sz,I.stack,I.Zc,I.Β,I.bare⟩
theorem Inv.after{Q:VK}{u:Value}(I:Inv X a c H s)(h:CE X.stack X.prog X.w H s Q u e):EP X a c Q u e:=by
 obtain⟨v,l,os,f,k,m,r,q⟩:=h;obtain⟨j,g,d,t,i⟩:=e;obtain rfl:i=s.os:=os;exact⟨v,l,I.call (h':=j) (g':=g) (d':=d) (t':=t) (ch:=[]) k m f (λb z=>absurd z (by simp)),r,q⟩
end
def wf(c:Sp)(a:List V)(E:XK)(t:TA):TE:=λd H Q=>t d H λe b=>c (e++a) b Q E
def LN(C:Addr)(d:Sp)(c:List V)(E:XK)(t:TA):TE:=λe H Q=>t e H λg b=>∀x a,b x=none->b a=none->a≠x->d (.ref x::(g++c)) (upd (upd b a (.own x)) x (.ins C a [])) (λv f=>v=.ς/\Q (.ref x) f) E
def Binds(K:gx)(d:FuncData)(b:hO)(c:hH):Prop:=∀(s:Shared)(a:hH),K.In s.heap->(a++c).length=b.length->BindsTo s d ⟨a,[]⟩ (b.zip (a++c))
theorem Binds.all{K:gx}{d:FuncData}{b:hO}(h:∀a:List Value,a.length=b.length->bindArgs d ⟨a,[]⟩=pure (b.zip a)):Binds K d b []:=λs a _ c=>by
 rw[b4]at c ⊢;exact .of_eq (h a c)
def qV(d:ZL)(X:Cx)(E:XK):Prop:=∀(a:g8)(c:St)(H:Hp)(s:Shared)(e:Value)(b:Shared),Inv X a c H s->d X.stack H s E e b->X.xe e b
section
variable{X:Cx}{l:ZL}{k:Nat}{f C:Addr}{i:FuncData}{g:hO}{j:Sp}{a:List V}{b:hH}{E:XK}{x m:Str}{p c n:Pos}{e o:Expr}{d:List Expr}{y:TE}{t:TA}
theorem X5{q:g8}{D:St}{H:Hp}{s:Shared}{Q:VK}{v:hH}{B:List V}(F:Ψ X.prog X.w X.K X.mg X.base l k f i g j)(N:ύ k X.A)(P:Binds X.K i g b)(L:Vals a b)(J:qV l X E)(I:Inv X q D H s)(r:Vals B v)(h:j (B++a) H Q E):wpAny (model X.prog X.w) X.A (call (.ref f) v) (EP X q D Q) X.xe s:=by
 have G:Vals (B++a) (v++b):=r.append L;have M:(v++b).length=g.length:=by rw[<-G.length];exact F.len _ _ _ _ h
 refine wpAny_call (kH (F.run X.A X.stack s H ⟨v,[]⟩ (v++b) (B++a) Q E N I.afD (P s v I.kIn M) G h) λr O z=>?_);cases r with
 | error e=>exact J q D H s e O I z
 | ok fl=>
   cases fl with
   | ret u=>exact I.after z
   | next=>exact False.elim z
   | brk=>exact False.elim z
   | cont=>exact False.elim z
theorem fF(F:Ψ X.prog X.w X.K X.mg X.base l k f i g j)(N:ύ k X.A)(D:Gl X x)(P:X.mg x=some (.ref f))(O:PySem.W.keepIn X.K (.ref f)=true)(R:Binds X.K i g b)(L:Vals a b)(z:qV l X E)(G:PA X (e::d) t)(hdb:(x==("__debug__":Str))=false:=by decide)(B:starEach (e::d) X.env=(false,eval e X.env)::starEach d X.env:=by rfl)(M:(backTo c (starEach d X.env)).any (·.1)=false:=by rfl):PE X (.Call (.Name x p) (e::d) [] c) (wf j a E t):=by
 intro u s J H Q I h;refine iA (yO I D P ?_ hdb);refine PySem.W.callWith_K (h₀:=X.base) I.ok.mod.kin O (uG (G c u s J H _ I h) λU V T S v r q=>⟨v.kIn,?_⟩) B M;exact X5 F N R L z v r q
structure Mk(K:gx)(C f:Addr):Prop where
 makes:PySem.W.makesIn K C=true
 init:PySem.W.findIn K (.ref C) "__init__"=some (some (.ref f))
 fn:PySem.W.isFn K (.ref f)=true
 kp:PySem.W.keepIn K (.ref C)=true
theorem Rh{q:g8}{J:St}{H:Hp}{s:Shared}{Q:VK}{z:hH}{L:List V}(M:Mk X.K C f)(F:Ψ X.prog X.w X.K X.mg X.base l k f i g j)(W:ύ (k+1) X.A)(hb:Binds X.K i g b)(S:Vals a b)(P:qV l X E)(I:Inv X q J H s)(r:Vals L z)(h:∀x D,H x=none->H D=none->D≠x->j (.ref x::(L++a)) (upd (upd H D (.own x)) x (.ins C D [])) (λv Z=>v=.ς/\Q (.ref x) Z) E):wpAny (model X.prog X.w) X.A (call (.ref C) z) (EP X q J Q) X.xe s:=by
 have O:=h (s.heap.objs.size+1) s.heap.objs.size (I.Β.fresh (fY _)) (I.Β.fresh (aJ _)) (aW (f7 _));have G:=Inv.made (C:=C) I;have N:Vals (V.ref (s.heap.objs.size+1)::(L++a)) (Value.ref (s.heap.objs.size+1)::(z++b)):=.cons rfl (r.append S);have U:(Value.ref (s.heap.objs.size+1)::z++b).length=g.length:=by
  have e:=N.length;rw[F.len _ _ _ _ O]at e;exact e.symm
 refine wpAny_call (P3 (f:=f) I.kIn M.makes M.init (lN.mp M.fn) (kH (F.run _ X.stack _ _ ⟨Value.ref (s.heap.objs.size+1)::z,[]⟩ (Value.ref (s.heap.objs.size+1)::(z++b)) _ _ E (W.make C z [])
  (G.afD.make C z []) (hb _ (Value.ref (s.heap.objs.size+1)::z) G.kIn U) N O) λr Y B=>?_))
 cases r with
 | error e=>exact P q J _ _ e Y G B
 | ok fl=>
   cases fl with
   | ret u=>
     obtain⟨v,H',T,rv,ev,R⟩:=G.after B;subst ev;exact⟨rv,⟨V.ref (s.heap.objs.size+1),H',T,rfl,R⟩⟩
   | next=>exact False.elim B
   | brk=>exact False.elim B
   | cont=>exact False.elim B
theorem yD(M:Mk X.K C f)(F:Ψ X.prog X.w X.K X.mg X.base l k f i g j)(O:ύ (k+1) X.A)(D:Gl X x)(P:X.mg x=some (.ref C))(R:Binds X.K i g b)(L:Vals a b)(z:qV l X E)(G:PA X (e::d) t)(hdb:(x==("__debug__":Str))=false:=by decide)(B:starEach (e::d) X.env=(false,eval e X.env)::starEach d X.env:=by rfl)(N:(backTo c (starEach d X.env)).any (·.1)=false:=by rfl):PE X (.Call (.Name x p) (e::d) [] c) (LN C j a E t):=by
 intro u s J H Q I h;refine iA (yO I D P ?_ hdb);refine PySem.W.callWith_K (h₀:=X.base) I.ok.mod.kin M.kp (uG (G c u s J H _ I h) λU V T S v r q=>⟨v.kIn,?_⟩) B N;exact Rh M F O R L z v r q
end
structure η(N P:hO)(sc:Scope):Prop where
 kind:sc.kind=.function
 co:sc.isCoroutine=false
 gen:sc.isGenerator=false
 nd:N.Nodup
 pre:N.take P.length=P
 par:∀x∈P,sc.names.lookup x=some .local\/sc.names.lookup x=some .cell
 adZ:∀y∈sc.names,y.2≠.free
theorem DW{b:Str->Option NameKind}{x:Str}:∀{a:List (Str×Value)}{m:hL},(∀v,(x,v)∉a)->bindL b a m x=m x
 | [],_,_=>rfl
 | (n,v)::r,m,h=>by
   unfold bindL;rw[DW λw c=>h w (aq _ c)];split
   .have:x≠n:=(by rintro rfl;exact h v ax);simp[this]
   .rfl
theorem D4{b:Str->Option NameKind}{x:Str}:∀{a:List (Str×Value)}{m:hL},(∀v,(x,v)∉a)->bindC b a m x=m x
 | [],_,_=>rfl
 | (n,v)::r,m,h=>by
   unfold bindC;rw[D4 λw c=>h w (aq _ c)];split
   .rfl
   .have:x≠n:=(by rintro rfl;exact h v ax);simp[this]
theorem Eu{a:Str->Option NameKind}{x:Str}{v:Value}:∀{P:hO}{b:hH}{i:Nat}{m:hL},P.Nodup->P[i]?=some x->b[i]?=some v->a x=some .local->bindL a (P.zip b) m x=some v
 | [],_,_,_,_,h,_,_=>by simp at h
 | _::_,[],_,_,_,_,h,_=>by simp at h
 | p::P,w::b,0,m,nd,h1,h2,hk=>by
   simp at h1 h2;subst h1;subst h2;show bindL a ((p,w)::P.zip b) m p=_;unfold bindL;rw[DW λv c=>(aV.mp nd).1 (lF c).1,aj hk];simp
 | p::P,w::b,i+1,m,nd,h1,h2,hk=>by
   show bindL a ((p,w)::P.zip b) m x=_;unfold bindL;exact Eu (i:=i) (aV.mp nd).2 (by simpa using h1) (by simpa using h2) hk
theorem Ei{a:Str->Option NameKind}{x:Str}{v:Value}:∀{P:hO}{b:hH}{i:Nat}{m:hL},P.Nodup->P[i]?=some x->b[i]?=some v->a x≠some .local->bindC a (P.zip b) m x=some v
 | [],_,_,_,_,h,_,_=>by simp at h
 | _::_,[],_,_,_,_,h,_=>by simp at h
 | p::P,w::b,0,m,nd,h1,h2,hk=>by
   simp at h1 h2;subst h1;subst h2;show bindC a ((p,w)::P.zip b) m p=_;unfold bindC;rw[D4 λv c=>(aV.mp nd).1 (lF c).1,ah hk];simp
 | p::P,w::b,i+1,m,nd,h1,h2,hk=>by
   show bindC a ((p,w)::P.zip b) m x=_;unfold bindC;exact Ei (i:=i) (aV.mp nd).2 (by simpa using h1) (by simpa using h2) hk
def start(N:hO)(a:List V):St:=a.map some++List.replicate (N.length-a.length) none
def rE(g:ZL)(P:Program)(w:World)(K:gx)(mg:hL)(base:Heap)(N:hO)(b:Str)(a:Scope)(f:Addr)(d:Value)(A:Around)(outer:List Env)(s:Shared)(H:Hp)(E:XK):Cx where
 prog:=P
 w:=w
 K:=K
 mg:=mg
 base:=base
 A:=A.deeper (envOfC b a s.heap.objs.size f d)
 N:=N
 s₀:=s
 H₀:=H
 env:=envOfC b a s.heap.objs.size f d
 outer:=outer
 stack:=envOfC b a s.heap.objs.size f d::outer
 ex:=[]
 calm:=true
 fn:=λ_=>true
 pn:=[]
 xe:=λe i=>wpAny (model P w) (A.deeper (envOfC b a s.heap.objs.size f d)) (leaving (envOfC b a s.heap.objs.size f d) e) (λ_ c=>g outer H s E e c) (λh c=>g outer H s E h c) i
theorem Al{a:Scope}{n:Nat}{x:Str}(h:a.names.lookup x=some .cell):∃c,(cellsFrom n a.names []).lookup x=some c:=by
 have q:=lI a.names n [] (.inl h);exact gi.mp q
theorem NY{O:ZL}{P:Program}{w:World}{K:gx}{L:hL}{m:Heap}{N C:hO}{j:Str}{d:Scope}{f:Addr}{G:Value}{A:Around}{g:List Env}{s Q:Shared}{H:Hp}{E:XK}{M:hH}{t:List V}(S:η N C d)(X:A.handled=none)(o:aaw P w K L m A g s H)(Z:t.length=C.length)(r:Vals t M)(x:InCallC s s.heap.objs.size (bindL (envOfC j d s.heap.objs.size f G).kindOf (C.zip M) λ_=>none) (cellsFrom (s.heap.objs.size+1) d.names []) (bindC (envOfC j d s.heap.objs.size f G).kindOf (C.zip M) λ_=>none) Q):Inv (rE O P w K L m N j d f G A g s H E) [] (start N t) H Q:=by
 have Zd:C.length<=N.length:=by have:=congrArg List.length S.pre;rw[bA]at this;lia
 obtain⟨I,tk,rfl,T⟩:=x.done;have B:∀b:Addr,b∉(rE O P w K L m N j d f G A g s H E).ex:=λb z=>absurd (show b∈([]:g9)from z) (by simp);refine⟨⟨o.mod,S.kind,rfl,rfl,aJ _,λy z c I l=>?_,λy hy=>?_,λy c _ h=>?_,λ_=>X,Around.frames_deeper o.frames,.inr ⟨rfl,rfl⟩,λb z=>absurd z (B b),o.bs,o.bsz,λb _ _=>B b,λb z=>absurd z (B b),o.nE,o.frf⟩,rfl,o.bare,Un.kept T,⟨_,x.toInCall.ns,λi y v I l h3=>?_⟩,λy c h=>⟨_,x.cell y c h⟩,o.Β.fresh (aJ _),λy c h=>?_,λp F=>absurd (show p∈([]:g8)from F) (by simp),o.Β.kept T,?_⟩
 .exact name_of_addr x.apart (dD I) (dD l)
 .have hy:d.names.lookup y=some .cell\/d.names.lookup y=some .free:=hy;rcases hy with hy|hy
  .exact Al hy
  .exact absurd rfl (S.adZ _ (dD hy))
 .exact jd (x.above y c (dD h))
 .have J:i<t.length:=by
   unfold start at l;by_cases J:i<t.length
   .exact J
   .rw[cM (by simpa using J)]at l;rw[iI]at l;split at l<;>cases l
  have U:t[i]?=some v:=by
   unfold start at l;rw[cU (by simpa using J),aG]at l;cases e:t[i]? with
   | none=>rw[e]at l;cases l
   | some a=>rw[e]at l;cases l;rfl
  obtain⟨u,R,Y⟩:=r.get U;have F:C[i]?=some y:=by
   rw[<-S.pre,iE (by lia)];exact I
  have D:C.Nodup:=by rw[<-S.pre];exact S.nd.sublist (List.take_sublist _ _)
  refine⟨u,Y,?_⟩;rcases S.par y (aX F)with k|k
  .exact .inl ⟨k,Eu D F R k⟩
  .obtain⟨c,e⟩:=Al (n:=s.heap.objs.size+1) k;refine .inr ⟨.inl k,c,e,?_⟩;have q:=x.cell y c e;rw[Ei D F R (by show d.names.lookup y≠_;rw[k];decide)]at q;exact q
 .exact o.Β.fresh (jd (x.above y c (dD h)))
 .unfold start;show _=N.length;rw[aN,ag,cD]
  lia
theorem TL{M:ZL}{P:Program}{w:World}{K:gx}{L:hL}{base:Heap}{k:Nat}{f:Addr}{l d:Str}{g:Arguments}{h:List Stmt}{a:Scope}{dV kV D pm p ct oc:Value}{an od:Option Addr}{T:Array (Option Value)}{N O:hO}{Y:Sp}(lk:K.lookup f=some ⟨oc,od,.func (PySem.W.fnOf l d g h a dV kV D pm an p ct),T⟩)(Z:PySem.W.codeIn K p d=true)(S:η N O a)(B:∀i H Q E,Y i H Q E->i.length=O.length)(Z8:∀(A:Around) (c:List Env) (s:Shared) (H:Hp) (i:List V) (Q:VK) (E:XK),ύ k (A.deeper (envOfC d a s.heap.objs.size f p))->Y i H Q E->∃t,PSs (rE M P w K L base N d a f p A c s H E) h t/\t { nx:=λ_ m=>Q .ς m,rt:=Q } (start N i) H):Ψ P w K L base M (k+1) f (PySem.W.fnOf l d g h a dV kV D pm an p ct) O Y:=by
 refine⟨B,λA c s H am us i Q E U F hb r G=>?_⟩;have hl:=B _ _ _ _ G;have KX:K.In s.heap:=F.mod.kin.keeps λb o e=>(F.bs b o e).1;have R:s.heap.NoLimit:=F.mod.nolimit.keeps λb o e=>(F.bs b o e).1;have ab:∀y∈O.zip us,a.names.lookup y.1=some .local\/(a.names.lookup y.1=some .cell/\((cellsFrom (s.heap.objs.size+1) a.names []).lookup y.1).isSome=true):=λ⟨n,v⟩ hy=>by
  rcases S.par n (lF hy).1 with q|q
  .exact .inl q
  .exact .inr ⟨q,lI _ _ _ (.inl q)⟩
 refine codeAny_call_function U.depth (KX _ _ lk) rfl S.co S.gen rfl (PySem.W.codeRec_of KX Z) (hb _ _ _ _ ?_);refine wpAny_newFunctionEnv_cells S.kind ab λa5 he s1 x=>?_;subst he;refine⟨R.keeps x.toInCall.keep,codeAny_func ?_⟩;obtain⟨t,ht,hq⟩:=Z8 A c s H i Q E (U.deeper _) G;have I:Inv (rE M P w K L base N d a f p A c s H E) [] (start N i) H s1:=NY S U.hd F hl r x;refine fI (ht [] s1 (start N i) H _ I hq) (λfl X z=>?_) λe X z=>z;have C:∀{j:St}{m:Hp}{v:V}{u:Value},Inv (rE M P w K L base N d a f p A c s H E) [] j m X->RelV v u->Q v m->CE c P w H s Q u X:=λ{j m v u} J rv q=>⟨v,m,J.os,J.bare,J.base,J.Β,rv,q⟩
 cases fl with
 | ret u=>
   obtain⟨v,j,m,J,rv,q⟩:=z;exact C J rv q
 | next=>
   obtain⟨j,m,J,q⟩:=z;exact C (v:=V.ς) (u:=Value.none) J rfl q
 | brk=>
   obtain⟨_,_,_,q⟩:=z;exact False.elim q
 | cont=>
   obtain⟨_,_,_,q⟩:=z;exact False.elim q
section
variable{X:Cx}{x:Str}{p a:Pos}{e:Expr}{b:List Expr}{t:TA}{c T:String}{r:List V->Hp->VK->Prop}
def tCB(r:List V->Hp->VK->Prop)(t:TA):TE:=λf H Q=>t f H λg d=>r g d Q
theorem QY(A:nz X (.builtin c) r)(l:Gl X x)(B:X.mg x=none)(z:bootBuiltins x=some (.builtin c))(m:PA X (e::b) t)(j:x≠"__name__":=by decide)(f:(x==("__debug__":Str))=false:=by decide)(i:starEach (e::b) X.env=(false,eval e X.env)::starEach b X.env:=by rfl)(q:(backTo a (starEach b X.env)).any (·.1)=false:=by rfl):PE X (.Call (.Name x p) (e::b) [] a) (tCB r t):=by
 intro d s g H Q I h;refine iA (pS I l B z ?_ j f);exact PyProof.Rows.callWith_builtin1 (uG (m a d s g H _ I h) λv w n k y o u=>A d w g k n v Q y o u) i q
theorem EI(A:nz X (.type T) r)(l:Gl X x)(B:X.mg x=none)(z:bootBuiltins x=some (.type T))(m:PA X (e::b) t)(j:x≠"__name__":=by decide)(f:(x==("__debug__":Str))=false:=by decide)(i:starEach (e::b) X.env=(false,eval e X.env)::starEach b X.env:=by rfl)(q:(backTo a (starEach b X.env)).any (·.1)=false:=by rfl):PE X (.Call (.Name x p) (e::b) [] a) (tCB r t):=by
 intro d s g H Q I h;refine iA (pS I l B z ?_ j f);exact cG (uG (m a d s g H _ I h) λv w n k y o u=>A d w g k n v Q y o u) i q
end
end L2
namespace HT
open PySem PyProof.Rows
section
variable{a:Program}{w:World}{A:Around}{E:gq}{s:Shared}
def ZD(n d:Nat):Option Int->Nat
 | none=>d
 | some v=>if v<0 then(v+(n:Int)).toNat else min v.toNat n
end
end HT
namespace L2
open PySem PySem.Spec PyProof.Rows
abbrev TO:=St->Hp->(Option Int->Hp->Prop)->Prop
def PO(X:Cx)(e:Option Expr)(t:TO):Prop:=∀(a:g8)(s:Shared)(b:St)(H:Hp)(Q:Option Int->Hp->Prop),Inv X a b H s->t b H Q->wpAny (model X.prog X.w) X.A (evalPart e X.env) (λu d=>∃o c,Inv X a b c d/\IsPart u o/\Q o c) X.xe s
def aaI:TO:=λ_ H Q=>Q none H
def TC(t:TE):TO:=λb H Q=>t b H λx a=>∃i,x=.int i/\Q (some i) a
section
variable{X:Cx}{e:Expr}{d:TE}{a c:Option Expr}{f g:TO}{j k:Pos}
theorem UX:PO X none aaI:=by
 intro b s i H Q I h;rw[evalPart_none];exact bh ⟨none,H,I,.none,h⟩
theorem UU(h:PE X e d):PO X (some e) (TC d):=by
 intro b s m H Q I p;rw[evalPart_some];refine eT (h b s m H _ I p) λu v x l o n r=>?_;obtain⟨i,rfl,q⟩:=r;obtain⟨t,rfl⟩:=n;exact⟨some i,l,o,.int i t,q⟩
def SlR(X:Cx)(r:V->Option Int->Option Int->Hp->VK->Prop):Prop:=∀(b:g8)(s:Shared)(h:St)(H:Hp)(x:V)(v i l:Value)(a c:Option Int)(m:Addr)(Q:VK),Inv X b h H s->RelV x v->s.heap.IsSliceOf m i l .none->IsPart i a->IsPart l c->r x a c H Q->∃T id,typeLookup (.type T) "__getitem__"=pure (some (.builtin id))/\s.TypeIs v T/\wpAny (model X.prog X.w) X.A (getItem v (.ref m)) (EP X b h Q) X.xe s
def tSl(r:V->Option Int->Option Int->Hp->VK->Prop)(d:TE)(f g:TO):TE:=λb H Q=>d b H λx h=>f b h λl i=>g b i λu m=>r x l u m Q
theorem Qf{r:V->Option Int->Option Int->Hp->VK->Prop}(L:SlR X r)(y:PE X e d)(K:PO X a f)(Z:PO X c g):PE X (.Subscript e (.Slice a c none k) j) (tSl r d f g):=by
 intro i s n H Q I h;refine Subscript_ (eT (y i s n H _ I h) λv R x E U G M=>?_);refine wpAny_Slice (ϖ (K i R n E _ U M) λo Y ⟨l,O,N,W,D⟩=>ϖ (Z i Y n O _ N D) λp m ⟨u,t,J,B,z⟩=>?_);rw[evalPart_none];refine bh ?_;have P:Inv X i n t { m with heap:=m.heap.push { cls:=.type "slice",data:=.fields #[o,p,.none] } }:=J.kept (t':=m.toks) λb ob q=>ay _ q;obtain⟨T,id,S,C,F⟩:=L i { m with heap:=m.heap.push { cls:=.type "slice",data:=.fields #[o,p,.none] } } n t x v o p l u m.heap.objs.size Q P G (Heap.IsSliceOf.new ..) W B z;show wpAny (model X.prog X.w) X.A (subscriptTail e (.Slice a c none k) v (.ref m.heap.objs.size)) (EP X i n Q) X.xe { m with heap:=m.heap.push { cls:=.type "slice",data:=.fields #[o,p,.none] } };exact tail_any (ops:=[.ref m.heap.objs.size,v]) C S F (by with_unfolding_all rfl)
def xa(b:List V)(a c:Option Int):List V:=(b.drop (HT.ZD b.length 0 a)).take (HT.ZD b.length b.length c-HT.ZD b.length 0 a)
theorem IA(b:List V)(a c:Option Int):(xa b a c).length<=b.length:=by
 unfold xa;rw[bA,eZ]
 lia
end
def ixN(n:Nat)(i:Int):Option Nat:=if 0<=i then(if i<n then some i.toNat else none)else if -(n:Int)<=i then some (i+n).toNat else none
def gT{b:Type}(a:List b)(i:Int):Option b:=(ixN a.length i).bind λj=>a[j]?
theorem Kl{n:Nat}{i:Int}{j:Nat}(h:ixN n i=some j):seqIndex? i n=some j/\j<n/\-(n:Int)<=i/\i<n:=by
 unfold ixN at h;by_cases b:0<=i
 .rw[aj b]at h;by_cases a:i<n
  .rw[aj a]at h;have e:i.toNat=j:=bq h;exact⟨by rw[seqIndex_of b a,e],by lia,by lia,a⟩
  .rw[ah a]at h;cases h
 .rw[ah b]at h;by_cases a:-(n:Int)<=i
  .rw[aj a]at h;have e:(i+n).toNat=j:=bq h;exact⟨by rw[seqIndex_neg (by lia) a,e],by lia,a,by lia⟩
  .rw[ah a]at h;cases h
theorem DD{b:Type}{a:List b}{i:Int}{v:b}(h:gT a i=some v):∃j,seqIndex? i a.length=some j/\a[j]?=some v/\j<a.length/\-(a.length:Int)<=i/\i<a.length:=by
 unfold gT at h;cases e:ixN a.length i with
 | none=>rw[e]at h;cases h
 | some j=>
   rw[e]at h;obtain⟨c,f,d,g⟩:=Kl e;exact⟨j,c,h,f,d,g⟩
theorem Vb{b:Type}{a:List b}{j:Nat}{v:b}(h:a[j]?=some v):gT a (j:Int)=some v:=by
 have c:j<a.length:=(aw.mp h).1;have e:ixN a.length (j:Int)=some j:=by
  unfold ixN;rw[aj (by lia),aj (by lia)];simp
 unfold gT;rw[e];exact h
def Km(b:Expr):Prop:=∀o i,subscripted b false o i=operate [o,i] (getItem o i)
def IxR(X:Cx)(r:R2):Prop:=∀(c a:Expr)(b:g8)(s:Shared)(d:St)(H:Hp)(x y:V)(v u:Value)(Q:VK),Inv X b d H s->RelV x v->RelV y u->r x y H Q->subscripted a false v u=operate [v,u] (getItem v u)->wpAny (model X.prog X.w) X.A (subscriptTail c a v u) (EP X b d Q) X.xe s
def MtR(X:Cx)(id:String)(r:V->List V->Hp->VK->Prop):Prop:=∀(a:g8)(s:Shared)(b:St)(H:Hp)(x:V)(d:List V)(v:Value)(c:hH)(Q:VK),Inv X a b H s->RelV x v->Vals d c->r x d H Q->wpAny (model X.prog X.w) X.A (call (.builtin id) (v::c)) (EP X a b Q) X.xe s
section
variable{X:Cx}{a b:Expr}{E F:TE}{D:Pos}
theorem qO{r:R2}(g:IxR X r)(e:PE X a E)(n:PE X b F)(i:Km b):PE X (.Subscript a b D) (tOp r E F):=by
 intro c s f H Q I h;exact Subscript_ (SW e n I h λv u l x y k j m d q=>g a b c l f k x y v u Q j m d q (i _ _))
def GR(K:gx):R2:=λx y H Q=>∃p c i v,x=.ref p/\y=.int i/\ν K H p c/\gT c i=some v/\Q v H
def MC(K:gx):R2:=λx y H Q=>∃p c i v,x=.ref p/\y=.int i/\Κ K H p c/\gT c i=some v/\Q v H
theorem cf:IxR X (GR X.K):=by
 intro g f c s o H x y v u Q I P G h B;obtain⟨p,T,i,z,rfl,rfl,N,C,q⟩:=h;cases P;obtain⟨t,rfl⟩:=G;obtain⟨m,r,l,V⟩:=I.list N;obtain⟨j,e,O,U,R,M⟩:=DD C;obtain⟨w,A,k⟩:=r.get O;have J:=r.length;have S:=sC;have d:EP X c o Q w s:=⟨z,H,I,k,q⟩;by_cases n:0<=i
 .have hj:i.toNat=j:=by
   rw[seqIndex_of n M]at e;exact bq e
  exact item_listR l.isList n (by lia) (by rw[hj];simpa using A) d B
 .have hj:(i+(m.toArray.size:Int)).toNat=j:=by
   rw[seqIndex_neg (by lia) R]at e;rw[aU,<-J];exact bq e
  exact subscriptTail_builtinR (x:=w) l.isList.typeIs slot_list_getitem.lookup
   (wpAny_getItem_list_neg (Q:=λr L=>r=w/\EP X c o Q r L) l.isList (by lia) (by rw[aU]<;>lia) (by lia) (by rw[hj];simpa using A) ⟨rfl,d⟩) B
theorem jT:IxR X (MC X.K):=by
 intro f e c s k H x y v u Q I L n h G;obtain⟨p,P,i,z,rfl,rfl,C,m,q⟩:=h;cases L;obtain⟨t,rfl⟩:=n;obtain⟨N,r,l,U⟩:=I.tuple C;obtain⟨j,M,J,S,T,R⟩:=DD m;obtain⟨w,o,g⟩:=r.get J;have A:=r.length;have O:=sC;have d:EP X c k Q w s:=⟨z,H,I,g,q⟩;exact subscriptTail_builtinR (x:=w) l.typeIs slot_tuple_getitem.lookup
  (getItem_tuple (j:=j) (Q:=λr B=>r=w/\EP X c k Q r B) l (by lia) (by lia) (by rw[aU,<-A];exact M) (by simpa using o) ⟨rfl,d⟩) G
theorem Lf(c:hH)(n j:Nat)(u:Value):Obj.mapSeq (·.setIfInBounds j u) { cls:=.type "list",data:=.seq c.toArray n }={ cls:=.type "list",data:=.seq (c.set j u).toArray n }:=by
 simp[Obj.mapSeq]
theorem Inv.lst{d:g8}{g:St}{H:Hp}{s:Shared}{p:Addr}{f:List V}(I:Inv X d g H s)(h:H p=some (.lst f)):∃(c:hH)(n:Nat),Vals f c/\s.heap.get? p=some { cls:=.type "list",data:=.seq c.toArray n }/\f.length<=sizeLine:=by
 obtain⟨z,c,n,r,e⟩:=I.Β p _ h;exact⟨c,n,r,e,z⟩
theorem Inv.aea{d:g8}{k:St}{H:Hp}{s:Shared}{p:Addr}{m j:List V}{g c:hH}{n i:Nat}{f:Obj->Obj}(I:Inv X d k H s)(h:H p=some (.lst m))(o:s.heap.get? p=some { cls:=.type "list",data:=.seq g.toArray n })(l:f { cls:=.type "list",data:=.seq g.toArray n }={ cls:=.type "list",data:=.seq c.toArray i })(r:Vals j c)(w:j.length<=sizeLine)(t:Nat):Inv X d k (upd H p (.lst j)) { s with heap:=s.heap.update p f,toks:=t }:=by
 have e:(s.heap.update p f).get? p=some { cls:=.type "list",data:=.seq c.toArray i }:=by
  rw[eR f o (by rw[l]<;>rfl),l]
 refine I.write (x:=p) (e:=p) (by rw[h];trivial) (.inl rfl) (λb u v q=>(di _ _ (Ne.symm v)).trans q) ⟨_,e⟩ ?_;exact⟨w,c,i,r,e⟩
def ady:V->V->V->Hp->(Hp->Prop)->Prop:=λo i v H Q=>∃p c k j,o=.ref p/\i=.int k/\H p=some (.lst c)/\ixN c.length k=some j/\Q (upd H p (.lst (c.set j v)))
theorem jP:Ro X ady:=by
 intro c s B H o i v L O u Q I z G J h;obtain⟨p,A,k,j,rfl,rfl,m,C,q⟩:=h;cases z;obtain⟨t,rfl⟩:=G;obtain⟨d,n,r,f,K⟩:=I.lst m;obtain⟨e,N,w,y⟩:=Kl C;have g:=r.length;have M:=sC;have x:Inv X c B (upd H p (.lst (A.set j v))) { s with heap:=s.heap.update p (Obj.mapSeq (·.setIfInBounds j u)) }:=I.aea m f (Lf d n j u) (r.set J j) (by rw[b8];exact K) s.toks
 by_cases l:0<=k
 .have hk:k.toNat=j:=by
   rw[seqIndex_of l y]at e;exact bq e
  exact PySem.W.ki_setAt f l (by lia) (by rw[aU,<-g];exact y) (by rw[hk];exact⟨_,x,q⟩)
 .have hk:(k+(d.toArray.size:Int)).toNat=j:=by
   rw[seqIndex_neg (by lia) w]at e;rw[aU,<-g];exact bq e
  exact PySem.W.ki_setBack f (by lia) (by rw[aU,<-g];exact w) (by lia) (by rw[hk];exact⟨_,x,q⟩)
theorem Gk(lo c:Option Int)(n:Nat):(sliceBounds lo c none n).1=((HT.ZD n 0 lo:Nat):Int)/\(sliceBounds lo c none n).2.1=((HT.ZD n n c:Nat):Int)/\(sliceBounds lo c none n).2.2=1:=by
 refine⟨?_,?_,rfl⟩
 .cases lo with
  | none=>simp[sliceBounds,HT.ZD]
  | some i=>
    simp only[sliceBounds,HT.ZD,Option.getD_none,show(1:Int)>0 by decide,if_true];by_cases h:i<0
    .simp only[h,if_true]<;>lia
    .simp only[h,if_false]<;>lia
 .cases c with
  | none=>simp[sliceBounds,HT.ZD]
  | some i=>
    simp only[sliceBounds,HT.ZD,Option.getD_none,show(1:Int)>0 by decide,if_true];by_cases h:i<0
    .simp only[h,if_true]<;>lia
    .simp only[h,if_false]<;>lia
theorem Fh(c:hH)(lo d:Option Int):slicePick c.toArray lo d none=((c.drop (HT.ZD c.length 0 lo)).take (HT.ZD c.length c.length d-HT.ZD c.length 0 lo)).toArray:=by
 obtain⟨e,g,f⟩:=Gk lo d c.toArray.size;unfold slicePick;rw[e,g,f];simp only[sliceRange_one,pick_run,aU]<;>rfl
def Vq(K:gx):V->Option Int->Option Int->Hp->VK->Prop:=λx lo d H Q=>∃a c,x=.ref a/\ν K H a c/\∀p,H p=none->Q (.ref p) (upd H p (.lst (xa c lo d)))
theorem U9:SlR X (Vq X.K):=by
 intro g s u H x v t w lo e y Q I m k l j h;obtain⟨a,c,rfl,i,q⟩:=h;cases m;obtain⟨n,r,f,p⟩:=I.list i;have d:=r.length;refine⟨"list",_,slot_list_getitem.lookup,f.isList.typeIs,?_⟩;refine wpAny_getItem_list_slice f.isList k l j .none (by simp) ?_ (by rw[aU]<;>lia);rw[Fh,<-d];refine⟨.ref s.heap.objs.size,_,I.laid (t':=s.toks) (o:=.lst (xa c lo e)) (λb z q=>ay _ q) (aJ _) ?_,rfl,q _ (I.Β.fresh (aJ _))⟩;exact⟨bw (IA c lo e) p,_,0,(r.drop (HT.ZD c.length 0 lo)).take (HT.ZD c.length c.length e-HT.ZD c.length 0 lo),bc _ rfl⟩
theorem jF:nz X (.builtin "len") (λf H Q=>∃p d,f=[.ref p]/\(ν X.K H p d\/Κ X.K H p d)/\Q (.int d.length) H):=by
 intro e s i H f j Q I r h;obtain⟨p,d,rfl,hq,q⟩:=h;obtain⟨u,rfl,g⟩:=ue r;cases g;have k:=sC;rcases hq with hq|hq
 .obtain⟨its,r',pl,hz⟩:=I.list hq;have c:=r'.length;exact Calls.call_len_list pl.isList (by simp only[aU]<;>lia) ⟨.int d.length,H,I.tok _,⟨s.toks+1,by rw[aU,c]⟩,q⟩
 .obtain⟨its,r',pl,hz⟩:=I.tuple hq;have c:=r'.length;exact len_tuple pl (by simp only[aU]<;>lia) ⟨.int d.length,H,I.tok _,⟨s.toks+1,by rw[aU,c]⟩,q⟩
theorem pZ:nz X (.type "list") (λA H Q=>∃p g,A=[.ref p]/\(ν X.K H p g\/Κ X.K H p g)/\∀l,H l=none->Q (.ref l) (upd H l (.lst g))):=by
 intro t s C H A J Q I r h;obtain⟨p,g,rfl,hq,q⟩:=h;obtain⟨u,rfl,G⟩:=ue r;cases G;have j:∀(c:hH),Vals g c->g.length<=sizeLine->∀(d:Heap)(i:Nat),(∀b B,s.heap.get? b=some B->d.get? b=some B)->d.get? s.heap.objs.size=some { cls:=.type "list",dict:=none,data:=.seq c.toArray i,slots:=#[] }->EP X t C Q (.ref s.heap.objs.size) { s with heap:=d }:=λc f v d i m e=>
  ⟨.ref s.heap.objs.size,_,I.laid (t':=s.toks) m (aJ _) (show Λ X.prog X.w _ d _ (.lst g)from⟨v,c,i,f,e⟩),rfl,q _ (I.Β.fresh (aJ _))⟩
 rcases hq with hq|hq
 .obtain⟨c,f,pl,v⟩:=I.list hq;have k:=f.length;obtain⟨o,y,z,n,x⟩:=pl.isList;exact call_list_seq p (.inl rfl) y z x (λd i m e=>j c f v d i m e) (by simp only[aU]<;>lia)
 .obtain⟨c,f,pl,v⟩:=I.tuple hq;have k:=f.length;obtain⟨o,y,z,n,x⟩:=pl;exact call_list_seq p (.inr rfl) y z x (λd i m e=>j c f v d i m e) (by simp only[aU]<;>lia)
theorem mO:nz X (.type "tuple") (λg H Q=>∃p d,g=[.ref p]/\((ν X.K H p d/\∀l,H l=none->Q (.ref l) (upd H l (.tup d)))\/(Κ X.K H p d/\Q (.ref p) H))):=by
 intro c s i H g v Q I r h;obtain⟨p,d,rfl,h⟩:=h;obtain⟨u,rfl,t⟩:=ue r;cases t;rcases h with⟨hq,q⟩|⟨hq,q⟩
 .obtain⟨its,r',pl,hz⟩:=I.list hq;have j:=r'.length;refine call_tuple_list pl.isList (λf n=>?_) (by simp only[aU]<;>lia);have k:Inv X c i H { s with heap:=f }:=I.kept (t':=s.toks) n;have m:Inv X c i (upd H f.objs.size (.tup d)) { s with heap:=f.push { cls:=.type "tuple",data:=.seq its.toArray } }:=k.laid (t':=s.toks) (λb o e=>ay _ e) (aJ _) (show Λ X.prog X.w _ _ _ (.tup d)from⟨hz,its,r',IsTup.new _ _⟩)
  exact⟨.ref f.objs.size,_,m,rfl,q _ (k.Β.fresh (aJ _))⟩
 .obtain⟨its,r',pl,hz⟩:=I.tuple hq;exact call_tuple_same pl ⟨.ref p,H,I,rfl,q⟩
def tyV(K:gx)(T:String)(x:V)(H:Hp):Prop:=match x with
 | .str _=>T="str"
 | .int _=>T="int"
 | .ref p=>(T="list"/\∃d,ν K H p d)\/(T="tuple"/\∃o,K.lookup p=some o/\o.cls=.type "tuple"/\o.dict=none)\/(T="dict"/\((∃c,H p=some (.dK c))\/∃c,H p=some (.dT c)))\/(T="set"/\∃S n,H p=some (.set S n))
 | _=>False
theorem OF{f:g8}{l:St}{H:Hp}{s:Shared}{T:String}{x:V}{v:Value}(I:Inv X f l H s)(r:RelV x v)(g:tyV X.K T x H):s.TypeIs v T/\∀a,v=.ref a->∃k,s.heap.get? a=some k/\k.dict=none:=by
 cases x with
 | str z=>
   obtain⟨t,rfl⟩:=r;cases(show T="str" from g);exact⟨typeIs_str s z t,λ_ e=>nomatch e⟩
 | int i=>
   obtain⟨t,rfl⟩:=r;cases(show T="int" from g);exact⟨typeIs_int s i t,λ_ e=>nomatch e⟩
 | ref p=>
   cases r;rcases g with⟨rfl,xs,hq⟩|⟨rfl,o,hk,hc,h⟩|⟨rfl,hk⟩|⟨rfl,S,n,hk⟩
   .obtain⟨its,_,pl,_⟩:=I.list hq;refine⟨pl.isList.typeIs,λa e=>?_⟩;cases e;obtain⟨o,n,e,c,h,_⟩:=pl;exact⟨o,e,h⟩
   .refine⟨⟨o,I.kIn p o hk,hc⟩,λa e=>?_⟩;cases e;exact⟨o,I.kIn _ o hk,h⟩
   .have z:∃o,s.heap.get? p=some o/\o.ExactDict:=by
     rcases hk with⟨θ,hk⟩|⟨θ,hk⟩
     .obtain⟨_,_,_,_,o,_,_,e,d,_⟩:=I.Β p _ hk;exact⟨o,e,d⟩
     .obtain⟨_,_,_,_,o,_,_,e,d,_⟩:=I.Β p _ hk;exact⟨o,e,d⟩
    obtain⟨o,e,d⟩:=z;refine⟨⟨o,e,d.1⟩,λa j=>?_⟩;cases j;exact⟨o,e,d.2.1⟩
   .obtain⟨o,_,_,_,e,d,_⟩:=I.Β p _ hk;refine⟨⟨o,e,d.1⟩,λa j=>?_⟩;cases j;exact⟨o,e,d.2.1⟩
 | _=>exact False.elim g
def PY(K:gx)(T:String)(r:V->List V->Hp->VK->Prop)(A:TE):TE:=λd H Q=>A d H λx c=>tyV K T x c/\r x [] c Q
def tBM(K:gx)(T:String)(r:V->List V->Hp->VK->Prop)(A:TE)(t:TA):TE:=λd H Q=>A d H λx c=>tyV K T x c/\t d c λf e=>r x f e Q
variable{o e:Expr}{C:List Expr}{A:TE}{t:TA}{d:Str}{g m:Pos}{T B:String}{r:V->List V->Hp->VK->Prop}
theorem Gw(M:PlainAttrs T)(i:Slot T d B)(j:typeOf (.builtin B)=pure (.type "method_descriptor"))(L:MtR X B r)(w:PE X o A)(k:attributeBase o d X.env (eval o X.env)=eval o X.env:=by rfl)(f:(g.endLine==m.line)=true:=by rfl):PE X (.Call (.Attribute o d g) [] [] m) (PY X.K T r A):=by
 intro c s l H Q I h;refine wpAny_Call_method0_late k f (eT (w c s l H _ I h) λv z x u p n ⟨q,y⟩=>?_);obtain⟨J,G⟩:=OF p n q;exact⟨T,B,M,i,j,J,G,Calls.callWith_builtin rfl (PySem.evalArgs_none (L c z l u x [] v [] Q p n .nil y))⟩
theorem oB(pa:PlainAttrs T)(i:Slot T d B)(l:typeOf (.builtin B)=pure (.type "method_descriptor"))(hm:MtR X B r)(N:PE X o A)(J:PA X (e::C) t)(n:attributeBase o d X.env (eval o X.env)=eval o X.env:=by rfl)(p:((backTo m (starEach (e::C) X.env)).all (λx=>!x.1)&&(backToKw m (keywordEach [] X.env)).all (λx=>x.1.isSome)
 && decide ((e::C).length+([]:List Keyword).length+(if([]:List Keyword).isEmpty then 0 else 1)<30))=true:=by rfl)(f:(g.endLine==m.line)=true:=by rfl)(P:starEach (e::C) X.env=(false,eval e X.env)::starEach C X.env:=by rfl)(j:(backTo m (starEach C X.env)).any (·.1)=false:=by rfl):PE X (.Call (.Attribute o d g) (e::C) [] m) (tBM X.K T r A t):=by
 intro c s k H Q I h;refine wpAny_Call_method_late n p f rfl (eT (N c s k H _ I h) λv V x G u q ⟨y,O⟩=>?_);obtain⟨Z,W⟩:=OF u q y;refine⟨T,B,pa,i,l,Z,W,?_⟩;have w:=J m c V k G _ u O;rw[P]at w ⊢;refine Calls.callWith_builtin (by show(false||(backTo m (starEach C X.env)).any (·.1))=false;rw[j]<;>rfl) (Calls.evalArgs_plain ?_);exact ϖ w λU Y ⟨M,R,S,L,z⟩=>hm c Y k R x M v U Q S q L z
end
def MtM(X:Cx)(id:String)(r:V->List V->Hp->VK->Prop):Prop:=∀(a:g8)(s:Shared)(b:St)(H:Hp)(x:V)(d:List V)(v:Value)(c:hH)(Q:VK),Inv X a b H s->RelV x v->Vals d c->r x d H Q->wpAny (model X.prog X.w) X.A (call (.builtin id) (v::c)) (EP X a b Q) X.xe s
theorem Vals.one{x:V}{a:hH}(h:Vals [x] a):∃u,a=[u]/\RelV x u:=by
 cases h with
 | cons r t=>cases t;exact⟨_,rfl,r⟩
theorem Vals.two{x y:V}{a:hH}(h:Vals [x,y] a):∃u v,a=[u,v]/\RelV x u/\RelV y v:=by
 cases h with
 | cons r t=>
   obtain⟨v,e,q⟩:=Vals.one t;subst e;exact⟨_,v,rfl,r,q⟩
theorem Vals.zero:∀{a:hH},Vals [] a->a=[]
 | _,.nil=>rfl
theorem Vals.dropLast{a:List V}{b:hH}(h:Vals a b):Vals a.dropLast b.dropLast:=by
 induction h with
 | nil=>exact .nil
 | cons r t ih=>
   cases t with
   | nil=>exact .nil
   | cons q t'=>exact .cons r ih
theorem Vals.reverse{a:List V}{b:hH}(h:Vals a b):Vals a.reverse b.reverse:=by
 induction h with
 | nil=>exact .nil
 | cons r t ih=>rw[eL,eL];exact Vals.append ih (.cons r .nil)
theorem Vals.rep{a:List V}{b:hH}(h:Vals a b):∀k:Nat,Vals (List.replicate k a).flatten (List.replicate k b).flatten
 | 0=>.nil
 | k+1=>by
   rw[cW,cW,f6,f6];exact Vals.append h (Vals.rep h k)
theorem Mb{c:Type}(l:List c):l.eraseIdx (l.length-1)=l.dropLast:=by
 induction l with
 | nil=>rfl
 | cons a r ih=>
   cases r with
   | nil=>rfl
   | cons b r=>
     have e:(a::b::r).length-1=((b::r).length-1)+1:=by
      have d:(a::b::r).length=r.length+2:=rfl;have f:(b::r).length=r.length+1:=rfl
      lia
     rw[e,List.eraseIdx_cons_succ,ih]
     all_goals rfl
theorem Ew(b:hH):∀(k:Nat)(a:hH),List.foldl (λf c=>f++c) a.toArray (List.replicate k b.toArray)=(a++(List.replicate k b).flatten).toArray
 | 0,a=>by simp
 | k+1,a=>by
   have e:a.toArray++b.toArray=(a++b).toArray:=by simp
   have d:(a++b)++(List.replicate k b).flatten=a++(List.replicate (k+1) b).flatten:=by
    rw[cW,f6,c7]
   rw[<-d,<-Ew b k (a++b),<-e,cW,gG]
section
variable{X:Cx}{a:g8}{c:St}{H:Hp}{s:Shared}{l b:Addr}{g d i:List V}
theorem Inv.aed{h its':hH}{n:Nat}{f:Array Value->Array Value}{m:Nat}(I:Inv X a c H s)(k:H l=some (.lst g))(e:s.heap.get? l=some { cls:=.type "list",data:=.seq h.toArray n })(o:f h.toArray=its'.toArray)(t:Vals d its')(p:d.length<=sizeLine):Inv X a c (upd H l (.lst d)) { s with heap:=s.heap.update l (Obj.mapSeq f),toks:=m }:=by
 have q:=PySem.IsL.update e f;rw[o]at q;refine I.write (x:=l) (e:=l) (by rw[k];exact trivial) (.inl rfl) (λv u r j=>(di s.heap (Obj.mapSeq f) (Ne.symm r)).trans j) ⟨_,q⟩ ?_;exact⟨p,its',_,t,q⟩
theorem Inv.afI{e:hH}{t':Nat}(I:Inv X a c H s)(h:Vals d e)(f:d.length<=sizeLine):Inv X a c (upd H s.heap.objs.size (.lst d)) { s with heap:=s.heap.push { cls:=.type "list",data:=.seq e.toArray },toks:=t' }:=I.laid (λ_ _ q=>ay _ q) (aJ _) ⟨f,e,0,h,bc _ rfl⟩
theorem Inv.fresh(I:Inv X a c H s):H s.heap.objs.size=none:=I.Β.fresh (aJ _)
theorem Inv.abb(I:Inv X a c H s)(h:H l=some (.lst g)):g.length<=sizeLine/\∃(f:hH)(n:Nat),Vals g f/\g.length=f.length/\s.heap.get? l=some { cls:=.type "list",data:=.seq f.toArray n }:=by
 obtain⟨z,f,n,r,e⟩:=I.Β l _ h;exact⟨z,f,n,r,r.length,e⟩
theorem Te{n:Nat}(h:n<=sizeLine):Builtin.List.listTooLong n=false:=by
 unfold Builtin.List.listTooLong;exact cV (by lia)
end
section
variable{X:Cx}
def iD:V->List V->Hp->VK->Prop:=λx b H Q=>∃l a y,x=.ref l/\b=[y]/\H l=some (.lst a)/\a.length<sizeLine/\Q .ς (upd H l (.lst (a++[y])))
theorem ip:MtM X "list.append" iD:=by
 intro c s j H x k v o Q I d g h;obtain⟨l,i,y,rfl,rfl,b,p,q⟩:=h;cases d;obtain⟨u,rfl,f⟩:=g.one;obtain⟨z,a,n,r,m,e⟩:=I.abb b;refine call_meets F.slot_list_append ⟨_,e,rfl⟩ F.entry_list_append (F.args_list_append_2 _ _) (PySem.list_append l a.toArray n u (by rw[aU];lia)) ⟨e,?_⟩;refine⟨.ς,_,I.aed (its':=a++[u]) b e (by simp) (r.append (.cons f .nil)) ?_,rfl,q⟩;rw[aN,ji]
 lia
def afJ:V->List V->Hp->VK->Prop:=λx b H Q=>∃l a y,x=.ref l/\b=[]/\H l=some (.lst a)/\a[a.length-1]?=some y/\Q y (upd H l (.lst a.dropLast))
theorem Hi:MtM X "list.pop" afJ:=by
 intro f s t H x w v A Q I i o h;obtain⟨l,p,y,rfl,rfl,d,j,q⟩:=h;cases i;have c:=o.zero;subst c;obtain⟨z,a,n,r,g,e⟩:=I.abb d;obtain⟨u,k,m⟩:=r.get j;have b:a.toArray[a.toArray.size-1]?=some u:=by
  show a.toArray[a.length-1]?=some u;rw[<-Array.getElem?_toList,<-g];exact k
 refine call_meets F.slot_list_pop ⟨_,e,rfl⟩ F.entry_list_pop (F.args_list_pop_1 _) (MeetsSeq.list_pop_last l a.toArray n u b (by rw[aU];lia)) ⟨e,?_⟩;refine⟨y,_,I.aed (its':=a.dropLast) d e ?_ r.dropLast ?_,m,q⟩
 .show a.toArray.eraseIdxIfInBounds (a.toArray.size-1)=a.dropLast.toArray;rw[aU,List.eraseIdxIfInBounds_toArray,Mb]
 .rw[List.length_dropLast]
  lia
def akw:R2:=λx y H Q=>∃l b a c,x=.ref l/\y=.ref b/\H l=some (.lst a)/\H b=some (.lst c)/\a.length+c.length<=sizeLine/\∀p,H p=none->Q (.ref p) (upd H p (.lst (a++c)))
theorem VA:aC X (binaryOp .Add) akw:=by
 intro d s A H x y v u Q I m g h;obtain⟨l,b,w,D,rfl,rfl,k,f,E,q⟩:=h;cases m;cases g;obtain⟨z,c,n,r,B,e⟩:=I.abb k;obtain⟨t,a,C,i,o,p⟩:=I.abb f;refine PySem.P.add_list e p ?_ (by rw[aU,aU];lia);have j:c.toArray++a.toArray=(c++a).toArray:=by simp
 rw[j];exact⟨.ref _,_,I.afI (t':=s.toks) (r.append i) (by rw[aN];lia),rfl,q _ I.fresh⟩
def akx:R2:=λx y H Q=>∃l k a,x=.ref l/\y=.int k/\H l=some (.lst a)/\-(2^63)<=k/\k<2^63/\a.length*k.toNat<=sizeLine/\∀p,H p=none->Q (.ref p) (upd H p (.lst (List.replicate k.toNat a).flatten))
theorem Ud{b:Type}(a:List b)(k:Nat):(List.replicate k a).flatten.length=k*a.length:=by
 induction k with
 | zero=>simp
 | succ k ih=>rw[cW,f6,aN,ih,m7,m9]
theorem pY:aC X (binaryOp .Mult) akx:=by
 intro w s M H x y v u Q I J A h;obtain⟨l,k,L,rfl,rfl,E,K,G,p,q⟩:=h;cases J;obtain⟨t,rfl⟩:=A;obtain⟨z,b,n,r,B,e⟩:=I.abb E;have c:b.toArray.size*k.toNat<=sizeLine:=by rw[aU,<-B];exact p
 have i:¬b.toArray.size*k.toNat>(2^63-1)/8:=by
  have:(sizeLine:Nat)<=(2^63-1)/8:=by decide
  lia
 have d:¬(!Builtin.List.listFitsIndex k)=true:=by
  rw[fitsIndex_both K G];exact bz
 have j:¬Builtin.List.listTooLong (b.toArray.size*k.toNat)=true:=by
  rw[Te c];exact bz
 have f:List.foldl (λo g=>o++g) #[] (List.replicate (if b.toArray.isEmpty=true then 0 else k.toNat) b.toArray)=(List.replicate k.toNat b).flatten.toArray:=by
  have D:∀m:Nat,List.foldl (λo g=>o++g) #[] (List.replicate m b.toArray)=(List.replicate m b).flatten.toArray:=λm=>by
   have:=Ew b m [];rw[fC]at this;exact this
  rw[D];cases b with
  | nil=>simp
  | cons a r'=>rw[ah (by simp)]
 refine wpAny_binaryOp_repeat_ref (T:="list") (U:="int") (by decide) ⟨_,e,rfl⟩ (λC=>typeIs_int C k t) noFill_list_mul F.fills_int_mul F.slot_int_rmul repeat_list F.slot_int_index.lookup
  (call_meets F.slot_int_rmul (typeIs_int s k t) F.entry_int_rmul (F.args_int_rmul_2 _ _) (int___rmul___int_list k t l b.toArray n)
   ⟨e,rfl,⟨_,e,rfl⟩,call_meets F.slot_list_mul ⟨_,e,rfl⟩ F.entry_list_mul (F.args_list_mul_2 _ _) (AutoListH.list___mul___list_int_3 l b.toArray n k t d i j) ⟨e,?_⟩⟩)
 rw[f];exact⟨.ref _,_,I.afI (t':=s.toks) (r.rep k.toNat) (by rw[Ud,Nat.mul_comm];exact p),rfl,q _ I.fresh⟩
end
section
variable{a:Program}{w:World}{A:Around}{E:gq}{s:Shared}
set_option maxRecDepth 100000 in
end
section
variable{a:Type}[DecidableEq a]
def qC(b:List (a×V))(k:a):Option V:=(b.find? λc=>decide (c.1=k)).map (·.2)
def m6(c:List (a×V))(k:a)(v:V):List (a×V):=if(c.any λb=>decide (b.1=k))=true then c.map (λb=>if b.1=k then(b.1,v)else b)else c++[(k,v)]
theorem wt{p:a×V}{r:List (a×V)}{k:a}(e:p.1=k):qC (p::r) k=some p.2:=by simp[qC,gF,e]
theorem we{p:a×V}{r:List (a×V)}{k:a}(e:¬p.1=k):qC (p::r) k=qC r k:=by simp[qC,gF,e]
theorem zQ(k:a):∀b:List (a×V),(b.any λc=>decide (c.1=k))=(qC b k).isSome
 | []=>rfl
 | p::r=>by
   rw[mY];by_cases e:p.1=k
   .simp only[wt e,bE e,Bool.true_or,Option.isSome_some]
   .rw[we e,cV e,nK];exact zQ k r
theorem uA(b:List (a×V))(k:a)(v:V):(m6 b k v).length<=b.length+1:=by
 unfold m6;split
 .rw[ag];lia
 .rw[aN,ba,dU];lia
theorem PH{b:List (a×V)}{k:a}(v:V)(h:qC b k=none):m6 b k v=b++[(k,v)]:=by
 unfold m6;rw[zQ,h];exact ah (by decide)
theorem Zg.oK{o:Option V}{u:Option Value}(r:Zg o u):o.isSome=u.isSome:=by
 cases o with
 | none=>cases u with
   | none=>rfl
   | some _=>exact(show False from r).elim
 | some _=>cases u with
   | none=>exact(show False from r).elim
   | some _=>rfl
theorem KV.val{f:List (a×V)}{d:List (a×Value)}(r:KV f d)(k:a):Zg (qC f k) (valueAt d k):=by
 unfold KV at r
 induction r with
 | nil=>exact True.intro
 | @cons p q ps qs h t ih=>
   obtain⟨c,g⟩:=h;by_cases e:p.1=k
   .have e':q.1=k:=c.symm.trans e;have b:valueAt (q::qs) k=some q.2:=(by simp[valueAt,gF,e']);rw[wt e,b];exact g
   .have e':¬q.1=k:=λz=>e (c.trans z);have b:valueAt (q::qs) k=valueAt qs k:=(by simp[valueAt,gF,e']);rw[we e,b];exact ih
theorem KV.any{d:List (a×V)}{c:List (a×Value)}(r:KV d c)(k:a):(d.any λb=>decide (b.1=k))=c.any λb=>decide (b.1=k):=by
 unfold KV at r
 induction r with
 | nil=>rfl
 | cons h t ih=>rw[mY,mY,ih,h.1]
theorem KV.repl{f:List (a×V)}{d:List (a×Value)}(r:KV f d)(k:a){y:V}{u:Value}(i:RelV y u):KV (f.map λb=>if b.1=k then(b.1,y)else b) (d.map λb=>if b.1=k then(b.1,u)else b):=by
 unfold KV at r ⊢
 induction r with
 | nil=>exact .nil
 | @cons p q ps qs h t ih=>
   rw[aF,aF];refine .cons ?_ ih;obtain⟨c,g⟩:=h;by_cases e:p.1=k
   .rw[aj e,aj (c.symm.trans e)];exact⟨c,i⟩
   .rw[ah e,ah (λz=>e (c.trans z))];exact⟨c,g⟩
theorem KV.put{c:List (a×V)}{b:List (a×Value)}(r:KV c b)(k:a){y:V}{u:Value}(d:RelV y u):KV (m6 c k y) (stored b k u):=by
 unfold m6 stored;rw[r.any k];by_cases e:(b.any λf=>decide (f.1=k))=true
 .rw[aj e,aj e];exact r.repl k d
 .rw[ah e,ah e];exact Paired.snoc r ⟨rfl,d⟩
theorem KV.length{b:List (a×V)}{c:List (a×Value)}(r:KV b c):b.length=c.length:=Paired.length r
end
theorem Fw{P:Program}{w:World}{k:Key}{u:Value}(r:RelV (kV k) u):(iR P w).is k u=true:=by
 cases k with
 | inl i=>obtain⟨t,e⟩:=(show ∃t,u=Value.int i t from r);subst e;exact Jm P w i t
 | inr x=>obtain⟨t,e⟩:=(show ∃t,u=Value.str x t from r);subst e;exact Jw P w x t
theorem EJ{P:Program}{w:World}:∀{a:List Key}{b:hH},Vals (a.map kV) b->ItemsAre (iR P w) a b
 | [],_,r=>by rw[eu]at r;cases r;exact .nil
 | k::a,_,r=>by
   rw[aF]at r;cases r with
   | cons h t=>exact .cons (Fw h) (EJ t)
abbrev KT(H:Hp):List (List Key×V)->List (List Key×Addr×Value)->Prop:=Paired λp q=>p.1=q.1/\H q.2.1=some (.tup (p.1.map kV))/\RelV p.2 q.2.2
theorem KT.val{H:Hp}{d:List (List Key×V)}{c:List (List Key×Addr×Value)}(r:KT H d c)(k:List Key):Zg (qC d k) ((atKey c k).map (·.2)):=by
 induction r with
 | nil=>exact True.intro
 | @cons p q ps qs h t ih=>
   obtain⟨a,_,f⟩:=h;by_cases e:p.1=k
   .have e':q.1=k:=a.symm.trans e;have b:atKey (q::qs) k=some q.2:=(by simp[atKey,gF,e']);rw[wt e,b];exact f
   .have e':¬q.1=k:=λz=>e (a.trans z);have b:atKey (q::qs) k=atKey qs k:=(by simp[atKey,gF,e']);rw[we e,b];exact ih
theorem KT.repl{H:Hp}{f:List (List Key×V)}{d:List (List Key×Addr×Value)}(r:KT H f d)(k:List Key){y:V}{u:Value}(i:RelV y u):KT H (f.map λb=>if b.1=k then(b.1,y)else b) (d.map (putAt k u)):=by
 induction r with
 | nil=>exact .nil
 | @cons p q ps qs h t ih=>
   rw[aF,aF];refine .cons ?_ ih;obtain⟨a,c,g⟩:=h;unfold putAt;by_cases e:p.1=k
   .rw[aj e,aj (a.symm.trans e)];exact⟨a,c,i⟩
   .rw[ah e,ah (λz=>e (a.trans z))];exact⟨a,c,g⟩
theorem KT.put{H:Hp}{c:List (List Key×V)}{a:List (List Key×Addr×Value)}(r:KT H c a)(k:List Key){b:Addr}{y:V}{u:Value}(f:H b=some (.tup (k.map kV)))(d:RelV y u):KT H (m6 c k y) (storedH a k b u):=by
 have e:(c.any λg=>decide (g.1=k))=(atKey a k).isSome:=by
  rw[zQ,(r.val k).oK,Option.isSome_map]
 unfold m6 storedH;rw[e];by_cases q:(atKey a k).isSome=true
 .rw[aj q,aj q];exact r.repl k d
 .rw[ah q,ah q];exact Paired.snoc r ⟨rfl,f,d⟩
theorem KT.keeps{H a:Hp}{d:List (List Key×V)}{c:List (List Key×Addr×Value)}(r:KT H d c)(f:∀b e,H b=some (.tup e)->a b=some (.tup e)):KT a d c:=Paired.acs r λ_ _ z=>⟨z.1,f _ _ z.2.1,z.2.2⟩
section
variable{P:Program}{w:World}{H:Hp}{h:Heap}{a:Addr}
theorem TJ{u:HO}(ok:Ϯ P w H h)(e:Rd H a u):Λ P w H h a u:=e.ok ok
theorem LL{b:List (Key×V)}(d:Ϯ P w H h)(e:Rd H a (.dK b)):b.length<=sizeLine/\(a==sysModules)=false/\∃c,KV b c/\h.DictOf (iR P w) a c:=show Λ P w H h a (.dK b)from TJ d e
theorem TM{b:List (Key×V)}(d:Ϯ P w H h)(e:H a=some (.dK b)):b.length<=sizeLine/\(a==sysModules)=false/\∃c,KV b c/\h.DictOf (iR P w) a c:=LL d (.inl e)
theorem FT{b:List Key}(f:Ϯ P w H h)(e:H a=some (.tup (b.map kV))):(tupleKind (iR P w)).is h b a:=by
 obtain⟨_,c,r,o,d,i,n,g⟩:=(show Λ P w H h a (.tup (b.map kV))from f a _ e);exact⟨o,c.toArray,n,d,i,g,by simpa using EJ r⟩
theorem TF{c:List (List Key×V)}(f:Ϯ P w H h)(e:Rd H a (.dT c)):c.length<=sizeLine/\(a==sysModules)=false/\∃b,KT H c b/\h.DictOfH (tupleKind (iR P w)) a b:=by
 obtain⟨z,y,b,r,o,i,g,s,n,k,u,j⟩:=(show Λ P w H h a (.dT c)from TJ f e);refine⟨z,y,b,r,o,i,g,s,n,k,u,λx hx=>?_,j⟩;have d:∀{l:List (List Key×V)}{m:List (List Key×Addr×Value)},KT H l m->∀x∈m,(tupleKind (iR P w)).is h x.1 x.2.1:=by
  intro l m q
  induction q with
  | nil=>intro x hx;exact nomatch hx
  | @cons p q ps qs hq t ih=>
    intro x hx;rcases aD.mp hx with e|hx
    .subst e;exact FT f (by rw[<-hq.1];exact hq.2.1)
    .exact ih x hx
 exact d r x hx
theorem Yl{b:List (List Key×V)}(d:Ϯ P w H h)(e:H a=some (.dT b)):b.length<=sizeLine/\(a==sysModules)=false/\∃c,KT H b c/\h.DictOfH (tupleKind (iR P w)) a c:=TF d (.inl e)
end
def abG(H:Hp)(a:Addr)(y:V)(r:Option V):Prop:=(∃c k,Rd H a (.dK c)/\y=kV k/\r=qC c k)\/∃c k b,Rd H a (.dT c)/\y=.ref b/\H b=some (.tup (k.map kV))/\r=qC c k
def abH(H:Hp)(a:Addr)(y v:V)(d:Hp):Prop:=(∃c k,H a=some (.dK c)/\y=kV k/\c.length<sizeLine/\d=upd H a (.dK (m6 c k v)))\/∃c k b,H a=some (.dT c)/\y=.ref b/\H b=some (.tup (k.map kV))/\c.length<sizeLine/\d=upd H a (.dT (m6 c k v))
theorem abG.k{H:Hp}{a:Addr}{b:List (Key×V)}{k:Key}(e:H a=some (.dK b)):abG H a (kV k) (qC b k):=.inl ⟨b,k,.inl e,rfl,rfl⟩
theorem abH.k{H:Hp}{a:Addr}{b:List (Key×V)}{k:Key}{v:V}(e:H a=some (.dK b))(c:b.length<sizeLine):abH H a (kV k) v (upd H a (.dK (m6 b k v))):=.inl ⟨b,k,e,rfl,c,rfl⟩
section
variable{X:Cx}{d:g8}{f:St}{H:Hp}{s:Shared}{a:Addr}{y v:V}{u r:Value}{o:Option V}{A:Around}{E:gq}
theorem Inv.big(I:Inv X d f H s):sysModules<s.heap.objs.size:=by
 have h:mainGlobals<s.heap.objs.size:=(I.mod.glob.keeps I.bk).lt;exact Nat.lt_trans (by decide) h
theorem UO{Q:gq}(p:A.units+1<cLine)(I:Inv X d f H s)(g:abG H a y o)(n:RelV y u)(h:∀m,Inv X d f H m->Q (.bool (!o.isSome)) m):wpAny (model X.prog X.w) A (compareOp .NotIn u (.ref a)) Q E s:=by
 rcases g with⟨θ,k,e,ey,l⟩|⟨θ,k,b,e,ey,eb,l⟩
 .subst ey;obtain⟨z,j,t,c,i⟩:=LL I.Β e;refine wpAny_notIn_of (Fw n) j i.mapOf ?_;rw[<-(c.val k).oK,<-l];exact h _ (I.tok _)
 .subst ey;cases(show u=Value.ref b from n);obtain⟨z,j,x,c,i⟩:=TF I.Β e;refine wpAny_notIn_heap (tupleKind_room_in1 p) (FT I.Β eb) j i ?_;have q:=(c.val k).oK;rw[Option.isSome_map]at q;rw[<-q,<-l];exact h _ (I.tok _)
theorem CS{c:Heap}{k:Nat}{g:HO}(I:Inv X d f H s)(l:Mut (H a))(i:Heap.SameBut a s.heap c)(j:∃q,c.get? a=some q)(h:Λ X.prog X.w (upd H a g) c a g):Inv X d f (upd H a g) { s with heap:=c,toks:=k }:=I.write (x:=a) (e:=a) l (.inl rfl) (λb q m z=>(i.2 b m).trans z) j h
theorem NP{P:Program}{w:World}{i:Hp}{g:Heap}{e:List (Key×V)}{b:List (Key×Value)}(z:e.length<=sizeLine)(j:(a==sysModules)=false)(c:KV e b)(h:g.DictOf (iR P w) a b):Λ P w i g a (.dK e):=⟨z,j,b,c,h⟩
theorem Nm{G:Hp}{Q:Unit->Shared->Prop}(U:A.units+1<cLine)(I:Inv X d f H s)(g:abH H a y v G)(C:RelV y u)(K:RelV v r)(h:∀D,Inv X d f G D->Q () D):wpAny (model X.prog X.w) A (setItem (.ref a) u r) Q E s:=by
 rcases g with⟨θ,k,e,ey,l,eH⟩|⟨θ,k,b,e,ey,eb,l,eH⟩
 .subst ey eH;obtain⟨z,n,P,i,x⟩:=TM I.Β e;have B:P.length<=sizeLine:=by rw[<-i.length];exact z
  have p:(m6 θ k v).length<=sizeLine:=by have:=uA θ k v;lia
  refine wpAny_setItem_pairs (hsz:=B) (Fw C) x λJ j t=>h _ ?_;have M:∃q,J.get? a=some q:=let ⟨q,_,_,m,_⟩:=j;⟨q,m⟩;exact CS I (by rw[e];exact True.intro) t M (NP p n (i.put k K) j)
 .subst ey eH;cases(show u=Value.ref b from C);obtain⟨z,n,N,i,x⟩:=Yl I.Β e;have B:N.length<=sizeLine:=by rw[<-Paired.length i];exact z
  have p:(m6 θ k v).length<=sizeLine:=by have:=uA θ k v;lia
  refine wpAny_setItem_heap (hsz:=B) (tupleKind_room_in1 U) (FT I.Β eb) x λJ j t=>h _ ?_;obtain⟨q,O,L,m,T,S,V,_,R⟩:=j;refine CS I (by rw[e];exact True.intro) t ⟨q,m⟩ ⟨p,n,_,(i.put k eb K).keeps λc W F=>?_,q,O,L,m,T,S,V,R⟩;rw[aL (fS F e (λz=>nomatch z))];exact F
end
section
variable{X:Cx}{b:g8}{c:St}{H:Hp}{s:Shared}{a:Addr}{d:List (Key×V)}{k:Key}{u:Value}{A:Around}{E:gq}
theorem Yn{Q:gq}(I:Inv X b c H s)(e:Rd H a (.dK d))(h:∀t g,Inv X b c H g->Q (.int d.length t) g):wpAny (model X.prog X.w) A (call (.builtin "len") [.ref a]) Q E s:=by
 obtain⟨z,j,l,f,i⟩:=LL I.Β e;refine call_len_dict j i (by rw[<-f.length];rw[sizeLine_eq]at z;lia) ?_;rw[<-f.length];exact h _ _ (I.tok _)
end
def Dc(e f:TE):TE:=λb H Q=>e b H λy d=>f b d λx c=>∃a o,x=.ref a/\abG c a y o/\Q (.bl (!o.isSome)) c
def KN(i g f:TE):TS:=λD b H=>f b H λv d=>i b d λx e=>g b e λy h=>∃a c,x=.ref a/\abH h a y v c/\D.nx b c
section
variable{X:Cx}{o i e b:Expr}{d c l:Pos}{j f k:TE}
theorem NV(J:X.A.units+1<cLine)(K:PE X i f)(w:PE X o j):PC X .NotIn i o (Dc f j):=by
 intro m s n H Q I h;refine eT (K m s n H _ I h) λN E y v F t B=>eT (w m E n v _ F B) λu M x D C G ⟨a,p,q,g,r⟩=>?_;subst q;obtain rfl:u=Value.ref a:=G;exact UO J C g t λL z=>⟨.bl (!p.isSome),D,z,rfl,r⟩
theorem Uc(R:X.A.units+1<cLine)(C:PE X o j)(S:PE X i f)(Q:PE X b k)(G:swapsWith b (some (.Subscript o i c)) d.line X.env=pure false):PS X (.Assign [.Subscript o i c] b d) (KN j f k):=by
 intro m s n H D I h;refine wpAny_Assign_Subscript (eT (Q m s n H _ I h) λr M v z N T F=>eT (C m M n z _ N F) λu O x K J P t=>eT (S m O n K _ J t) λY W y V E w ⟨a,B,q,g,p⟩=>?_) G;subst q;obtain rfl:u=Value.ref a:=P;exact Nm R E g w T λU L=>⟨n,B,L,p⟩
end
theorem Pr{P:Program}{w:World}{H:Hp}(h:Heap)(a:sysModules<h.objs.size):Λ P w H (h.push { cls:=.type "dict",data:=.dict #[] }) h.objs.size (.dK []):=⟨b7 _,beq_eq_false_iff_ne.mpr (Ne.symm (aW a)),[],.nil,Heap.DictOf.new h⟩
def xW:List (TE×TE)->St->Hp->(List (V×V)->Hp->Prop)->Prop
 | [],_,H,Q=>Q [] H
 | (tk,tv)::r,σ,H,Q=>tk σ H λx a=>tv σ a λy b=>xW r σ b λd c=>Q ((x,y)::d) c
abbrev VV:List (V×V)->List (Value×Value)->Prop:=Paired λp q=>RelV p.1 q.1/\RelV p.2 q.2
def PPs(X:Cx)(f:Pos)(c:List (Option Expr))(a:List Expr)(e:List (TE×TE)):Prop:=∀(b:g8)(s:Shared)(d:St)(H:Hp)(Q:List (V×V)->Hp->Prop),Inv X b d H s->xW e d H Q->wpAny (model X.prog X.w) X.A (evalPairs (pairTrees c a X.env f)) (λi j=>∃h g,Inv X b d g j/\VV h i/\Q h g) X.xe s
theorem Uu{X:Cx}{a:Pos}:PPs X a [] [] []:=λb s c H Q I h=>pairTrees_nil_walk ⟨[],H,I,.nil,h⟩
theorem Pz{X:Cx}{c:Pos}{k v:Expr}{j:List (Option Expr)}{g:List Expr}{i f:TE}{b:List (TE×TE)}(F:PE X k i)(E:PE X v f)(r:PPs X c j g b):PPs X c (some k::j) (v::g) ((i,f)::b):=λa s d H Q I h=>
 pairTrees_cons_walk (eT (F a s d H _ I h) λu A x o B C t=>eT (E a A d o _ B t) λL D y z w n m=>
  ϖ (r a D d z _ w m) λJ K ⟨G,p,q,e,l⟩=>⟨(x,y)::G,p,q,.cons ⟨C,n⟩ e,l⟩)
def uI(d a:List (Key×V)):List (Key×V):=a.foldl (λb c=>m6 b c.1 c.2) d
theorem KV.merge:∀{a:List (Key×V)}{d:List (Key×Value)}{c:List (Key×V)}{b:List (Key×Value)},KV a d->KV c b->KV (uI c a) (merged b d):=by
 intro a d c b r;unfold KV at r
 induction r generalizing c b with
 | nil=>intro q;exact q
 | @cons p q ps qs h t ih=>
   intro f;have e:KV (m6 c p.1 p.2) (stored b q.1 q.2):=by
    have:=f.put p.1 h.2;rw[<-h.1];exact this
   exact ih e
theorem wH:∀(b a:List (Key×V)),(uI a b).length<=a.length+b.length
 | [],a=>by show a.length<=a.length+0;lia
 | p::r,a=>by
   have c:=wH r (m6 a p.1 p.2);have d:=uA a p.1 p.2;show(uI (m6 a p.1 p.2) r).length<=_;rw[ba];lia
theorem Bx{P:Program}{w:World}:∀{e:List (Key×V)}{f:List (Value×Value)},VV (e.map λg=>(kV g.1,g.2)) f->∃d,Carries (iR P w) f d/\KV e d
 | [],_,r=>by rw[eu]at r;cases r;exact⟨[],True.intro,.nil⟩
 | p::e,_,r=>by
   rw[aF]at r;cases r with
   | @cons a b as bs h t=>
     obtain⟨d,c,q⟩:=Bx (P:=P) (w:=w) t;obtain⟨j,i⟩:=b;exact⟨(p.1,i)::d,⟨Fw h.1,rfl,c⟩,.cons ⟨rfl,h.2⟩ q⟩
def Mf(a:List (TE×TE)):TE:=λe H Q=>∀p,H p=none->xW a e (upd H p (.dK [])) λf c=>c p=some (.dK [])/\∃b:List (Key×V),f=b.map (λd=>(kV d.1,d.2))/\b.length<=15/\Q (.ref p) (upd c p (.dK (uI [] b)))
theorem T5{X:Cx}{j:Pos}{b:List (Option Expr)}{d:List Expr}{g:List (TE×TE)}(h:PPs X j b d g)(k:b.all (·.isSome)=true)(C:b.length=d.length)(t:b≠[])(l:b.length<=15):PE X (.Dict b d j) (Mf g):=by
 intro i s A H Q I q;have v:=I.Β.fresh (aJ s.heap.objs.size);have F:=I.laid (a:=s.heap.objs.size) (o:=.dK []) (h':=s.heap.push { cls:=.type "dict",data:=.dict #[] }) (t':=s.toks) (λ_ _ q=>ay _ q) (aJ _) (Pr s.heap I.big);refine wpAny_Dict_walk (knd:=iR X.prog X.w) k C t l (ϖ (h i _ A _ _ F (q _ v)) λN S ⟨T,R,p,m,e,n,r,O,y⟩=>?_);subst r;obtain⟨J,c,G⟩:=Bx (P:=X.prog) (w:=X.w) m;obtain⟨z,B,x,D,K⟩:=TM p.Β e;cases D;refine⟨J,c,K,λh' f E=>⟨.ref s.heap.objs.size,_,?_,rfl,y⟩⟩;have M:(uI [] n).length<=sizeLine:=by
  have L:=wH n [];rw[dU]at L;rw[sizeLine_eq];lia
 have u:∃q,h'.get? s.heap.objs.size=some q:=let ⟨q,_,_,hq,_⟩:=f;⟨q,hq⟩;exact CS p (by rw[e];exact True.intro) E u (NP M B (G.merge .nil) f)
end L2
namespace Att
open PySem PySem.W PySem.Calls PyProof.Rows
theorem BN{P:Params}{h:Heap}:∀(c:du)(d:hH),WellAll P h d (c.map WData.int)->IntsAre d c:=by
 intro c
 induction c with
 | nil=>
   intro d w;rw[eu]at w;cases w;exact .nil
 | cons n c ih=>
   intro d w;rw[aF]at w;cases w with
   | cons a b=>
     cases a;exact .cons _ _ (ih _ b)
theorem NH{l:OpenLaw}{n:Nat}(s:l.most=some n){P:Params}{h:Heap}{b:List WData}{e:hH}(f:l.row.toRowW.claim.pre b=true)(k:WellAll P h e b):∃a o c,e=[Value.ref a]/\b=[WData.list (c.map WData.int)]/\h.get? a=some { cls:=.type "list",data:=.seq o.toArray }/\IntsAre o c/\c.length<=n:=by
 have m:WShape.hasAll [] b [.list .int]=true:=(pre_splitW f).1;have p:l.pre.holds [] { args:=b }=true:=(pre_splitW f).2;obtain⟨d,r,rfl,w,v⟩:=hasAllW_cons m;obtain rfl:=hasAllW_nil v;obtain⟨x,rfl,u⟩:=hasW_list w;obtain⟨c,rfl⟩:=items_int u;have g:c.length<=n:=by
  unfold OpenLaw.pre at p;have j:(WTm.not (.lt (.lit (.int (n:Int))) (.len (.arg 0)))).holds [] { args:=[.list (c.map .int)] }=true:=by
   have j:=(holds_andW p).1;rw[s]at j;exact j
  have i:=condW_of j (w_not (w_lt w_lit (w_len_list (w_arg rfl))));rw[ag]at i;refine Nat.le_of_not_lt λq=>?_;have t:(n:Int)<((c.length:Nat):Int):=by lia
  first
   | (rw[bE t]at i;exact absurd i (by decide))
   | (simp at i;lia)
 cases k with
 | cons w1 w2=>
   cases w2;cases w1 with
   | list ho aef=>exact⟨_,_,c,rfl,rfl,ho,BN c _ aef,g⟩
theorem Nv(l:OpenLaw)(a:List WData):l.row.toRowW.claim.post a (.bool true) a=true:=postW_of (r:=l.row.toRowW) (X:=(true==true))
 (show WShape.has [] (.bool true) .bool=true by first|rfl|decide|simp[WShape.has,WShape.arms,WShape.armsAll])
 (show(WTm.eq .res (.lit (.bool true))).value [] { args:=a,res:=some (.bool true),after:=a }=some (.bool (true==true))from w_eq_bool (w_res rfl) w_lit) rfl
theorem Z9{l:OpenLaw}{n:Nat}{q:Program}{e:hO}{F:(Str->Option Value)->Heap->Prop}{D:World->Heap->Prop}{d:DefRec}(J:l.most=some n)(x:d.params.defaults=[])(call:∀(w:World) (c b:Shared) (m B:hL) (j:Addr) (o:Obj) (y p g:Value) (a:Addr) (i:hH) (t:du),Ground q e [] F w c m B b.heap->D w b.heap->b.heap.get? j=some o->o.data=.func (docDef d.name d.params d.body d.scope y p g)->b.heap.CodeRec p d.name->m d.name=some (.ref j)->b.heap.get? a=some { cls:=.type "list",data:=.seq i.toArray }->IntsAre i t->t.length<=n->b.gens=#[]->codeAny (model l.prog w) callerA (.call (.ref j) ⟨[.ref a],[]⟩) (λr s=>r=.ok (.ret (.bool true))/\OldK b.heap s.heap/\s.os=b.os/\AllBare s.gens) b):WalkO q e F D l.row.toRowW d [] (λf i=>PySem.call f i):=by
 intro w c b m B G Y j o y p g T kV O N A H C M I E as v L K u S;obtain rfl:T=.none:=Dflts.none H x;obtain rfl:kV=.none:=Dflts.noKw H;obtain⟨a,i,t,rfl,rfl,z,h,k⟩:=NH J v u;refine enter_call (kH (call w c b m B j o y p g a i t G Y O (fd_plain N) A C z h k M) λr s P=>?_);obtain⟨rfl,R,Q,V⟩:=P;exact⟨.inl ⟨.bool true,.bool true,[],rfl,λ_=>rfl,.bool true,Nv l _,λ_=>⟨List.Pairwise.nil,λ_ U=>(nomatch U)⟩⟩,R,Q,V⟩
end Att
namespace L2
open PySem PySem.Spec PyProof.Rows
theorem Ed:∀{b:hH}{a:du},IntsAre b a->Vals (a.map V.int) b
 | _,_,.nil=>.nil
 | _,_,.cons n t h=>.cons ⟨t,rfl⟩ (Ed h)
def OY(H:Hp):Prop:=∀b,H b=none\/∃o a,H b=some (.frz o (.lst a))
theorem RQ{P:Program}{w:World}{K:gx}{B U:hL}{CX:ZL}{k:Nat}{R a:Addr}{fd:FuncData}{x:Str}{sp:Sp}{c:Shared}{p:hH}{I:du}(KX:K.In c.heap)(G:c.heap.Ns mainGlobals B)(f:c.heap.Ns builtinsNs U)(T:∀x:Str,x≠"__name__"->U x=bootBuiltins x)(O:c.heap.NoLimit)(hg:c.gens=#[])(J:c.heap.get? a=some { cls:=.type "list",data:=.seq p.toArray })(hi:IntsAre p I)(hl:I.length<=sizeLine)(hr:ύ k callerA)(F:∀g:Heap,K.In g->g.Ns mainGlobals B->Ψ P w K B g CX k R fd [x] sp)(X:∀(s:Shared) (u:Value),BindsTo s fd ⟨[u],[]⟩ [(x,u)])(N:∀H:Hp,OY H->ν K H a (I.map V.int)->sp [.ref a] H (λv _=>v=.bl true) λ_ _ _=>False)(L:∀H e i,CX [] H c (λ_ _ _=>False) e i->False):codeAny (model P w) callerA (.call (.ref R) ⟨[.ref a],[]⟩) (λr i=>r=.ok (.ret (.bool true))/\OldK c.heap i.heap/\i.os=c.os/\AllBare i.gens) c:=by
 have rv:=Ed hi;have Q:=hi.length;have l:∀H:Hp,OY H->ν K H a (I.map V.int)->Ϯ P w H c.heap->(∀b,H b≠none->b=a)->(H a≠none->K.lookup a=none)->codeAny (model P w) callerA (.call (.ref R) ⟨[.ref a],[]⟩) (λr i=>r=.ok (.ret (.bool true))/\OldK c.heap i.heap/\i.os=c.os/\AllBare i.gens) c:=by
  intro H Z hS Β hA hK;have y:∀{b:Addr}{o:Obj},c.heap.get? b=some o->H b=none->(vD c.heap H).get? b=some o:=λe n=>Qo e n;have Y:∀{b:Addr}{o:Obj}{A:Array DictEntry}{t:Nat},c.heap.get? b=some o->o.data=.dict A t->H b=none:=λ{b o A t} e d=>by
   cases q:H b with
   | none=>rfl
   | some u=>
     have M:b=a:=hA b (by rw[q];simp);subst M;rw[J]at e;cases e;have d':Data.seq p.toArray _=Data.dict A t:=d;cases d'
  have j:∀{b:Addr}{m:hL},c.heap.Ns b m->(vD c.heap H).Ns b m:=λ{b m} ⟨o,A,t,e,d,r⟩=>⟨o,A,t,y e (Y e d),d,r⟩;have C:K.In (vD c.heap H):=λb o e=>y (KX b o e) (by
   cases q:H b with
   | none=>rfl
   | some u=>
     have M:b=a:=hA b (by rw[q];simp);subst M;rw[hK (by rw[q];simp)]at e;cases e)
  have hM:Mod K B (vD c.heap H):=⟨C,j G,⟨U,j f,T⟩,let ⟨mc,h1,h2⟩:=O;⟨mc,j h1,h2⟩⟩;have e0:aaw P w K B (vD c.heap H) callerA [] c H:=⟨rfl,hM,λb o e=>Ul e,Nat.le_of_eq (Of _ _),trivial,λb f=>absurd (show b∈([]:g9)from f) (by simp),Β,.of_eq hg⟩;refine kH ((F _ C (j G)).run callerA [] c H ⟨[.ref a],[]⟩ [.ref a] [.ref a] _ _ hr e0 (X c (.ref a)) (.cons rfl .nil) (N H Z hS)) λr i h=>?_;cases r with
  | error e=>exact(L H e i h).elim
  | ok fl=>
    cases fl with
    | next=>exact False.elim h
    | brk=>exact False.elim h
    | cont=>exact False.elim h
    | ret u=>
      obtain⟨v,H',os,D,un,S,r',q⟩:=h;have q':v=.bl true:=q;subst q';obtain rfl:u=Value.bool true:=r';refine⟨rfl,OldK.of_keep λb o e=>?_,os,D⟩;cases q:H b with
      | none=>exact un.keep b o e q (by intro z;exact absurd (show b∈([]:g9)from z) (by simp)) (by simp)
      | some u=>
        rcases Z b with z|⟨ob,xs,z⟩
        .rw[q]at z;cases z
        .have z2:=un.eQ b ob _ z;obtain⟨e1,_⟩:=Β b _ z;obtain⟨e2,_⟩:=S b _ z2;rw[e]at e1;cases e1;exact e2
 cases hk:K.lookup a with
 | some o=>
   have e:=KX a o hk;rw[J]at e;cases e;refine l (λ_=>none) (λ_=>.inl rfl) (.inr ⟨_,p.toArray,_,hk,rfl,rfl,rfl,by rw[aU,Q];exact hl,by simpa using rv⟩) (λb u z=>by have E:(none:Option HO)=some u:=z;cases E) (λb z=>absurd rfl z) λz=>absurd rfl z
 | none=>
   refine l (λb=>if b=a then some (.frz { cls:=.type "list",data:=.seq p.toArray } (.lst (I.map V.int)))else none) (λb=>?_) (.inl (.inr ⟨{ cls:=.type "list",data:=.seq p.toArray },aj rfl⟩)) (λb u z=>?_) (λb z=>?_) λ_=>hk
   .by_cases f:b=a
    .exact .inr ⟨_,_,aj f⟩
    .exact .inl (ah f)
   .by_cases f:b=a
    .have E:=(aj f).symm.trans z;cases E;subst f;exact⟨J,by rw[ag];exact hl,p,_,rv,J⟩
    .have E:=(ah f).symm.trans z;cases E
   .by_cases f:b=a
    .exact f
    .exact absurd (ah f) z
theorem acD{l:PySem.W.OpenLaw}{n k:Nat}{q:Program}{m:hO}{XP:(Str->Option Value)->Heap->Prop}{L:World->Heap->Prop}{d:DefRec}{K:Params->PySem.W.Frag}{CX:World->ZL}{sp:World->Sp}{x:Str}(R:l.most=some n)(D:n<=sizeLine)(B:d.params.defaults=[])(Z:ύ k callerA)(U:∀(w:World) (h:Heap),L w h->(K w.params).In h)(F:∀(w:World) (p:hL) (t:Addr) (h:Heap),(K w.params).In h->h.Ns mainGlobals p->p d.name=some (.ref t)->∃C:FuncData,(∀(s:Shared) (u:Value),BindsTo s C ⟨[u],[]⟩ [(x,u)])/\∀c:Heap,(K w.params).In c->c.Ns mainGlobals p->Ψ l.prog w (K w.params) p c (CX w) k t C [x] (sp w))(A:∀(w:World) (H:Hp) (a:Addr) (y:du),y.length<=n->OY H->ν (K w.params) H a (y.map V.int)->sp w [.ref a] H (λv _=>v=.bl true) λ_ _ _=>False)(z:∀(w:World) (H:Hp) (s:Shared) (e:Value) (I:Shared),CX w [] H s (λ_ _ _=>False) e I->False):PySem.W.WalkO q m XP L l.row.toRowW d [] (λf N=>PySem.call f N):=by
 refine Att.Z9 R B λw M r p mb t o pm cd P a N y G Y ho hd ad J E j i X=>?_;have O:=U w _ Y;obtain⟨C,hb,Q⟩:=F w p t _ O G.T.g J;exact RQ O G.T.g G.T.b G.T.builtins G.T.nolimit X E j (bw i D) Z Q hb (λH S hS=>A w H a y i S hS) λH e I=>z w H r e I
def DB(s:Stmt)(j:Nat):Stmt:=match s with
 | .ClassDef _ _ _ body _ _ _ _ _ _ _=>body.getD j (.Pass ⟨0,0,0,0⟩)
 | _=>.Pass ⟨0,0,0,0⟩
def jh(s:Stmt):Arguments:=match s with
 | .FunctionDef _ a _ _ _ _ _ _ _ _=>a
 | _=>{ posonlyargs:=[],args:=[],vararg:=none,kwonlyargs:=[],kw_defaults:=[],kwarg:=none,defaults:=[] }
def iq(s:Stmt):List Stmt:=match s with
 | .FunctionDef _ _ b _ _ _ _ _ _ _=>b
 | _=>[]
def aB(s:Stmt):Scope:=match s with
 | .FunctionDef _ _ _ _ _ _ sc _ _ _=>sc
 | _=>{ kind:=.function,names:=[],isGenerator:=false,isCoroutine:=false }
abbrev CX0:ZL:=λ_ _ _ _ _ _=>False
abbrev E0:XK:=λ_ _ _=>False
structure Fun(K:gx)(x qual:Str)(st:Stmt)(f:Addr)(fd:FuncData):Prop where
 ex:∃(oc:Value)(od:Option Addr)(kV doc pm:Value)(an:Option Addr)(χ ct:Value)(osl:Array (Option Value)),fd=PySem.W.fnOf x qual (jh st) (iq st) (aB st) .none kV doc pm an χ ct/\K.lookup f=some ⟨oc,od,.func fd,osl⟩/\PySem.W.codeIn K χ qual=true
 kp:PySem.W.keepIn K (.ref f)=true
section
variable{P:Program}{w:World}{K:gx}{b:hL}{a:Heap}
theorem Fun.binds{x c:Str}{st:Stmt}{f:Addr}{l:FuncData}{ps:hO}(F:Fun K x c st f l)(h:∀(kV d g:Value) (k:Option Addr) (e j:Value) (i:hH),i.length=ps.length->bindArgs (PySem.W.fnOf x c (jh st) (iq st) (aB st) .none kV d g k e j) ⟨i,[]⟩=pure (ps.zip i)):Binds K l ps []:=by
 obtain⟨q,o,kV,d,g,k,e,j,m,rfl,p,n⟩:=F.ex;exact .all (h kV d g k e j)
theorem xt{x d:Str}{st:Stmt}{f:Addr}{o:Value}{n i:Option Addr}{g:Array (Option Value)}{kV e j h m:Value}(l:K.lookup f=some ⟨o,n,.func (PySem.W.fnOf x d (jh st) (iq st) (aB st) .none kV e j i h m),g⟩)(c:PySem.W.codeIn K h d=true)(k:PySem.W.keepIn K (.ref f)=true):Fun K x d st f (PySem.W.fnOf x d (jh st) (iq st) (aB st) .none kV e j i h m):=⟨⟨o,n,kV,e,j,i,h,m,g,rfl,l,c⟩,k⟩
end
theorem Yo{A:Around}{k:Nat}(a:ύ k A):A.units+1<cLine:=bK (Nat.add_le_add_left (by decide:1<=64) _) a.units
section
variable{X:Cx}
theorem pv(i:Nat){x:Str}{b:Pos}(d:X.N[i]?=some x:=by rfl)(e:Vis X.env.scope x:=by first|exact Or.inl rfl|exact Or.inr (Or.inl rfl)|exact Or.inr (Or.inr rfl))(c:(x==("__debug__":Str))=false:=by decide)(a:(x==("__classdict__":Str))=false:=by decide):PE X (.Name x b) (xK i):=FU d e c a
end
theorem Vj{A B:Prop}(h:B):if false=true then A else B:=by
 rw[ah bz];exact h
theorem Wc{A B:Prop}(h:A):if true=true then A else B:=by
 rw[aj rfl];exact h
def δ(H a:Hp):Prop:=∀b o,H b=some o->a b=some o
theorem δ.refl(H:Hp):δ H H:=λ_ _ h=>h
theorem δ.trans{H d e:Hp}(a:δ H d)(b:δ d e):δ H e:=λc o h=>b c o (a c o h)
theorem δ.free{H a:Hp}(e:δ H a){l:Addr}(h:a l=Option.none):H l=Option.none:=by
 cases q:H l with
 | none=>rfl
 | some o=>
   rw[e l o q]at h;cases h
theorem δ.seq{K:gx}{H b:Hp}{a:Addr}{c:List V}(e:δ H b)(h:ν K H a c):ν K b a c:=by
 rcases h with(h|⟨o,h⟩)|h
 .exact .inl (.inl (e _ _ h))
 .exact .inl (.inr ⟨o,e _ _ h⟩)
 .exact .inr h
section
variable{X:Cx}
theorem Ox:nz X (.builtin "len") (λc H Q=>∃a b,c=[V.ref a]/\H a=some (.dK b)/\Q (.int b.length) H):=by
 intro d s i H c k Q I r h;obtain⟨a,b,rfl,e,q⟩:=h;obtain⟨u,rfl,g⟩:=ue r;cases g;exact Yn I (.inl e) λt j f=>⟨.int b.length,H,f,⟨t,rfl⟩,q⟩
end
def Cx.comp(X:Cx)(d:hO)(a:Scope)(cl:List (Str×Addr))(C:Addr)(b:Shared)(c:Hp)(e:g9):Cx where
 prog:=X.prog
 w:=X.w
 K:=X.K
 mg:=X.mg
 base:=X.base
 A:=X.A
 N:=d
 s₀:=b
 H₀:=c
 env:=compEnvC a cl C X.env
 outer:=X.stack
 stack:=X.stack
 ex:=e
 fn:=λ_=>false
 calm:=X.calm
 pn:=[]
 xe:=λ_ _=>False
structure Ϧ(X:Cx)(Nc:hO)(own:Nat)(js:List Nat)(scope:Scope)(cl:List (Str×Addr)):Prop where
 aei:closureFor scope X.env=pure cl
 kind:scope.kind=.function
 aaz:∀y∈scope.names,y.2≠.cell
 names:∀y∈scope.names,y.2=.local->scope.names.lookup y.1=some .local
 cells:∀x c,cl.lookup x=some c->X.env.cells.lookup x=some c
 has:∀x,((relabel scope X.env).names.lookup x=some .cell\/(relabel scope X.env).names.lookup x=some .free)->∃c,cl.lookup x=some c
 len:Nc.length=own+js.length
 outer:∀i x,Nc[own+i]?=some x->∃j,js[i]?=some j/\X.N[j]?=some x/\X.env.scope.names.lookup x=some .cell/\(relabel scope X.env).names.lookup x=some .cell
def mJ(a:Nat)(c:List Nat)(b:St):St:=List.replicate a none++c.map λj=>(b[j]?).getD none
def L7(h:Nat)(q:List Nat)(u:TI)(g:TG)(s:TT)(t:TE):TE:=λk H Q=>u k H λJ j=>∀p,j p=none->∃W:Nat->Nat->List V->St->Hp->Prop,(∃m,W 0 m [] (mJ h q k) (upd j p (.lst [])))/\∀i m c f d,W i m c f d->(J.stop i d/\Q (.ref p) d)\/(J.go i d/\∀x o,J.yld i d x o->g x f o λa r=>s a r λb n=>
 if b=true then t a n λy l=>l p=some (.lst c)/\c.length<sizeLine/\∃e,e<m/\W (i+1) e (c++[y]) a (upd l p (.lst (c++[y])))
 else ∃e,e<m/\W (i+1) e c a n)
def PTs(X:Cx)(d:List Expr)(t:TT):Prop:=∀(a:g8)(s:Shared)(b:St)(H:Hp)(Q:Bool->Hp->Prop),Inv X a b H s->t b H Q->wpAny (model X.prog X.w) X.A (forIn d true λc r=>if r=true then do let e <-isTrue c X.env (eval c X.env);pure (ForInStep.yield e)else pure (ForInStep.yield r)) (TP X a b Q) X.xe s
def aej:TT:=λ_ H Q=>Q true H
theorem gP{X:Cx}:PTs X [] aej:=λa s b H Q I h=>wpAny_tests_nil ⟨H,I,h⟩
theorem C3{X:Cx}{c:Expr}{t:TT}(h:PT X c t):PTs X [c] t:=λa s b H Q I q=>wpAny_tests_one (h a s b H Q I q)
section
variable{a:Program}{w:World}{A:Around}{E:gq}{R:Result->Shared->Prop}{s:Shared}
theorem zM{y b q:Expr}{t:List Expr}{g:Scope}{G:Pos}{H u:Value}{e:Env}(I:Nat->Shared->Prop)(C:∀n s,I n s->wpAny (model a w) A (pyNext H) (λr j=>match r with
 | none=>R (.ok .next) j
 | some v=>wpAny (model a w) A (letOwnedTupleGo b H v) (λ_ D=>wpAny (model a w) A (assign b e v) (λ_ k=>
  wpAny (model a w) A (forIn t true λc r=>if r=true then do let ok <-isTrue c e (eval c e);pure (ForInStep.yield ok)else pure (ForInStep.yield r)) (λok f=>
   if ok=true then wpAny (model a w) A (eval y e) (λx p=>
    wpAny (model a w) A (call (.builtin "list.append") [u,x]) (λ_ l=>∃m,m<n/\I m l) (λ_ _=>False) p) (λ_ _=>False) f
   else ∃m,m<n/\I m f) (λ_ _=>False) k) (λ_ _=>False) D) (λ_ _=>False) j) (λ_ _=>False) s)(n:Nat)(h:I n s):codeAny (model a w) A (.compLoop (.ListComp y [⟨b,q,t,0⟩] g G) 0 H u e) R s:=by
 refine codeAny_loop rfl I (λn s K=>?_) n h;show wpAny _ A ((compTurn (.ListComp y [⟨b,q,t,0⟩] g G) 0 H u e).onRaise (λx=>do noteFrame x e;theTreesLotGoes x)) _ _ s;refine wpAny_noted ?_;rw[compTurn_list];refine ap (jV (ap (fI (C n s K) (λr j o=>?_) λ_ _ i=>i.elim)));cases r with
 | none=>exact bh o
 | some v=>
   refine ap (fI o (λ_ D J=>?_) λ_ _ i=>i.elim);refine ap (fI J (λ_ k F=>ap (fI F (λok f d=>?_) λ_ _ i=>i.elim)) λ_ _ i=>i.elim);cases ok with
   | true=>
     rw[aj rfl]at d;simp only[if_true];exact ap (ap (fI d (λx p z=>ap (fI z (λ_ l B=>bh (bh ⟨rfl,B⟩)) λ_ _ i=>i.elim)) λ_ _ i=>i.elim))
   | false=>
     rw[ah bz]at d;simp only[de,if_false]
     first
      | exact bh ⟨rfl,d⟩
      | exact ap (bh (bh ⟨rfl,d⟩))
end
section
variable{X:Cx}{Nc:hO}{f:Nat}{B:List Nat}{scope:Scope}{l:List (Str×Addr)}
theorem DL{g:g8}{m:St}{d:Hp}{a:Shared}{C:Addr}{j:g9}(T:Ϧ X Nc f B scope l)(I:Inv X g m d a)(k:a.heap.objs.size<=C)(i:∀b∈j,pD X g d b)(r:∀b∈j,b<a.heap.objs.size):(X.comp Nc scope l C a d j).Ok where
 mod:=I.ok.mod
 kind:=by show(relabel scope X.env).kind=_;exact T.kind
 glob:=I.ok.glob
 blt:=I.ok.blt
 above:=k
 inj:=λx y c q p=>I.ok.inj x y c (T.cells x c q) (T.cells y c p)
 has:=λx h=>T.has x h
 cab:=λx c h=>by cases h
 hd:=I.ok.hd
 frames:=I.ok.frames
 stk:=.inl rfl
 exf:=λb hb=>⟨aW (aP (r b hb) k),λx c h=>(i b hb).2.2.2.2.1 x c (T.cells x c h)⟩
 bs:=I.bs
 bsz:=bw I.ok.bsz I.sz
 aaW:=λb o e hb=>by
  rcases(i b hb).2.2.2.1 with z|z
  .exact I.ok.aaW b o e z
  .exact absurd (aP (aH (I.ok.bs b o e).1) z) (dB _)
 aas:=λb hb n=>by
  rcases aD.mp (I.aau b n)with z|z
  .exact(i b hb).2.1 z
  .exact(i b hb).2.2.1 z
 nE:=I.stack
 frf:=I.Zc
theorem Ib{s:g8}{w:St}{g:Hp}{a:Shared}{C D:Addr}{L:g9}{h:Heap}{t:Nat}{m:hL}(T:Ϧ X Nc f B scope l)(I:Inv X s w g a)(N:a.heap.objs.size<=C)(E:a.heap.objs.size<=D)(J:D≠C)(W:∀b∈L,pD X s g b)(ϗ:∀b∈L,b<a.heap.objs.size)(A:∀b o,a.heap.get? b=some o->h.get? b=some o)(M:h.Ns C m)(H:∃n,h.get? D=some { cls:=.type "list",data:=.seq ([]:hH).toArray n }):Inv (X.comp Nc scope l C a g L) [] (mJ f B w) (upd g D (.lst [])) { a with heap:=h,toks:=t }:=by
 obtain⟨U,H⟩:=H;have r:∀c v,a.heap.IsCell c v->h.IsCell c v:=λc v ⟨o,K,Y⟩=>⟨o,A c o K,Y⟩;refine⟨DL T I N W ϗ,rfl,I.bare,Un.laid A E (I.Β.fresh E),⟨m,M,λi x v V e2 e3=>?_⟩,λx c e=>?_,?_,λx c e=>?_,λp hp=>(by cases hp),I.Β.laid A E ?_,?_⟩
 .have hN:Nc[i]?=some x:=V;have d:(mJ f B w)[i]?=some (some v):=e2;unfold mJ at d;by_cases Q:i<f
  .rw[cU (by simpa using Q),iI]at d;simp[Q]at d
  .obtain⟨k,rfl⟩:∃k,i=f+k:=⟨i-f,by lia⟩;rw[cM (by simp)]at d;simp only[cD,Nat.add_sub_cancel_left,aG]at d;obtain⟨j,Z,R,P,O⟩:=T.outer k x hN;rw[Z]at d;replace d:some (w[j]?.getD none)=some (some v):=d;have G:w[j]?=some (some v):=by
    cases q:w[j]? with
    | none=>rw[q]at d;simp at d
    | some y=>rw[q]at d;simpa using d
   obtain⟨m0,ad,F⟩:=I.loc;obtain⟨u,ru,S⟩:=F j x v R G (.inr (.inl P));refine⟨u,ru,.inr ⟨.inl O,?_⟩⟩;rcases S with⟨z,_⟩|⟨_,c,hc,Ϲ⟩
   .have z':X.env.scope.names.lookup x=some .local:=z;rw[P]at z';cases z'
   .obtain⟨c',hc'⟩:=T.has x (.inl O);have:=T.cells x c' hc';rw[hc]at this;cases this;exact⟨c,hc',r c _ Ϲ⟩
 .obtain⟨v,z⟩:=I.cell x c (T.cells x c e);exact⟨v,r c v z⟩
 .show upd g D (.lst []) C=none;rw[aL (Ne.symm J)];exact I.Β.fresh N
 .have e':=T.cells x c e;obtain⟨v,o,K,_⟩:=I.cell x c e';rw[aL (aW (aP (aH K) E))];exact I.ϡ x c e'
 .exact⟨b7 _,[],U,.nil,H⟩
 .show(mJ f B w).length=Nc.length;rw[T.len];simp[mJ]
theorem D3{g:g8}{x t:St}{d i:Hp}{c s':Shared}{C:Addr}{p:g9}{h':Heap}(I:Inv X g x d c)(D:c.heap.objs.size<=C)(r:∀b∈p,pD X g d b)(m:Inv (X.comp Nc scope l C c d p) [] t i s')(E:Heap.SameBut C s'.heap h'):Inv X g x i { s' with heap:=h' }:=by
 have u:Un (Ϥ X.stack) p d i c.heap s'.heap:=m.base;have ne:∀b o,c.heap.get? b=some o->b≠C:=λb o e=>aW (aP (aH e) D);have k:∀b o,b≠C->s'.heap.get? b=some o->h'.get? b=some o:=λb o n e=>E.extBut b o n e;have F:Un (Ϥ X.stack) p d i c.heap h':=⟨λb o e n h j=>k b o (ne b o e) (u.keep b o e n h j),λb o e n h j=>let ⟨sl,q⟩:=u.slot b o e n h j;⟨sl,k b _ (ne b o e) q⟩,u.free,λb o e j=>let ⟨o',q⟩:=u.there b o e j;⟨o',k b o' (ne b o e) q⟩,u.ϟ,u.eQ,u.lT⟩
 have A:i C=none:=m.free;have s:Ϯ X.prog X.w i h':=λa o e=>(m.Β a o e).dO (λb v h q=>k b v (λz=>by
  rcases h with y|y
  .rw[y]at z;rw[z,A]at e;cases e
  .rw[z,A]at y;cases y) q) (λ_ q=>q) λ_ _ q=>q
 exact I.adp (s':={ s' with heap:=h' }) (ch:=p) m.os F s m.bare λb h=>⟨(r b h).2.2.2.1,(r b h).2.1,(r b h).2.2.2.2.1,(r b h).2.2.2.2.2⟩
theorem g6{ab a F:Expr}{ae:List Expr}{a1:Pos}{wi:TI}{g:TG}{tc:TT}{te:TE}(hc:X.calm=true)(T:Ϧ X Nc f B scope l)(hi:PI X a F wi)(hg:∀C m z k,PG (X.comp Nc scope l C m z k) a g)(ht:∀C m z k,PTs (X.comp Nc scope l C m z k) ae tc)(he:∀C m z k,PE (X.comp Nc scope l C m z k) ab te)(hs:∀x,foldedSetIterable F X.env x=pure x:=by intro _;rfl):PE X (.ListComp ab [⟨a,F,ae,0⟩] scope a1) (L7 f B wi g tc te):=by
 intro Z s σ H Q I h;rw[eval_ListComp];refine wpAny_comprehension_free (use:=none) rfl hs T.aei T.kind T.names (ϖ (hi Z s σ H _ I h) λv s1 h1=>ϖ h1 λdk j h2=>?_);obtain⟨it,k,tn,J,H1,rfl,I1,V,st,f1,R⟩:=h2;have S:∀b∈k,b<j.heap.objs.size:=λb D=>let ⟨o,e,_⟩:=V.obj _ _ st b D;aH e;refine gN (wpAny_newFunctionEnv T.aaz (by intro y hy;simp at hy) (λE aS ϧ=>?_) T.kind);dsimp only at aS ϧ ⊢;generalize ai:j.heap.push { cls:=.type "list",dict:=none,data:=.seq ([]:hH).toArray }=M at aS ϧ ⊢;have hC:M.objs.size=j.heap.objs.size+1:=by rw[<-ai,dz]
 have ao:j.heap.objs.size≠M.objs.size:=by rw[hC];exact aW (f7 _)
 have Zh:j.heap.objs.size<=M.objs.size:=by rw[hC];exact fY _
 have bG:∀b,b<j.heap.objs.size->b≠M.objs.size:=λb D=>by rw[hC];exact aW (gL D)
 have av:∀b o,j.heap.get? b=some o->E.get? b=some o:=λb o e=>ϧ.extBut b o (bG b (aH e)) (ay _ (ai▸ay _ e));have oR:∃n,E.get? j.heap.objs.size=some { cls:=.type "list",data:=.seq ([]:hH).toArray n }:=⟨_,ϧ.extBut _ _ ao (ay _ (ai▸bc _ rfl))⟩;have a2:tn 0 E:=V.keep _ _ _ st λb _ o e=>av b o e;obtain⟨W,⟨m0,w0⟩,aT⟩:=R j.heap.objs.size I1.fresh;have Ic:=Ib (t:=j.toks+([]:List (Str×Value)).length) T I1 Zh (aJ _) ao f1 S av aS oR;generalize N:X.comp Nc scope l M.objs.size j H1 k=Xc at Ic;have K:∀{P:Hp},(∀b∈k,P b=none)->∀b∈k,pD Xc [] P b:=λ{P} hn b D=>by
  subst N;exact⟨hn b D,bG b (S b D),(DL T I1 Zh f1 S).aas b D,.inl D,λx c e=>(f1 b D).2.2.2.2.1 x c (T.cells x c e),λp hp=>by cases hp⟩
 have bk:∀b∈k,upd H1 j.heap.objs.size (.lst []) b=none:=λb D=>by
  rw[aL (aW (S b D))];exact(f1 b D).1
 have cC:Xc.calm=true:=by subst N;exact hc
 have Y:∀L:Shared,L={ j with heap:=E,toks:=j.toks+([]:List (Str×Value)).length }->codeAny (model X.prog X.w) X.A (.compLoop (.ListComp ab [⟨a,F,ae,0⟩] scope a1) 0 (.ref it) (.ref j.heap.objs.size) (compEnvC scope l M.objs.size X.env))
  (compPost (model X.prog X.w) X.A X.xe none (EP X Z σ Q) (.ref j.heap.objs.size) M.objs.size) L:=by
  rintro L rfl;refine zM (λn s'=>∃i ys ar P,Inv Xc [] ar P s'/\tn i s'.heap/\(∀b∈k,P b=none)/\W i n ys ar P) ?_ m0 ⟨0,[],_,_,Ic,a2,bk,w0⟩;rintro n s3 ⟨i,ys,O,H3,I3,a4,a0,w3⟩;rcases aT i n ys O H3 w3 with⟨stop,q⟩|⟨go,step⟩
  .subst N;refine ϖ (V.done (X.comp Nc scope l M.objs.size j H1 k) rfl rfl rfl hc i [] s3 O H3 _ I3 (K a0) a4 stop) λr s4 ⟨hr,I4⟩=>?_;subst hr;obtain⟨m4,bo,_⟩:=id I4.loc;exact⟨m4,bo,λh' bt=>⟨.ref j.heap.objs.size,H3,D3 I1 Zh f1 I4 bt,rfl,q⟩⟩
  .subst N;refine ϖ (V.item (X.comp Nc scope l M.objs.size j H1 k) rfl rfl rfl hc i [] s3 O H3 _ I3 (K a0) a4 go) λr s4 ⟨u,hr,h4⟩=>?_;subst hr;refine ϖ h4 λ_ s5 ⟨x,H5,I5,r5,y5,ac,ca⟩=>?_;have bm:=I5.pinned (K ca) (V.obj _ _ ac);have U:∀{ad:St}{H7:Hp}{s7:Shared},Inv (X.comp Nc scope l M.objs.size j H1 k) ([]++u6 k s5.heap) ad H7 s7->Inv (X.comp Nc scope l M.objs.size j H1 k) [] ad H7 s7/\tn (i+1) s7.heap/\∀b∈k,H7 b=none:=λ{ad H7 s7} I7=>by
    refine⟨I7.ϰ,V.keep _ _ _ ac λb D o e=>(I7.pin (b,o) (aY _ (aY _ (oH D e)))).1,λb D=>?_⟩;obtain⟨o,e,d⟩:=V.obj _ _ ac b D;exact(I7.pin (b,o) (aY _ (aY _ (oH D e)))).2.1
   refine ϖ (hg _ _ _ _ _ s5 O H5 x u _ bm r5 (step x H5 y5)) λ_ s6 ⟨G,H6,I6,q6⟩=>?_;refine Db (ht _ _ _ _ _ s6 G H6 _ I6 q6) λok s7 H7 I7 q7=>?_;cases ok with
   | false=>
     rw[ah bz]at q7 ⊢;obtain⟨m',hm,w7⟩:=q7;obtain⟨J1,J2,J3⟩:=U I7;exact⟨m',hm,i+1,ys,G,H7,J1,J2,J3,w7⟩
   | true=>
     rw[aj rfl]at q7 ⊢;refine eT (he _ _ _ _ _ s7 G H7 _ I7 q7) λy s8 yv H8 I8 r8 ⟨b1,b2,m',hm,w8⟩=>?_;refine ϖ (ip _ s8 G H8 (.ref j.heap.objs.size) [yv] _ [y] (λv' P=>W (i+1) m' (ys++[yv]) G P) I8 rfl (.cons r8 .nil) ⟨_,ys,yv,rfl,rfl,b1,b2,w8⟩) λv9 s9 ⟨_,H9,I9,_,w9⟩=>?_;obtain⟨J1,J2,J3⟩:=U I9;exact⟨m',hm,i+1,ys++[yv],G,H9,J1,J2,J3,w9⟩
 exact codeAny_compStart_list (Y _ rfl) (V.self _ 0 _ _ _ a2 (Y _ rfl))
end
section
variable{X:Cx}
def Ze:V->List V->Hp->VK->Prop:=λx b H Q=>∃(l:Addr)(a:List V)(i:Int)(y:V),x=.ref l/\b=[.int i,y]/\H l=some (.lst a)/\0<=i/\i<=a.length/\a.length<sizeLine/\Q .ς (upd H l (.lst (a.take i.toNat++y::a.drop i.toNat)))
theorem Ee:MtM X "list.insert" Ze:=by
 intro g s C H x D v G Q I m u h;obtain⟨l,B,i,y,rfl,rfl,f,w,J,K,q⟩:=h;cases m;obtain⟨E,b,rfl,⟨t,rfl⟩,o⟩:=u.two;obtain⟨z,a,n,r,k,e⟩:=I.abb f;have A:=sC;have p:Builtin.List.listFitsIndex i=true:=by
  unfold Builtin.List.listFitsIndex;rw[bD];exact⟨bE (by lia),bE (by lia)⟩
 have d:¬(!Builtin.List.listFitsIndex i)=true:=by rw[p];decide
 have c:a.toArray.size<=sizeLine:=by rw[aU,<-k];exact z
 refine call_meets iC ⟨_,e,rfl⟩ PySem.F.entry_list_insert (PySem.F.args_list_insert_3 _ _ _) (PySem.AutoSeq1.list_insert_list_int_val_1 l a.toArray n i t b d c) ⟨e,?_⟩;refine⟨.ς,_,I.aed (its':=a.take i.toNat++b::a.drop i.toNat) f e ?_ ((r.take i.toNat).append (.cons o (r.drop i.toNat))) ?_,rfl,q⟩
 .show(a.toArray.extract 0 (if i<0 then(i+(a.toArray.size:Int)).toNat else min i.toNat a.toArray.size)).push b++a.toArray.extract (if i<0 then(i+(a.toArray.size:Int)).toNat else min i.toNat a.toArray.size)=_;have j:(if i<0 then(i+(a.toArray.size:Int)).toNat else min i.toNat a.toArray.size)=i.toNat:=by
   rw[ah (by lia),aU]
   lia
  rw[j];exact PySem.W.kl_ins_eq a i.toNat b
 .rw[aN,ba,bA,eZ]
  lia
theorem oz:aC X (binaryOp .Mult) (rI (λi j=>IntMulOk i j) λi j=>.int (i*j)):=opI λi j t u s Q E h q=>PyProof.Rows.mul_int q h
theorem OX(O:X.calm=true):nz X (.builtin "all") (λn H Q=>∃(p:Addr)(c:List Bool),n=[.ref p]/\ν X.K H p (c.map V.bl)/\Q (.bl (c.all id)) H):=by
 intro B s T H n W Q I r h;obtain⟨p,c,rfl,L,q⟩:=h;obtain⟨u,rfl,m⟩:=ue r;cases m;obtain⟨a,C,w,Y⟩:=I.list L;have t:=w.isList;have P:=w.lt;have E:X.A.in1.handled=none:=I.ok.hd O;have d:a.length=c.length:=by rw[<-C.length,ag]
 refine call_all_walk (iP t ?_);refine⟨s.heap.objs.size,[s.heap.objs.size,p],[s.heap.objs.size],a.toArray.size,_,_,λi=>(c[i]?).getD true,rfl,Walks.list (A:=X.A.in1) E _ p (aW P) a.toArray,⟨⟨_,bc _ rfl,rfl,rfl⟩,t.push _⟩,λi v G F U D k=>?_,λS J N=>?_⟩
 .have f:a[i]?=some v:=by simpa using D
  have j:i<c.length:=by rw[<-d];exact(aw.mp f).1
  obtain⟨u,y,m⟩:=C.get (i:=i) (x:=V.bl c[i]) (by rw[aG,aA j];rfl);rw[f]at y;cases y;cases m;replace k:F (c[i]?.getD true) G:=k;rw[aA j]at k;exact dy k
 .have e:((List.range a.toArray.size).all λi=>(c[i]?).getD true)=c.all id:=by
   rw[aU,d];rw[iM,gm,gm]
   constructor
   .intro z b hb;obtain⟨i,f,rfl⟩:=List.getElem_of_mem hb;have:=z i (cQ.mpr f);rw[aA f]at this;exact this
   .intro z i f;have g:=cQ.mp f;rw[aA g];exact z _ (cZ g)
  have M:∀b o,s.heap.get? b=some o->S.get? b=some o:=λb o l=>N b o (λR=>by rw[aO.mp R]at l;exact dB _ (aH l)) (ay _ l);rw[e];exact⟨.bl _,H,I.kept (t':=J) M,rfl,q⟩
end
mutual
inductive iF(K:gx)(H:Hp):V->PyData->Prop
 | ς:iF K H .ς .none
 | bl (b:Bool):iF K H (.bl b) (.bool b)
 | int (i:Int):iF K H (.int i) (.int i)
 | str {x:Str}:PyData.canLay0 (.str x)=true->iF K H (.str x) (.str x)
 | lst {a:Addr} {xs:List V} {ds:List PyData}:ν K H a xs->Ρ K H xs ds->iF K H (.ref a) (.list ds)
 | tup {a:Addr} {xs:List V} {ds:List PyData}:Κ K H a xs->Ρ K H xs ds->iF K H (.ref a) (.tuple ds)
inductive Ρ(K:gx)(H:Hp):List V->List PyData->Prop
 | nil:Ρ K H [] []
 | cons {x:V} {d:PyData} {xs:List V} {ds:List PyData}:iF K H x d->Ρ K H xs ds->Ρ K H (x::xs) (d::ds)
end
mutual
theorem iF.reads{X:Cx}{f:g8}{p:St}{H:Hp}{s:Shared}(I:Inv X f p H s):∀{x:V}{d:PyData}{u:Value},iF X.K H x d->RelV x u->(∃as,Reads s.heap u d as)/\d.canLay0=true
 | _,_,_,.ς,r=>by cases(show _=Value.none from r);exact⟨⟨_,.none⟩,by simp[PyData.canLay0]⟩
 | _,_,_,.bl b,r=>by cases(show _=Value.bool b from r);exact⟨⟨_,.bool b⟩,by simp[PyData.canLay0]⟩
 | _,_,_,.int i,r=>by obtain⟨t,e⟩:=(show ∃t,_=Value.int i t from r);cases e;exact⟨⟨_,.int i t⟩,by simp[PyData.canLay0]⟩
 | _,_,_,.str (x:=x) h,r=>by obtain⟨t,e⟩:=(show ∃t,_=Value.str x t from r);cases e;exact⟨⟨_,.str x t⟩,h⟩
 | _,_,_,.lst (a:=a) h hs,r=>by
   cases(show _=Value.ref a from r);obtain⟨l,m,⟨o,n,e,c,_,k⟩,q⟩:=I.list h;obtain⟨⟨as,g⟩,j⟩:=Ρ.reads I hs m;exact⟨⟨_,.list e c k (by simpa using g)⟩,by simpa[PyData.canLay0]using j⟩
 | _,_,_,.tup (a:=a) h hs,r=>by
   cases(show _=Value.ref a from r);obtain⟨l,m,⟨o,e,c,n,k⟩,q⟩:=I.tuple h;obtain⟨⟨as,g⟩,j⟩:=Ρ.reads I hs m;exact⟨⟨_,.tuple e c k (by simpa using g)⟩,by simpa[PyData.canLay0]using j⟩
theorem Ρ.reads{X:Cx}{a:g8}{e:St}{H:Hp}{s:Shared}(I:Inv X a e H s):∀{d:List V}{b:List PyData}{c:hH},Ρ X.K H d b->Vals d c->(∃as,ReadsAll s.heap c b as)/\PyData.canLayAll0 b=true
 | _,_,_,.nil,.nil=>⟨⟨_,.nil⟩,by simp[PyData.canLayAll0]⟩
 | _,_,_,.cons h hs,.cons r rs=>by
   obtain⟨⟨as,f⟩,g⟩:=iF.reads I h r;obtain⟨⟨k,j⟩,i⟩:=Ρ.reads I hs rs;exact⟨⟨_,.cons f j⟩,by simp[PyData.canLayAll0,g,i]⟩
end
section
variable{X:Cx}
def RL(K:gx):R2:=λx y H Q=>∃d e,iF K H x d/\iF K H y e/\d.depth<=40/\Q (.bl (!PyData.eqv d e)) H
theorem GW(n:X.A.units+64<cLine):aC X (compareOp .NotEq) (RL X.K):=by
 intro a s l H x y v u Q I k g h;obtain⟨d,e,i,b,m,q⟩:=h;obtain⟨⟨as,f⟩,c⟩:=i.reads I k;obtain⟨⟨o,j⟩,cb⟩:=b.reads I g;exact PySem.SeqAt.compareNe_reads f j c cb (by lia) ⟨.bl _,H,I,rfl,q⟩
end
structure rW(P:Program)(w:World)(l:Addr)(ob:Obj)(src:Heap->Array Value->Prop)(at':Addr->Nat->Heap->Prop):Prop where
 start:∀(A:Around)(s:Shared)(vs:Array Value)(Q:gq)(E:gq),src s.heap vs->Q (.ref s.heap.objs.size) { s with heap:=s.heap.push ob }->wpAny (model P w) A (pyIter (.ref l)) Q E s
 first:∀it h,h.get? it=some ob->at' it 0 h
 atK:∀it i h h',at' it i h->(∀o,h.get? it=some o->h'.get? it=some o)->at' it i h'
 ZM:∀h h' vs,src h vs->(∀o,h.get? l=some o->h'.get? l=some o)->src h' vs
 obj:∀it i h,at' it i h->∃o,h.get? it=some o/\∀v,o.data≠.cell v
 item:∀(A:Around)(s:Shared)(it:Addr)(i:Nat)(vs:Array Value)(x:Value)(Q:gq)(E:gq),at' it i s.heap->src s.heap vs->vs[i]?=some x->(∀h',at' it (i+1) h'->Heap.SameBut it s.heap h'->Q x { s with heap:=h' })->wpAny (model P w) A (Builtin.SmallTypes.nextOf (.ref it)) Q E s
 fin:∀(A:Around)(s:Shared)(it:Addr)(i:Nat)(vs:Array Value)(Q:gq)(E:gq),A.handled=none->at' it i s.heap->src s.heap vs->vs[i]?=none->(∀h' e,Heap.ExtBut it s.heap h'->(∃o,h'.get? e=some o/\o.cls=.type "StopIteration")->E (.ref e) { s with heap:=h' })->wpAny (model P w) A (Builtin.SmallTypes.nextOf (.ref it)) Q E s
theorem Oy{P:Program}{w:World}(l:Addr):rW P w l { cls:=.type "list_iterator",data:=.fields #[.ref l,.int 0 0] } (λh b=>h.IsList l b) (λa i h=>h.IsListIter a l i) where
 start:=λA s b Q E n c=>iP n c
 first:=λa h e=>⟨_,e,rfl,rfl⟩
 atK:=λa i h p x k=>x.at k
 ZM:=λh p b x k=>x.at k
 obj:=λa i h x=>by
  obtain⟨o,m,_,hd⟩:=x;exact⟨o,m,λv z=>by rw[hd]at z;cases z⟩
 item:=λA s a i b x Q E f g d c=>wpAny_nextOf_list_item f g d c
 fin:=λA s a i b Q E j f g d c=>wpAny_nextOf_list_end j f g d c
section
variable{P:Program}{w:World}{A:Around}{E:gq}{s:Shared}
theorem y4{c t:Addr}{i:Nat}{j:Array Value}{x:Value}{Q:gq}(e:s.heap.IsTupleIter c t i)(l:s.heap.IsTuple t j)(k:j[i]?=some x)(m:∀h,h.IsTupleIter c t (i+1)->Heap.SameBut c s.heap h->Q x { s with heap:=h }):wpAny (model P w) A (Builtin.SmallTypes.nextOf (.ref c)) Q E s:=by
 obtain⟨o,b,g,a⟩:=id e;obtain⟨n,d,_,p,f⟩:=l;unfold Builtin.SmallTypes.nextOf;refine ap (wpAny_callSpecial?_slot (name:=Str.ofString "__next__") e.typeIs gc (iY gc e.typeIs j6 ?_ (jR _)));show wpAny (model P w) _ (field (.ref c) 0>>=_) _ _ s;refine ap (cI b a (x:=.ref t) rfl ?_);show wpAny (model P w) _ (if(Value.ref t==Value.none)=true then _ else _) _ _ s;rw[ah (by exact bz)];show wpAny (model P w) _ (field (.ref c) 1>>=_) _ _ s;refine ap (cI b a (x:=.int i 0) rfl ?_);show wpAny (model P w) _ (seqItems? (.ref t)>>=_) _ _ s;refine ap (dZ d f ?_);simp only[cu,k];refine ap (ik b a (by simp) (bh ⟨x,rfl,bh (m _ ?_ (Heap.SameBut.update ..))⟩));exact⟨_,eR _ b (gQ (eJ a _)),(Obj.cls_mapFields ..).trans g,by rw[eJ a];simp[rawInt]⟩
theorem zZ{d t:Addr}{i:Nat}{l:Array Value}{Q:gq}(k:A.handled=none)(g:s.heap.IsTupleIter d t i)(q:s.heap.IsTuple t l)(n:l[i]?=none)(p:∀j e,Heap.ExtBut d s.heap j->(∃o,j.get? e=some o/\o.cls=.type "StopIteration")->E (.ref e) { s with heap:=j }):wpAny (model P w) A (Builtin.SmallTypes.nextOf (.ref d)) Q E s:=by
 obtain⟨v,c,r,b⟩:=id g;obtain⟨u,f,_,y,h⟩:=q;unfold Builtin.SmallTypes.nextOf;refine ap (wpAny_callSpecial?_slot (name:=Str.ofString "__next__") g.typeIs gc (iY gc g.typeIs j6 ?_ (jR _)));show wpAny (model P w) _ (field (.ref d) 0>>=_) _ _ s;refine ap (cI c b (x:=.ref t) rfl ?_);show wpAny (model P w) _ (if(Value.ref t==Value.none)=true then _ else _) _ _ s;rw[ah (by exact bz)];show wpAny (model P w) _ (field (.ref d) 1>>=_) _ _ s;refine ap (cI c b (x:=.int i 0) rfl ?_);show wpAny (model P w) _ (seqItems? (.ref t)>>=_) _ _ s;refine ap (dZ f h ?_);simp only[cu,n];refine ap (wpAny_rule (ap (ik c b (by simp) ?_)));show wpAny (model P w) _ (newExc (.type "StopIteration") []>>=_) _ _ _;refine ap ?_;simp only[newExc,newTuple];refine ap (gN ?_ (by size_fits));refine ap (m:=firstArgMember _ _) (wpAny_of_eq (a:=Value.none) (by first|rfl|(simp only[firstArgMember];rfl)) ?_);refine gN ?_ (by size_fits);simp only[raiseNew];refine ap (wpAny_handled ?_)
 first|rw[show A.in1.handled=none from k]|rw[k]
 refine ap (bh (wpAny_throw ?_));exact p _ _ (((Heap.SameBut.update ..).extBut.push _).push _) ⟨_,bc _ rfl,rfl⟩
end
theorem Qg{P:Program}{w:World}(l:Addr):rW P w l { cls:=.type "tuple_iterator",data:=.fields #[.ref l,.int 0 0] } (λh b=>h.IsTuple l b) (λa i h=>h.IsTupleIter a l i) where
 start:=λA s b Q E n d=>jY n d
 first:=λa h e=>⟨_,e,rfl,rfl⟩
 atK:=λa i h p x k=>let ⟨o,c,r⟩:=x;⟨o,k o c,r⟩
 ZM:=λh p b x k=>let ⟨o,c,r⟩:=x;⟨o,k o c,r⟩
 obj:=λa i h x=>by
  obtain⟨o,c,_,hd⟩:=x;exact⟨o,c,λv z=>by rw[hd]at z;cases z⟩
 item:=λA s a i b x Q E g j f d=>y4 g j f d
 fin:=λA s a i b Q E m g j f d=>zZ m g j f d
structure ZAp(z TI TO i1 i2 l1 l2:Addr):Prop where
 a1:TI≠z
 a2:TO≠z
 a3:i1≠z
 a4:i2≠z
 a5:TI≠TO
 a6:TI≠i1
 a7:TI≠i2
 a8:TO≠i1
 a9:TO≠i2
 a0:i1≠i2
 b1:l1≠z/\l1≠TO/\l1≠i1/\l1≠i2
 b2:l2≠z/\l2≠TO/\l2≠i1/\l2≠i2
section
variable{P:Program}{w:World}{A:Around}{E:gq}{s:Shared}{p n:Addr}{f i:Obj}{m l:Heap->Array Value->Prop}{j k:Addr->Nat->Heap->Prop}
theorem FH(L:rW P w p f m j)(J:rW P w n i l k){z TI TO g h:Addr}{M I:Nat}{S T:Array Value}{x y a b:Value}{Q:gq}(D:ZAp z TI TO g h p n)(G:IsZip s.heap z TI TO .none)(HI:IsPair s.heap TI (.ref g) (.ref h))(X:IsPair s.heap TO a b)(p1:j g M s.heap)(p2:k h I s.heap)(q1:m s.heap S)(q2:l s.heap T)(hx:S[M]?=some x)(hy:T[I]?=some y)(hQ:∀q,IsZip q z TI TO (rawInt s.heap.objs.size)->IsPair q TO x y->j g (M+1) q->k h (I+1) q->IsPair q s.heap.objs.size x y->q.objs.size=s.heap.objs.size+1->(∀c o,c≠z->c≠TO->c≠g->c≠h->s.heap.get? c=some o->q.get? c=some o)->Q (.ref s.heap.objs.size) { s with heap:=q }):wpAny (model P w) A (Builtin.«zip.__next__» ⟨[.ref z],[]⟩) (λfn s'=>∃v,fn=.done (.ret v)/\Q v s') E s:=by
 show wpAny (model P w) _ (field (.ref z) 2>>=_) _ _ _;refine ap (cI G rfl (x:=.bool false) rfl ?_);show wpAny (model P w) _ (field (.ref z) 3>>=_) _ _ _;refine ap (cI G rfl (x:=.ref TI) rfl ?_);refine ap (dZ HI rfl ?_);show wpAny (model P w) _ (Builtin.SmallTypes.ownedTupleIsFree (.ref z)>>=_) _ _ _;refine ap ?_;unfold Builtin.SmallTypes.ownedTupleIsFree;refine ap (cI G rfl (x:=.none) rfl (bh ?_));simp only[if_true];refine ap (wpAny_rule ?_);refine ap (cI G rfl (x:=.ref TO) rfl ?_);refine ap (fE G (by simp) λg1 W t=>?_);replace W:IsZip g1 z TI TO .ellipsis:=W;refine ap ?_;simp only[List.zipIdx_cons,List.zipIdx_nil,l9,List.forIn_nil];refine ap (ap (jZ ?_));show wpAny (model P w) _ (Builtin.SmallTypes.nextOf (.ref g)>>=_) _ _ _;refine ap (L.item _ { s with heap:=g1 } g M S x _ _ (L.atK _ _ _ _ p1 λo e=>t.extBut _ _ D.a3 e) (L.ZM _ _ _ q1 λo e=>t.extBut _ _ D.b1.1 e) hx λg2 af B=>bh ?_);have o2:IsPair g2 TO a b:=B.extBut _ _ D.a8 (t.extBut _ _ D.a2 X);refine ap (dZ o2 rfl ?_);refine ap (jD o2 λg3 Z u=>?_);replace Z:IsPair g3 TO x b:=Z;refine ap (kQ (bh ?_));refine ap (ap (jZ ?_));show wpAny (model P w) _ (Builtin.SmallTypes.nextOf (.ref h)>>=_) _ _ _;refine ap (J.item _ { s with heap:=g3 } h I T y _ _ (J.atK _ _ _ _ p2 λo e=>u.extBut _ _ D.a9.symm (B.extBut _ _ D.a0.symm (t.extBut _ _ D.a4 e))) (J.ZM _ _ _ q2 λo e=>u.extBut _ _ D.b2.2.1 (B.extBut _ _ D.b2.2.2.1 (t.extBut _ _ D.b2.1 e))) hy λg4 V C=>bh ?_);have o4:IsPair g4 TO x b:=C.extBut _ _ D.a9 Z;refine ap (dZ o4 rfl ?_);refine ap (jD o4 λd N H=>?_);replace N:IsPair d TO x y:=N;refine ap (kQ (bh (bh ?_)));refine ap (dZ N rfl ?_);refine ap (wpAny_newTuple ?_);have sz:d.objs.size=s.heap.objs.size:=by rw[H.1,C.1,u.1,B.1,t.1]
 have z5:IsZip d z TI TO .ellipsis:=H.extBut _ _ D.a2.symm (C.extBut _ _ D.a4.symm (u.extBut _ _ D.a2.symm (B.extBut _ _ D.a3.symm W)));have k5:∀c o,c≠z->c≠TO->c≠g->c≠h->s.heap.get? c=some o->d.get? c=some o:=λc o r R c3 Y e=>
  H.extBut _ _ R (C.extBut _ _ Y (u.extBut _ _ R (B.extBut _ _ c3 (t.extBut _ _ r e))))
 have ab:j g (M+1) d:=L.atK _ _ _ _ af λo e=>H.extBut _ _ D.a8.symm (C.extBut _ _ D.a0 (u.extBut _ _ D.a8.symm e));have ad:k h (I+1) d:=J.atK _ _ _ _ V λo e=>H.extBut _ _ D.a9.symm e;have F:z<d.objs.size:=aH z5;show wpAny (model P w) _ (Builtin.SmallTypes.ownedTupleHandOut (.ref z) (.ref d.objs.size)>>=_) _ _ _;refine ap ?_;unfold Builtin.SmallTypes.ownedTupleHandOut;have z6:IsZip (d.push { cls:=.type "tuple",data:=.seq #[x,y] }) z TI TO .ellipsis:=ay _ z5;refine ap (fE z6 (by simp) λg7 z7 U=>?_);replace z7:IsZip g7 z TI TO (rawInt d.objs.size):=z7;refine fE z7 (by simp) λK O e8=>?_;replace O:IsZip K z TI TO (rawInt d.objs.size):=O;have up:∀c o,c≠z->d.get? c=some o->K.get? c=some o:=λc o r e=>e8.extBut _ _ r (U.extBut _ _ r (ay _ e));have t8:IsPair K d.objs.size x y:=e8.extBut _ _ (eO F) (U.extBut _ _ (eO F) (bc _ rfl));have s8:K.objs.size=d.objs.size+1:=by rw[e8.1,U.1,dz]
 rw[sz]at O t8 s8;refine bh ⟨_,rfl,?_⟩;show Q (.ref d.objs.size) _;rw[sz];exact hQ K O (up _ _ D.a2 N) (L.atK _ _ _ _ ab λo e=>up _ o D.a3 e) (J.atK _ _ _ _ ad λo e=>up _ o D.a4 e) t8 s8 λc o r R c3 Y e=>up c o r (k5 c o r R c3 Y e)
theorem Jd(N:rW P w p f m j)(W:rW P w n i l k){z TI TO q C:Addr}{B M:Nat}{y K:Array Value}{a b:Value}{Q:Fin->Shared->Prop}(hh:A.handled=none)(D:ZAp z TI TO q C p n)(I:IsZip s.heap z TI TO .none)(HI:IsPair s.heap TI (.ref q) (.ref C))(R:IsPair s.heap TO a b)(p1:j q B s.heap)(p2:k C M s.heap)(q1:m s.heap y)(q2:l s.heap K)(X:y[B]?=none\/K[M]?=none)(hE:∀Z e,(∀c o,c≠z->c≠TO->c≠q->c≠C->s.heap.get? c=some o->Z.get? c=some o)->(∃o,Z.get? e=some o/\o.cls=.type "StopIteration")->E (.ref e) { s with heap:=Z }):wpAny (model P w) A (Builtin.«zip.__next__» ⟨[.ref z],[]⟩) Q E s:=by
 show wpAny (model P w) _ (field (.ref z) 2>>=_) _ _ _;refine ap (cI I rfl (x:=.bool false) rfl ?_);show wpAny (model P w) _ (field (.ref z) 3>>=_) _ _ _;refine ap (cI I rfl (x:=.ref TI) rfl ?_);refine ap (dZ HI rfl ?_);show wpAny (model P w) _ (Builtin.SmallTypes.ownedTupleIsFree (.ref z)>>=_) _ _ _;refine ap ?_;unfold Builtin.SmallTypes.ownedTupleIsFree;refine ap (cI I rfl (x:=.none) rfl (bh ?_));simp only[if_true];refine ap (wpAny_rule ?_);refine ap (cI I rfl (x:=.ref TO) rfl ?_);refine ap (fE I (by simp) λJ L v=>?_);replace L:IsZip J z TI TO .ellipsis:=L;refine ap ?_;simp only[List.zipIdx_cons,List.zipIdx_nil,l9,List.forIn_nil];refine ap (ap (jZ ?_));show wpAny (model P w) _ (Builtin.SmallTypes.nextOf (.ref q)>>=_) _ _ _;have H:j q B J:=N.atK _ _ _ _ p1 λo e=>v.extBut _ _ D.a3 e;have G:m J y:=N.ZM _ _ _ q1 λo e=>v.extBut _ _ D.b1.1 e;cases hx:y[B]? with
 | none=>
   refine ap (N.fin _ { s with heap:=J } q B y _ _ hh H G hx λY e r O=>?_);obtain⟨T,d,g⟩:=O;have z2:IsZip Y z TI TO .ellipsis:=r _ _ D.a3.symm L;have V:e≠z:=λt=>by subst t;rw[z2]at d;cases d;simp at g
   refine fE z2 (by simp) λS _ u=>hE S e (λc o F _ U _ t=>u.extBut _ _ F (r _ _ U (v.extBut _ _ F t))) ⟨T,u.extBut _ _ V d,g⟩
 | some x=>
   have hy:K[M]?=none:=by
    rcases X with h|h
    .rw[hx]at h;cases h
    .exact h
   refine ap (N.item _ { s with heap:=J } q B y x _ _ H G hx λY aT r=>bh ?_);have o2:IsPair Y TO a b:=r.extBut _ _ D.a8 (v.extBut _ _ D.a2 R);refine ap (dZ o2 rfl ?_);refine ap (jD o2 λS o3 u=>?_);refine ap (kQ (bh ?_));refine ap (ap (jZ ?_));show wpAny (model P w) _ (Builtin.SmallTypes.nextOf (.ref C)>>=_) _ _ _;refine ap (W.fin _ { s with heap:=S } C M K _ _ hh (W.atK _ _ _ _ p2 λo e=>u.extBut _ _ D.a9.symm (r.extBut _ _ D.a0.symm (v.extBut _ _ D.a4 e))) (W.ZM _ _ _ q2 λo e=>u.extBut _ _ D.b2.2.1 (r.extBut _ _ D.b2.2.2.1 (v.extBut _ _ D.b2.1 e))) hy λg4 e e4 O=>?_);obtain⟨T,d,g⟩:=O;have z4:IsZip g4 z TI TO .ellipsis:=e4 _ _ D.a4.symm (u.extBut _ _ D.a2.symm (r.extBut _ _ D.a3.symm L));have V:e≠z:=λt=>by subst t;rw[z4]at d;cases d;simp at g
   refine fE z4 (by simp) λg5 _ e5=>hE g5 e (λc o F c2 U c4 t=>e5.extBut _ _ F (e4 _ _ c4 (u.extBut _ _ c2 (r.extBut _ _ U (v.extBut _ _ F t))))) ⟨T,e5.extBut _ _ V d,g⟩
abbrev zp1(h:Heap)(f i:Obj):Heap:=(h.push f).push i
abbrev zp2(h:Heap)(f i:Obj):Heap:=(zp1 h f i).push { cls:=.type "tuple",data:=.seq #[.ref h.objs.size,.ref (h.push f).objs.size] }
abbrev zp3(h:Heap)(f i:Obj):Heap:=(zp2 h f i).push { cls:=.type "tuple",data:=.seq #[.none,.none] }
abbrev zp4(h:Heap)(f i:Obj):Heap:=(zp3 h f i).push { cls:=.type "zip",data:=.fields #[.none,.bool false,.bool false,.ref (zp1 h f i).objs.size,.ref (zp2 h f i).objs.size] }
theorem EZ(C:∀P w,rW P w p f m j)(v:∀P w,rW P w n i l k)(ne:∀h y,l h y->∃o,h.get? n=some o)(c q:Array Value):Meets (Builtin.«zip.__new__» ⟨[.type "zip",.ref p,.ref n],[]⟩) (λ_ R s=>m s.heap c/\l s.heap q/\R (.ok (.ret (.ref (zp3 s.heap f i).objs.size))) { s with heap:=zp4 s.heap f i }):=.of_wp λa w A R s b=>by
 obtain⟨u,g,d,t,os⟩:=s;obtain⟨z,x,r⟩:=b;have F:=sub_zip;have D:m (Shared.heap ⟨u,g,d,t,os⟩) c:=z;have B:l (Shared.heap ⟨u.push f,g,d,t,os⟩) q:=(v a w).ZM _ _ _ x λo e=>ay _ e
 wp_walk using ((C a w).start _ _ _ _ _ D),((v a w).start _ _ _ _ _ B)
 exact⟨_,rfl,r⟩
theorem Sj(z:∀P w,rW P w p f m j)(y:∀P w,rW P w n i l k)(ne:∀h I,l h I->∃o,h.get? n=some o){t u:Array Value}{Q:gq}(J:m s.heap t)(G:l s.heap u)(h:∀a,IsZip a (s.heap.objs.size+4) (s.heap.objs.size+2) (s.heap.objs.size+3) .none->IsPair a (s.heap.objs.size+2) (.ref s.heap.objs.size) (.ref (s.heap.objs.size+1))->IsPair a (s.heap.objs.size+3) .none .none->j s.heap.objs.size 0 a->k (s.heap.objs.size+1) 0 a->(∀c o,s.heap.get? c=some o->a.get? c=some o)->Q (.ref (s.heap.objs.size+4)) { s with heap:=a })(H:f.isFreed=false)(K:i.isFreed=false):wpAny (model P w) A (call (.type "zip") [.ref p,.ref n]) Q E s:=by
 refine callType_new F.called_zip (by decide) (F.typeCall_zip_2 _ _) (F.newCall_zip_2 _ _) (λr=>F.args_object_init_3 r _ _) F.entry_zip_new (EZ z y ne t u) ⟨J,G,?_⟩;have g:(s.heap.push f).objs.size=s.heap.objs.size+1:=dz ..;have b:(zp1 s.heap f i).objs.size=s.heap.objs.size+2:=by rw[dz,g]
 have q:(zp2 s.heap f i).objs.size=s.heap.objs.size+3:=by rw[dz,b]
 have B:(zp3 s.heap f i).objs.size=s.heap.objs.size+4:=by rw[dz,q]
 have d:(zp4 s.heap f i).get? (zp3 s.heap f i).objs.size=some _:=bc _ rfl;have v:(zp4 s.heap f i).get? (zp2 s.heap f i).objs.size=some _:=ay _ (bc _ rfl);have x:(zp4 s.heap f i).get? (zp1 s.heap f i).objs.size=some _:=ay _ (ay _ (bc _ rfl));have C:(zp4 s.heap f i).get? (s.heap.push f).objs.size=some i:=ay _ (ay _ (ay _ (bc _ K)));have D:(zp4 s.heap f i).get? s.heap.objs.size=some f:=ay _ (ay _ (ay _ (ay _ (bc _ H))));show _/\_;rw[b,q,B]at d;rw[g,b]at x;rw[q]at v;rw[g]at C;rw[B];exact⟨⟨_,d,rfl⟩,h _ d x v ((z P w).first _ _ D) ((y P w).first _ _ C) λc o e=>ay _ (ay _ (ay _ (ay _ (ay _ e))))⟩
end
def ϑ(K:gx):Bool->Hp->Addr->List V->Prop
 | true,H,a,xs=>ν K H a xs
 | false,H,a,xs=>Κ K H a xs
def Itz(K:gx)(c d:Bool)(a b:Addr):It:=⟨λi H=>∃e f x y,ϑ K c H a e/\ϑ K d H b f/\e[i]?=some x/\f[i]?=some y,λi H v g=>∃p x y,H p=none/\v=.ref p/\g=upd H p (.tup [x,y])/\(∀e,ϑ K c H a e->e[i]?=some x)/\∀f,ϑ K d H b f->f[i]?=some y,λi H=>∃e f,ϑ K c H a e/\ϑ K d H b f/\(e.length<=i\/f.length<=i)⟩
def VR(a:Addr):Bool->Obj
 | true=>{ cls:=.type "list_iterator",data:=.fields #[.ref a,.int 0 0] }
 | false=>{ cls:=.type "tuple_iterator",data:=.fields #[.ref a,.int 0 0] }
def KU(a:Addr):Bool->Heap->Array Value->Prop
 | true,h,vs=>h.IsList a vs
 | false,h,vs=>h.IsTuple a vs
def zAt(a:Addr):Bool->Addr->Nat->Heap->Prop
 | true,it,i,h=>h.IsListIter it a i
 | false,it,i,h=>h.IsTupleIter it a i
theorem j3(a:Addr)(c:Bool)(P:Program)(w:World):rW P w a (VR a c) (KU a c) (zAt a c):=by
 cases c
 .exact Qg a
 .exact Oy a
theorem xA(a:Addr)(c:Bool):(VR a c).isFreed=false:=by cases c<;>rfl
theorem rV(a:Addr)(c:Bool)(h:Heap)(b:Array Value)(e:KU a c h b):∃o,h.get? a=some o:=by
 cases c
 .obtain⟨o,ho,_⟩:=e;exact⟨o,ho⟩
 .obtain⟨o,ho,_⟩:=e;exact⟨o,ho⟩
theorem Inv.Ac{X:Cx}{d:g8}{f:St}{H:Hp}{s:Shared}{c:Bool}{a:Addr}{e:List V}(I:Inv X d f H s)(h:ϑ X.K c H a e):∃b:List Value,Vals e b/\KU a c s.heap b.toArray:=by
 cases c with
 | true=>
   obtain⟨b,r,j,_⟩:=I.list h;exact⟨b,r,j.isList⟩
 | false=>
   obtain⟨b,r,⟨o,i,k,n,g⟩,_⟩:=I.tuple h;exact⟨b,r,⟨o,i,k,n,g⟩⟩
theorem Inv.ZN{X:Cx}{b:g8}{g:St}{H:Hp}{s:Shared}{c:Bool}{a:Addr}{d e:List V}(I:Inv X b g H s)(h:ϑ X.K c H a d)(f:ϑ X.K c H a e):d=e:=by
 cases c with
 | true=>exact I.gE h f
 | false=>exact I.ZC h f
theorem Pg{P:Program}{w:World}{K:gx}{U:List Expr}{x1}{Ge:Pos}(c d:Bool)(a b z TI TO i1 i2:Addr)(D:ZAp z TI TO i1 i2 a b):Turn P w K (.Tuple U x1 Ge) (Itz K c d a b) [z,TI,TO,i1,i2] z (λi h=>IsZip h z TI TO .none/\IsPair h TI (.ref i1) (.ref i2)/\(∃u v,IsPair h TO u v)/\zAt a c i1 i h/\zAt b d i2 i h) where
 mem:=by simp
 obj:=λi h t e he=>by
  obtain⟨t1,J,⟨u,v,M⟩,N,L⟩:=t;simp only[aD,df,or_false]at he;rcases he with rfl|rfl|rfl|rfl|rfl
  .exact⟨_,t1,λv z=>by cases z⟩
  .exact⟨_,J,λv z=>by cases z⟩
  .exact⟨_,M,λv z=>by cases z⟩
  .exact(j3 a c P w).obj _ _ _ N
  .exact(j3 b d P w).obj _ _ _ L
 keep:=λi h h' t k=>by
  obtain⟨t1,J,⟨u,v,M⟩,N,L⟩:=t;exact⟨k z (by simp) _ t1,k TI (by simp) _ J,⟨u,v,k TO (by simp) _ M⟩,(j3 a c P w).atK _ _ _ _ N λo e=>k i1 (by simp) o e,(j3 b d P w).atK _ _ _ _ L λo e=>k i2 (by simp) o e⟩
 item:=λX e1 e2 e3 hc i C s σ H E I f t g=>by
  subst e1 e2 e3;obtain⟨t1,J,⟨u,v,M⟩,N,L⟩:=t;obtain⟨xs,ys,x,y,s1,s2,hx,hy⟩:=g;obtain⟨us,r1,q1⟩:=I.Ac s1;obtain⟨vs,r2,q2⟩:=I.Ac s2;obtain⟨xu,bm,rx⟩:=r1.get hx;obtain⟨yu,ar,ry⟩:=r2.get hy;have Z:s.TypeIs (.ref z) "zip":=⟨_,t1,rfl⟩;unfold pyNext;refine ap (wpAny_attempt (wpAny_callSpecial?_slot (name:=Str.ofString "__next__") Z jI (iY jI Z F.entry_zip_next
   (FH (j3 a c _ _) (j3 b d _ _) D t1 J M N L q1 q2 (x:=xu) (y:=yu) (by simpa using bm) (by simpa using ar) λh' w1 w2 w3 w4 w5 w6 w7=>bh ?_) (F.args_zip_next_1 _))))
  refine⟨_,rfl,wpAny_letOwnedTupleGo_zip w1 λV n1 R=>?_⟩;have G:∀q∈[z,TI,TO,i1,i2],pD X C H q:=f;have bk:s.heap.objs.size≠z:=eO (aH t1);have am:IsPair V s.heap.objs.size xu yu:=R.extBut _ _ bk w5;have kp:∀q o,q∉[z,TI,TO,i1,i2]->s.heap.get? q=some o->V.get? q=some o:=λq o j e=>by
   simp only[aD,df,or_false,not_or]at j;exact R.extBut _ _ j.1 (w7 q o j.1 j.2.2.1 j.2.2.2.1 j.2.2.2.2 e)
  have ao:V.get? TI=some _:=R.extBut _ _ D.a1 (w7 TI _ D.a1 D.a5 D.a6 D.a7 J);have Y:∀q u,H q=some u->q∉[z,TI,TO,i1,i2]:=λq u e j=>by rw[(G q j).1]at e;cases e
  have B:Inv X C σ H { s with heap:=V }:=by
   refine I.step (g':=s.gens) (d':=s.drawn) (t':=s.toks) (ch:=[z,TI,TO,i1,i2]) (λq j=>⟨(G q j).2.2.2.1,(G q j).2.1,(G q j).2.2.2.2.1,(G q j).2.2.2.2.2⟩) (λq o _ _ j e _=>kp q o j e) (λq o _ _ j e _=>⟨o.slots,kp q o j e⟩) (λ_ _ _ _ n=>n)
    (λq o j e=>⟨o,kp q o j e⟩) (λ_ _ e=>e) (λ_ _ _ e=>e) (λq ps e=>⟨#[],by rw[e];simp⟩) (λm hm=>?_) (λq u e=>?_) I.bare
   .obtain⟨o,es,ep,O,r⟩:=hm;exact⟨o,es,ep,kp _ o (λj=>(G _ j).2.1 rfl) O,r⟩
   .refine(I.Β q u e).dO (λq' v Zr l=>kp q' v ?_ l) (λ_ l=>l) λ_ _ l=>l;rcases Zr with rfl|Zr
    .exact Y _ u e
    .exact Y _ _ Zr
  have S:H s.heap.objs.size=none:=I.fresh;have I3:Inv X C σ (upd H s.heap.objs.size (.tup [x,y])) { s with heap:=V }:=by
   refine⟨B.ok,B.os,B.bare,?_,B.loc,B.cell,?_,λn c e=>?_,λp hp=>?_,λq u e=>?_,B.len⟩
   .refine⟨B.base.keep,B.base.slot,λq o e n hx=>?_,B.base.there,λq xs e=>?_,λq o u e=>?_,λq ps e=>?_⟩
    .have lt:q<X.s₀.heap.objs.size:=aH e;rw[aL (aW (aP lt I.sz))];exact B.base.free q o e n hx
    .have l:=B.base.ϟ q xs e;rw[aL (λz=>by rw[z,S]at l;cases l)];exact l
    .have l:=B.base.eQ q o u e;rw[aL (λz=>by rw[z,S]at l;cases l)];exact l
    .obtain⟨more,l⟩:=B.base.lT q ps e;exact⟨more,by rw[aL (λz=>by rw[z,S]at l;cases l)];exact l⟩
   .rw[aL (aW I.lt)];exact B.free
   .obtain⟨vv,o,O,_⟩:=I.cell n c e;rw[aL (aW (aH O))];exact B.ϡ n c e
   .obtain⟨k1,k2,k3⟩:=I.pin p hp;rw[aL (aW (aH k1))];exact B.pin p hp
   .by_cases j:q=s.heap.objs.size
    .subst j;rw[az]at e;cases e;exact⟨by show 2<=sizeLine;decide,[xu,yu],.cons rx (.cons ry .nil),_,am,rfl,_,rfl⟩
    .rw[aL j]at e;refine(B.Β q u e).dO (λ_ _ _ l=>l) (λq' l=>?_) λq' xs l=>?_
     .rw[aL (λz=>by rw[z,S]at l;cases l)];exact l
     .rw[aL (λz=>by rw[z,S]at l;cases l)];exact l
  refine⟨.ref s.heap.objs.size,_,I3,rfl,⟨_,x,y,S,rfl,rfl,λck q=>?_,λϒ q=>?_⟩,⟨n1,ao,⟨_,_,R.extBut _ _ D.a2 w2⟩,(j3 a c X.prog X.w).atK _ _ _ _ w3 λo e=>R.extBut _ _ D.a3 e,(j3 b d X.prog X.w).atK _ _ _ _ w4 λo e=>R.extBut _ _ D.a4 e⟩,λq j=>?_⟩
  .rw[<-I.ZN s1 q];exact hx
  .rw[<-I.ZN s2 q];exact hy
  .have ϗ:q<s.heap.objs.size:=by
    simp only[aD,df,or_false]at j;rcases j with rfl|rfl|rfl|rfl|rfl
    .exact aH t1
    .exact aH J
    .exact aH M
    .exact let ⟨o,e,_⟩:=(j3 a c X.prog X.w).obj _ _ _ N;aH e
    .exact let ⟨o,e,_⟩:=(j3 b d X.prog X.w).obj _ _ _ L;aH e
   rw[aL (aW ϗ)];exact(G q j).1
 done:=λX e1 e2 e3 hc i C s σ H E I f t g=>by
  subst e1 e2 e3;obtain⟨t1,J,⟨u,v,M⟩,N,L⟩:=t;obtain⟨xs,ys,s1,s2,a0⟩:=g;obtain⟨us,r1,q1⟩:=I.Ac s1;obtain⟨vs,r2,q2⟩:=I.Ac s2;have G:∀q∈[z,TI,TO,i1,i2],pD X C H q:=f;have hh:X.A.handled=none:=I.ok.hd hc;have Z:s.TypeIs (.ref z) "zip":=⟨_,t1,rfl⟩;have be:us.toArray[i]?=none\/vs.toArray[i]?=none:=by
   rcases a0 with e|e
   .exact .inl (by have:=r1.length;simp;lia)
   .exact .inr (by have:=r2.length;simp;lia)
  unfold pyNext;refine ap (wpAny_attempt (wpAny_callSpecial?_slot (name:=Str.ofString "__next__") Z jI (iY jI Z F.entry_zip_next
   (Jd (j3 a c _ _) (j3 b d _ _) hh D t1 J M N L q1 q2 be λh' e hk he=>?_) (F.args_zip_next_1 _))))
  obtain⟨o,O,bs⟩:=he;refine ap (wpAny_isInstance (T:="StopIteration") (b:=true) ⟨o,O,bs⟩ isSubtype_stop (bh ⟨rfl,?_⟩));have kp:∀q o,q∉[z,TI,TO,i1,i2]->s.heap.get? q=some o->h'.get? q=some o:=λq o j e=>by
   simp only[aD,df,or_false,not_or]at j;exact hk q o j.1 j.2.2.1 j.2.2.2.1 j.2.2.2.2 e
  have Y:∀q u,H q=some u->q∉[z,TI,TO,i1,i2]:=λq u e j=>by rw[(G q j).1]at e;cases e
  refine I.step (g':=s.gens) (d':=s.drawn) (t':=s.toks) (ch:=[z,TI,TO,i1,i2]) (λq j=>⟨(G q j).2.2.2.1,(G q j).2.1,(G q j).2.2.2.2.1,(G q j).2.2.2.2.2⟩) (λq o _ _ j e _=>kp q o j e) (λq o _ _ j e _=>⟨o.slots,kp q o j e⟩) (λ_ _ _ _ n=>n)
   (λq o j e=>⟨o,kp q o j e⟩) (λ_ _ e=>e) (λ_ _ _ e=>e) (λq ps e=>⟨#[],by rw[e];simp⟩) (λm hm=>?_) (λq u e=>?_) I.bare
  .obtain⟨o,es,ep,O,r⟩:=hm;exact⟨o,es,ep,kp _ o (λj=>(G _ j).2.1 rfl) O,r⟩
  .refine(I.Β q u e).dO (λq' v Zr l=>kp q' v ?_ l) (λ_ l=>l) λ_ _ l=>l;rcases Zr with rfl|Zr
   .exact Y _ u e
   .exact Y _ _ Zr
 self:=λA i s Q E t q=>wpAny_pyIter_zip t.1 q
section
variable{X:Cx}{b:g8}{f:St}{H d:Hp}{s g:Shared}{a:Addr}{o:HO}
theorem Inv.aga(I:Inv X b f H s)(i:Inv X b f d g)(k:s.heap.objs.size<=a)(j:d a=none)(l:Λ X.prog X.w (upd d a o) g.heap a o):Inv X b f (upd d a o) g:=by
 refine⟨i.ok,i.os,i.bare,?_,i.loc,i.cell,?_,λn c e=>?_,λp t=>?_,λq u e=>?_,i.len⟩
 .refine⟨i.base.keep,i.base.slot,λq m e n v=>?_,i.base.there,λq r e=>?_,λq m u e=>?_,λq y e=>?_⟩
  .rw[aL (aW (aP (aP (aH e) I.sz) k))];exact i.base.free q m e n v
  .have h:=i.base.ϟ q r e;rw[aL (λz=>by rw[z,j]at h;cases h)];exact h
  .have h:=i.base.eQ q m u e;rw[aL (λz=>by rw[z,j]at h;cases h)];exact h
  .obtain⟨more,h⟩:=i.base.lT q y e;exact⟨more,by rw[aL (λz=>by rw[z,j]at h;cases h)];exact h⟩
 .rw[aL (aW (aP I.lt k))];exact i.free
 .obtain⟨vv,oc,ho,_⟩:=I.cell n c e;rw[aL (aW (aP (aH ho) k))];exact i.ϡ n c e
 .obtain⟨k1,k2,k3⟩:=I.pin p t;rw[aL (aW (aP (aH k1) k))];exact i.pin p t
 .by_cases hq:q=a
  .subst hq;rw[az]at e;cases e;exact l
  .rw[aL hq]at e;refine(i.Β q u e).dO (λ_ _ _ h=>h) (λx h=>?_) λx r h=>?_
   .rw[aL (λz=>by rw[z,j]at h;cases h)];exact h
   .rw[aL (λz=>by rw[z,j]at h;cases h)];exact h
end
theorem Lr:typeLookup (.type "list_reverseiterator") "__len__"=pure none:=by rw[typeLookup_type,builtinLookup_eq_fast];kernel_rfl
theorem So:typeLookup (.type "list_reverseiterator") "__length_hint__"=pure (some (.builtin "list_reverseiterator.__length_hint__")):=by rw[typeLookup_type,builtinLookup_eq_fast];kernel_rfl
section
variable{P:Program}{w:World}{A:Around}{E:gq}{s:Shared}
theorem S6{f:Addr}{Q:Bool->Shared->Prop}(e:s.TypeIs (.ref f) "list_reverseiterator")(h:Q false s):wpAny (model P w) A (Builtin.List.listLengthHint (.ref f)) Q E s:=by
 unfold Builtin.List.listLengthHint;refine ap (wpAny_specialOf e Lr ?_);refine gu (λa=>absurd a (by decide)) (λ_=>?_);refine gu (λa=>absurd a (by decide)) (λ_=>?_);refine ap (wpAny_specialOf e So ?_);generalize c:("list_reverseiterator.__length_hint__":String)=d
 wp_delta
 rw[show splitId d=some ("list_reverseiterator","__length_hint__")from by subst c;decide +kernel];subst c;refine ap (wpAny_isInstance (T:="list_reverseiterator") (b:=true) e (by rw[isSubtype_type];kernel_rfl) ?_);refine gu (λa=>absurd a (by decide)) (λ_=>?_);refine gu (λ_=>?_) (λa=>absurd (by decide +kernel) a);refine gu (λa=>absurd a (by decide +kernel)) (λ_=>?_);exact bh h
end
def K9(I l:Addr)(a:Array Value)(i:Nat)(h:Heap):Prop:=i<=a.size/\h.IsRevIter I l ((a.size:Int)-1-(i:Int))/\h.IsList l a
def LO(a:Array Value)(i:Nat)(v:Value):Prop:=a[a.size-1-i]?=some v
section
variable{P:Program}{w:World}{A:Around}{E:gq}{s:Shared}{R:Result->Shared->Prop}
theorem L0(o:A.handled=none){I l S:Addr}{its:Array Value}{g:Value}{k:Nat}(st:K9 I l its 0 s.heap)(ne:l≠I)(m:S≠I)(v:S≠l)(B:its.size<=sizeLine)(t:s.heap.get? S=some { cls:=.type "list",data:=.seq #[] k })(p:∀c d h,Moved [S,I] (λa b=>b=a) s c->c.heap.get? S=some { cls:=.type "list",dict:=none,data:=.seq d h,slots:=#[] }->ItemsOf (LO its) d its.size->R (.ok (.ret g)) c):wpAny (model P w) A.in1 (Builtin.List.listExtendWith (.ref S) (.ref I) g) (λz c=>match z with|.done f=>R (.ok f) c|.again h=>h.quiet=true/\codeAny (model P w) A h R c) (λe c=>R (.error e) c) s:=by
 have W:=(Walks.listRev (prog:=P) (w:=w) (A:=A.in1) o I l ne its).toS;have n:s.TypeIs (.ref I) "list_reverseiterator":=st.2.1.typeIs;unfold Builtin.List.listExtendWith;refine ap (wpAny_typeOf n ?_);have r:Builtin.List.listSameRef (.ref S) (.ref I)=false:=by simp[Builtin.List.listSameRef,m]
 have u:(Value.type "list_reverseiterator" == Value.type "list")=false:=by decide
 have y:(Value.type "list_reverseiterator" == Value.type "tuple")=false:=by decide
 simp only[r,u,y,Bool.or_false,de,if_false];refine ap (jE st.2.1 ?_);refine ap (j1 (S6 n ?_));refine gu (λi=>absurd i (by decide +kernel)) (λ_=>?_);refine bh ⟨plainId_quiet F.plain_extend_loop _,codeAny_extend_loopS W B S (by simp[m,v]) g its.size 0 _ #[] k rfl (b7 _) st t (ItemsOf.nil _) λc d h x j q=>?_⟩;exact p c d h x j q
theorem ER(r:A.handled=none){I l:Addr}{its:Array Value}{Q:gq}(st:K9 I l its 0 s.heap)(ne:l≠I)(C:its.size<=sizeLine)(x:∀(d:Shared) (a:Array Value) (j:Nat),d.os=s.os->d.gens=s.gens->d.drawn=s.drawn->(∀b o,b≠I->s.heap.get? b=some o->d.heap.get? b=some o)->d.heap.get? s.heap.objs.size=some { cls:=.type "list",dict:=none,data:=.seq a j,slots:=#[] }->ItemsOf (LO its) a its.size->Q (.ref s.heap.objs.size) d):wpAny (model P w) A (call (.type "list") [.ref I]) Q E s:=by
 obtain⟨D,k,_⟩:=id st.2.1;obtain⟨G,m,_⟩:=id st.2.2;have t:s.heap.objs.size≠I:=eO (aH k);have y:s.heap.objs.size≠l:=eO (aH m);refine callType_codes (Q₁:=λg c=>g=.ref s.heap.objs.size/\c={ s with heap:=s.heap.push { cls:=.type "list",data:=.seq #[] } }) F.called_list (F.typeCall_list_1 _) F.entry_list_init (code_list_new _ ⟨rfl,rfl⟩) λg c f=>?_;obtain⟨rfl,rfl⟩:=f;have h:(s.heap.push { cls:=.type "list",data:=.seq #[] }).get? s.heap.objs.size=some { cls:=.type "list",data:=.seq #[] }:=bc _ rfl;refine⟨⟨_,h,rfl⟩,F.args_list_init_2 _ _,?_⟩;show wpAny (model P w) A.in1.in1 (do let p <-Builtin.List.listItems (.ref s.heap.objs.size);Builtin.List.listUpdate (.ref s.heap.objs.size) (λ_=>#[]);letGo p.toList.reverse;Builtin.List.listExtendWith (.ref s.heap.objs.size) (.ref I) .none) _ _ _;refine ap ?_;unfold Builtin.List.listItems;refine ap (dZ h rfl (bh ?_));show wpAny (model P w) A.in1.in1 (updateSeq s.heap.objs.size (λ_=>#[])>>=λ_=>letGo (#[]:Array Value).toList.reverse>>=λ_=>Builtin.List.listExtendWith (.ref s.heap.objs.size) (.ref I) .none) _ _ _;refine ap (wpAny_updateSeq h rfl ?_);have v:=eR (Obj.mapSeq (λ_=>(#[]:Array Value))) h rfl;have q:∀b o,s.heap.get? b=some o->((s.heap.push { cls:=.type "list",data:=.seq #[] }).update s.heap.objs.size (Obj.mapSeq (λ_=>(#[]:Array Value)))).get? b=some o:=λb o e=>(di _ _ (eO (aH e))).trans (ay _ e)
 refine ap (kQ ?_);refine L0 (A:=A.in1) r (I:=I) (l:=l) (its:=its) ⟨st.1,st.2.1.at λo e=>q _ o e,st.2.2.at λo e=>q _ o e⟩ ne t y C v λd a j i n u=>?_;refine⟨rfl,x d a j i.os i.gens i.drawn (λb o B e=>i.heap b o (λz=>?_) (q b o e)) n u⟩;simp only[aD,df,or_false]at z;rcases z with z|z
 .exact absurd (aH e) (by rw[z];exact dB _)
 .exact B z
end
theorem MS{b a:hH}(h:ItemsOf (LO b.toArray) a.toArray b.toArray.size):a=b.reverse:=by
 obtain⟨d,e⟩:=h;simp only[aU]at d;refine dJ λj=>?_;by_cases c:j<a.length
 .have q:=e j a[j] (by simp[c]);unfold LO at q;rw[aA c,dg (by lia)];simp only[aU,List.getElem?_toArray]at q;exact q.symm
 .rw[bn (by lia),bn (by rw[aZ];lia)]
section
variable{X:Cx}{e:Expr}{g:TE}{i d f c:Pos}
def Tu(K:gx)(g:TE):TE:=λj H Q=>g j H λx b=>∃a h,x=.ref a/\ν K b a h/\∀l,b l=none->Q (.ref l) (upd b l (.lst h.reverse))
theorem Um{j:g8}{s:Shared}{o:St}{H:Hp}{R:List Value->Shared->Prop}(D:Gl X "reversed")(J:X.mg "reversed"=none)(B:PE X e g)(I:Inv X j o H s){p:V->Hp->Prop}(h:g o H p)(G:starEach [.Call (.Name "reversed" d) [e] [] c] X.env=[(false,eval (.Call (.Name "reversed" d) [e] [] c) X.env)])(v:starEach [e] X.env=[(false,eval e X.env)])(k:∀l m x a n (b:hH),Inv X j o m l->p x m->x=.ref a->ν X.K m a n->Vals n b->K9 l.heap.objs.size a b.toArray 0 (l.heap.push (revObj a ((b.toArray.size:Int)-1)))->a≠l.heap.objs.size->b.toArray.size<=sizeLine->R [.ref l.heap.objs.size] { l with heap:=l.heap.push (revObj a ((b.toArray.size:Int)-1)) })(E:∀x m,p x m->∃a n,x=.ref a/\ν X.K m a n):wpAny (model X.prog X.w) X.A (spliced (backTo f (starEach [.Call (.Name "reversed" d) [e] [] c] X.env))) R X.xe s:=by
 rw[G];show wpAny _ _ (spliced ((false,eval (.Call (.Name "reversed" d) [e] [] c) X.env)::backTo f [])) _ _ s;refine gM ?_;refine Call_ (pS I D J boot_reversed (cG ?_ v rfl));rw[v];show wpAny _ _ (spliced ((false,eval e X.env)::backTo c [])) _ _ s;refine gM (eT (B j s o H _ I h) λu l x m y F t=>gV ?_);obtain⟨a,n,C,r⟩:=E x m t;subst C;cases F;obtain⟨b,z,q,L⟩:=y.list r;have ne:a≠l.heap.objs.size:=aW q.lt;refine call_reversed_list q.isList (gV ?_);refine k l m _ a n b y t rfl r z ⟨b7 _,⟨_,bc _ rfl,rfl,?_⟩,q.isList.push _⟩ ne (by rw[aU,<-z.length];exact L);simp[revObj]
theorem T7(hc:X.calm=true)(Z:Gl X "reversed")(hm:X.mg "reversed"=none)(y:Gl X "list")(r:X.mg "list"=none)(U:PE X e g)(N:starEach [.Call (.Name "reversed" d) [e] [] c] X.env=[(false,eval (.Call (.Name "reversed" d) [e] [] c) X.env)]:=by rfl)(h2:starEach [e] X.env=[(false,eval e X.env)]:=by rfl):PE X (.Call (.Name "list" i) [.Call (.Name "reversed" d) [e] [] c] [] f) (Tu X.K g):=by
 intro j s D H Q I h;refine Call_ (pS I y r boot_list (cG ?_ N rfl));refine Um Z hm U I h N h2 (λl w x a t k m q1 v z P st ne S=>?_) λx w ⟨a,t,v,z,_⟩=>⟨a,t,v,z⟩;obtain⟨a',ϒ,n,B,q⟩:=q1;rw[v]at n;cases n;have W:=m.gE z B;subst W;refine ER (m.ok.hd hc) st ne S λs' p Y F R C O A oR=>?_;obtain⟨M,gs,ds,T,V⟩:=s';simp only at F R C O A;subst F R C;obtain⟨L,rfl⟩:∃L:List Value,p=L.toArray:=⟨p.toList,by simp⟩;have er:=MS oR;subst er;have kk:∀b u,l.heap.get? b=some u->M.get? b=some u:=λb u J=>O b u (aW (aH J)) (ay _ J);have I2:Inv X j D w { l with heap:=M,toks:=T }:=m.kept kk;have G:(l.heap.push (revObj a ((k.toArray.size:Int)-1))).objs.size=l.heap.objs.size+1:=dz ..;rw[G]at A;show EP X j D Q (.ref (l.heap.push (revObj a ((k.toArray.size:Int)-1))).objs.size) _;rw[G];have E:w (l.heap.objs.size+1)=none:=m.Β.fresh (fY _);refine⟨.ref _,_,m.aga (o:=.lst t.reverse) I2 (fY _) E ⟨?_,k.reverse,Y,P.reverse,A⟩,rfl,q _ E⟩;rw[aZ,P.length]
 simpa using S
end
theorem kF{a b:Nat}(h:a<b\/b<a):a≠b:=by lia
theorem Vm(n a b:Nat)(c:a<n)(d:b<n):ZAp (n+4) (n+2) (n+3) n (n+1) a b:=⟨kF (by lia),kF (by lia),kF (by lia),kF (by lia),kF (by lia),kF (by lia),kF (by lia),kF (by lia),kF (by lia),kF (by lia),⟨kF (by lia),kF (by lia),kF (by lia),kF (by lia)⟩,⟨kF (by lia),kF (by lia),kF (by lia),kF (by lia)⟩⟩
section
variable{X:Cx}
def S8(K:gx)(c d:Bool)(j:TA):TI:=λf H R=>j f H λg e=>∃a b,g=[.ref a,.ref b]/\(∃h,ϑ K c e a h)/\(∃i,ϑ K d e b i)/\R (Itz K c d a b) e
theorem Ow{i:List Expr}{x1}{Ge:Pos}{ea eb:Expr}{ta:TA}{p pos:Pos}(c d:Bool)(hg:Gl X "zip")(hm:X.mg "zip"=none)(ha:PA X [ea,eb] ta)(hs:starEach [ea,eb] X.env=[(false,eval ea X.env),(false,eval eb X.env)]:=by rfl)(hs2:starEach [eb] X.env=[(false,eval eb X.env)]:=by rfl):PI X (.Tuple i x1 Ge) (.Call (.Name "zip" p) [ea,eb] [] pos) (S8 X.K c d ta):=by
 intro k s z H R I h;refine Call_ (pS I hg hm boot_zip (cG (uG (ha pos k s z H _ I h) λC f B y j t l=>?_) (by rw[hs,hs2]) (by rw[hs2];rfl)));obtain⟨a,b,e,⟨Q,A⟩,⟨S,G⟩,q⟩:=l;subst e;obtain⟨u,v,rfl,L,O⟩:=TK t;cases L;cases O;obtain⟨C,t,l⟩:=j.Ac A;obtain⟨B,T,o⟩:=j.Ac G;obtain⟨U,m⟩:=rV a c _ _ l;obtain⟨V,n⟩:=rV b d _ _ o;have J:=aH m;have N:=aH n;refine Sj (j3 a c) (j3 b d) (rV b d) l o (λW r E x P F M=>?_) (xA a c) (xA b d);refine wpAny_pyIter_zip r ?_;have D:=Vm f.heap.objs.size a b J N;refine⟨_,[f.heap.objs.size+4,f.heap.objs.size+2,f.heap.objs.size+3,f.heap.objs.size,f.heap.objs.size+1],_,_,y,rfl,j.kept (t':=f.toks) M,Pg c d a b _ _ _ _ _ D,⟨r,E,⟨_,_,x⟩,P,F⟩,λq w=>?_,q⟩;have g:f.heap.objs.size<=q:=by
  simp only[aD,df,or_false]at w;rcases w with rfl|rfl|rfl|rfl|rfl
  .exact iW _ 4
  .exact iW _ 2
  .exact iW _ 3
  .exact aJ _
  .exact iW _ 1
 exact j.aaY g (j.Β.fresh g)
end
end L2
namespace Pb
structure Road where
 a:Int
 b:Int
 t:Int
 u:Int
 deriving DecidableEq
abbrev hT:=List Road
def Oh(m:Int)(c:hT):Prop:=∀S:Int->Prop,S 0->(∀r∈c,(S r.a↔S r.b))->∀v,0<=v->v<m->S v
structure ZO(m:Int)(r:Road):Prop where
 a0:0<=r.a
 a1:r.a<m
 b0:0<=r.b
 b1:r.b<m
 ne:r.a≠r.b
 t0:2<=r.t
 t1:r.t<=1000000
 u0:2<=r.u
 u1:r.u<=1000000
structure Good(m:Int)(rs:hT):Prop where
 m1:1<=m
 Ο:m<=24
 len:(rs.length:Int)=m-1
 ok:∀r∈rs,ZO m r
 jn:Oh m rs
theorem qA{b:Type}[DecidableEq b]:∀{l l':List b},l.Nodup->(∀x∈l,x∈l')->l.length<=l'.length
 | [],_,_,_=>b7 _
 | x::r,l',hn,hs=>by
   obtain⟨d,f⟩:=aV.mp hn;have a:x∈l':=hs x ax;have:r.length<=(l'.erase x).length:=qA f λy c=>(mj (λ(e:y=x)=>d (by rw[<-e];exact c))).mpr (hs y (aq _ c));rw[List.length_erase_of_mem a]at this;have g:0<l'.length:=List.length_pos_of_mem a;rw[ba]
   lia
def bG(n:Nat):List Int:=(List.range n).map λ(k:Nat)=>(k:Int)
theorem dX{n:Nat}{v:Int}:v∈bG n↔0<=v/\v<n:=by
 unfold bG;rw[aR]
 constructor
 .rintro⟨k,hk,rfl⟩;have:=cQ.mp hk
  lia
 .rintro⟨h0,h1⟩;exact⟨v.toNat,cQ.mpr (by lia),by lia⟩
theorem bR(n:Nat):(bG n).length=n:=by simp[bG]
theorem hG(n:Nat):(bG n).Nodup:=by
 unfold bG;refine List.Pairwise.map _ (λa b h=>?_) (List.nodup_range (n:=n));intro e;exact h (by lia)
theorem gZ{m:Int}{l:du}(c:0<=m)(b:l.Nodup)(h:∀x∈l,0<=x/\x<m):(l.length:Int)<=m:=by
 have:=qA (l':=bG m.toNat) b λx a=>dX.mpr ⟨(h x a).1,by have:=(h x a).2;lia⟩;rw[bR]at this
 lia
theorem Th{m:Int}{l:du}(d:0<=m)(h:∀v,0<=v->v<m->v∈l):m<=(l.length:Int):=by
 have:=qA (l:=bG m.toNat) (l':=l) (hG _) λx b=>by
  obtain⟨a,c⟩:=dX.mp b;exact h x a (by lia)
 rw[bR]at this
 lia
def uc(p:Int)(r:Road):List Int:=(if r.a=p then[r.b]else[])++(if r.b=p then[r.a]else[])
def fM(a:hT)(p:Int):List Int:=a.flatMap (uc p)
theorem tE{d:hT}{p e:Int}:e∈fM d p↔∃r∈d,(r.a=p/\r.b=e)\/(r.b=p/\r.a=e):=by
 unfold fM uc;rw[c6]
 constructor
 .rintro⟨r,hr,h⟩;refine⟨r,hr,?_⟩;rcases bd.mp h with h|h
  .by_cases c:r.a=p
   .rw[aj c]at h;exact .inl ⟨c,(aO.mp h).symm⟩
   .rw[ah c]at h;cases h
  .by_cases c:r.b=p
   .rw[aj c]at h;exact .inr ⟨c,(aO.mp h).symm⟩
   .rw[ah c]at h;cases h
 .rintro⟨r,hr,h⟩;refine⟨r,hr,bd.mpr ?_⟩;rcases h with⟨h1,h2⟩|⟨h1,h2⟩
  .exact .inl (by rw[aj h1,h2];exact aO.mpr rfl)
  .exact .inr (by rw[aj h1,h2];exact aO.mpr rfl)
theorem HA(e:hT)(p:Int):(fM e p).length<=2*e.length:=by
 unfold fM
 induction e with
 | nil=>simp
 | cons r e ih=>
   rw[bI,aN,ba];have:(uc p r).length<=2:=by
    unfold uc;rw[aN];by_cases c:r.a=p<;>by_cases d:r.b=p<;>simp[c,d]
   lia
theorem tR(a:hT)(r:Road)(p:Int):fM (a++[r]) p=fM a p++uc p r:=by
 unfold fM;rw[nh];simp
def Be(c:List Int×List Int)(e:Int):List Int×List Int:=if e∈c.1 then c else(c.1++[e],c.2++[e])
structure aae(m:Int)(rs:hT)(ks ws:du):Prop where
 nd:ks.Nodup
 zero:0∈ks
 Δ:∀k∈ks,0<=k/\k<m
 sub:∀w∈ws,w∈ks
 cl:∀k∈ks,k∉ws->∀e∈fM rs k,e∈ks
 wl:ws.length<=ks.length
theorem LK{l:du}{e:Int}(h:l.Nodup)(d:e∉l):(l++[e]).Nodup:=by
 rw[da];refine⟨h,by simp,λa c b f=>?_⟩;rw[aO.mp f];exact λz=>d (z▸c)
structure ZP(m:Int)(rs:hT)(p:Int)(es ks ws ks0:du)(n0:Nat):Prop where
 nd:ks.Nodup
 zero:0∈ks
 Δ:∀k∈ks,0<=k/\k<m
 sub:∀w∈ws,w∈ks
 cl:∀k∈ks,k∉ws->k=p\/∀e∈fM rs k,e∈ks
 seen:∀e∈es,e∈ks
 pin:p∈ks
 mu:ks.length+n0=ks0.length+ws.length
 up:ks0.length<=ks.length
 wl:ws.length<=ks.length
theorem ZP.start{m:Int}{c:hT}{a b:du}{p:Int}(h:aae m c a (b++[p])):ZP m c p [] a b a b.length where
 nd:=h.nd
 zero:=h.zero
 Δ:=h.Δ
 sub:=λw hw=>h.sub w (bB _ hw)
 cl:=λk hk hw=>by
  by_cases e:k=p
  .exact .inl e
  .exact .inr (h.cl k hk λz=>by
    rcases bd.mp z with z|z
    .exact hw z
    .exact e (aO.mp z))
 seen:=λe d=>by cases d
 pin:=h.sub p (aY _ (aO.mpr rfl))
 mu:=rfl
 up:=aJ _
 wl:=by have:=h.wl;rw[aN]at this;simp at this;lia
theorem ZP.step{m:Int}{n:hT}{p:Int}{j f g b:du}{l:Nat}{e:Int}(h:ZP m n p j f g b l)(o:0<=e)(q:e<m):ZP m n p (j++[e]) (Be (f,g) e).1 (Be (f,g) e).2 b l:=by
 unfold Be;by_cases c:e∈f
 .rw[aj c];refine⟨h.nd,h.zero,h.Δ,h.sub,h.cl,λx a=>?_,h.pin,h.mu,h.up,h.wl⟩;rcases bd.mp a with z|z
  .exact h.seen x z
  .rw[aO.mp z];exact c
 .rw[ah c];dsimp only;refine⟨LK h.nd c,bB _ h.zero,λk i=>?_,λw d=>?_,λk i d=>?_,λx a=>?_,bB _ h.pin,?_,by have:=h.up;simp;lia,by have:=h.wl;simp;exact this⟩
  .rcases bd.mp i with z|z
   .exact h.Δ k z
   .rw[aO.mp z];exact⟨o,q⟩
  .rcases bd.mp d with z|z
   .exact bB _ (h.sub w z)
   .exact aY _ z
  .rcases bd.mp i with z|z
   .rcases h.cl k z λy=>d (bB _ y)with y|y
    .exact .inl y
    .exact .inr λx a=>bB _ (y x a)
   .exact absurd (aY _ z) d
  .rcases bd.mp a with z|z
   .exact bB _ (h.seen x z)
   .exact aY _ z
  .have:=h.mu;simp only[aN,ba,dU]
   lia
theorem ZP.done{m:Int}{a:hT}{p:Int}{c d b:du}{e:Nat}(h:ZP m a p (fM a p) c d b e):aae m a c d where
 nd:=h.nd
 zero:=h.zero
 Δ:=h.Δ
 sub:=h.sub
 cl:=λk hk hw=>by
  rcases h.cl k hk hw with z|z
  .rw[z];exact h.seen
  .exact z
 wl:=h.wl
theorem aae.start{m:Int}{a:hT}(b:1<=m):aae m a [0] [0] where
 nd:=by simp
 zero:=by simp
 Δ:=λk hk=>by rw[aO.mp hk];lia
 sub:=λw hw=>hw
 cl:=λk hk hw=>absurd hk hw
 wl:=by simp
theorem aae.all{m:Int}{d:hT}{c:du}(h:aae m d c [])(f:1<=m)(j:Oh m d):(c.length:Int)=m:=by
 have up:=gZ (by lia) h.nd h.Δ;have:∀v,0<=v->v<m->v∈c:=j (λv=>v∈c) h.zero λr e=>by
  constructor
  .intro ha;exact h.cl r.a ha (by simp) r.b (tE.mpr ⟨r,e,.inl ⟨rfl,rfl⟩⟩)
  .intro hb;exact h.cl r.b hb (by simp) r.a (tE.mpr ⟨r,e,.inr ⟨rfl,rfl⟩⟩)
 have:=Th (by lia) this
 lia
theorem R1{m:Int}{a:hT}(h:∀r∈a,ZO m r){p e:Int}(b:e∈fM a p):0<=e/\e<m:=by
 obtain⟨r,c,z⟩:=tE.mp b;have k:=h r c;rcases z with⟨_,rfl⟩|⟨_,rfl⟩
 .exact⟨k.b0,k.b1⟩
 .exact⟨k.a0,k.a1⟩
structure Row where
 k:Int
 un:Int
 t:Int
 u:Int
 sw:Int
 sp:Int
structure ZE(r:Row):Prop where
 u0:0<=r.un
 u1:r.un<r.k
 t0:2<=r.t
 t1:r.t<=1000000
 v0:2<=r.u
 v1:r.u<=1000000
 s0:0<=r.sp
 s1:r.sp<r.k
structure Rows(n:Nat)(rows:List Row):Prop where
 len:rows.length=n
 ok:∀(i:Nat)(r:Row),rows[i]?=some r->r.k=(i:Int)+1/\ZE r
structure Ε(n:Nat)(ls:du):Prop where
 len:ls.length=n
 nd:ls.Nodup
 all:∀v:Int,0<=v->v<n->v∈ls
 Δ:∀v∈ls,0<=v/\v<n
theorem Ε.nil:Ε 0 []:=⟨rfl,by simp,λv b a=>(by lia),λv h=>(by cases h)⟩
theorem rL{a:Type}{l:List a}{k:Nat}{x y:a}:y∈l.take k++x::l.drop k↔y=x\/y∈l:=by
 rw[bd,aD]
 constructor
 .rintro(h|h|h)
  .exact .inr (my h)
  .exact .inl h
  .exact .inr (fT h)
 .rintro(h|h)
  .exact .inr (.inl h)
  .rw[<-dN k l]at h;rcases bd.mp h with z|z
   .exact .inl z
   .exact .inr (.inr z)
theorem Ε.put{n:Nat}{a:du}(h:Ε n a)(k:Nat)(hk:k<=n):Ε (n+1) (a.take k++(n:Int)::a.drop k) where
 len:=by
  rw[aN,ba,bA,eZ,h.len]
  lia
 nd:=by
  have p:(a.take k++(n:Int)::a.drop k).Perm ((n:Int)::a):=by
   refine List.perm_middle.trans ?_;rw[dN]
  refine p.nodup_iff.mpr (aV.mpr ⟨λz=>?_,h.nd⟩);have:=(h.Δ _ z).2
  lia
 all:=λv b d=>by
  rw[rL];by_cases e:v=n
  .exact .inl e
  .exact .inr (h.all v b (by lia))
 Δ:=λv c=>by
  rcases rL.mp c with z|z
  .lia
  .have:=h.Δ v z
   lia
def lQ(a:du)(r:Row):Road:=if r.sw=1 then⟨a.getD r.un.toNat 0,a.getD r.k.toNat 0,r.t,r.u⟩else⟨a.getD r.k.toNat 0,a.getD r.un.toNat 0,r.t,r.u⟩
structure Put(ls:du)(rows:List Row)(rs:hT):Prop where
 len:rs.length=rows.length
 of:∀r∈rs,∃w∈rows,r=lQ ls w
 to:∀w∈rows,lQ ls w∈rs
theorem Put.nil(a:du):Put a [] []:=⟨rfl,λr h=>(by cases h),λr h=>(by cases h)⟩
theorem Put.step{d:du}{a:List Row}{c:hT}(h:Put d a c)(w:Row)(k:Nat):Put d (a++[w]) (c.take k++lQ d w::c.drop k) where
 len:=by
  rw[aN,ba,bA,eZ,aN,h.len];simp
  lia
 of:=λr hr=>by
  rcases rL.mp hr with z|z
  .exact⟨w,by simp,z⟩
  .obtain⟨b,hw,e⟩:=h.of r z;exact⟨b,bB _ hw,e⟩
 to:=λb hw=>by
  rw[rL];rcases bd.mp hw with z|z
  .exact .inr (h.to b z)
  .exact .inl (by rw[aO.mp z])
theorem vB{a:du}{n:Nat}(h:Ε n a){i:Nat}(b:i<n):a[i]?=some (a.getD i 0):=by
 have:i<a.length:=by rw[h.len];exact b
 simp[List.getD,aA this]
theorem sD{a:du}{n:Nat}(h:Ε n a){i:Nat}(b:i<n):a.getD i 0∈a:=aX (vB h b)
theorem AF{a:du}{n:Nat}(h:Ε n a){i j:Nat}(f:i<n)(k:j<n)(e:a.getD i 0=a.getD j 0):i=j:=by
 have b:i<a.length:=by rw[h.len];exact f
 have c:j<a.length:=by rw[h.len];exact k
 have d:=vB h f;have l:=vB h k;rw[e]at d;have g:a[i]'b=a[j]'c:=by
  rw[aA b]at d;rw[aA c]at l;exact bq (d.trans l.symm)
 have nd:=ii.mp h.nd;rcases Nat.lt_trichotomy i j with z|z|z
 .exact absurd g (nd i j b c z)
 .exact z
 .exact absurd g.symm (nd j i c b z)
theorem UR{n:Nat}{d:du}{a:List Row}{q:hT}(p:1<=n)(u:n<=24)(L:Ε n d)(W:Rows (n-1) a)(P:Put d a q):Good n q where
 m1:=by lia
 Ο:=by lia
 len:=by rw[P.len,W.len];lia
 ok:=λr hr=>by
  obtain⟨w,hw,rfl⟩:=P.of r hr;obtain⟨i,hi⟩:=bZ hw;obtain⟨y,ok⟩:=W.ok i w hi;have b:i<a.length:=(aw.mp hi).1;rw[W.len]at b;have hk:w.k.toNat<n:=by lia
  have l:w.un.toNat<n:=by have:=ok.u0;have:=ok.u1;lia
  have h:=L.Δ _ (sD L hk);have g:=L.Δ _ (sD L l);have ne:d.getD w.k.toNat 0≠d.getD w.un.toNat 0:=λe=>by
   have:=AF L hk l e;have:=ok.u0;have:=ok.u1
   lia
  unfold lQ;by_cases c:w.sw=1
  .rw[aj c];exact⟨g.1,g.2,h.1,h.2,ne.symm,ok.t0,ok.t1,ok.v0,ok.v1⟩
  .rw[ah c];exact⟨h.1,h.2,g.1,g.2,ne,ok.t0,ok.t1,ok.v0,ok.v1⟩
 jn:=by
  intro S s0 t;have f:∀i:Nat,i<n->(S (d.getD i 0)↔S (d.getD 0 0)):=by
   intro i
   induction i using Nat.strongRecOn with
   | ind i ih=>
     intro hi;by_cases z:i=0
     .rw[z]
     .have b:i-1<a.length:=(by rw[W.len];lia);obtain⟨y,ok⟩:=W.ok (i-1) a[i-1] (aA b);have B:=P.to a[i-1] (cZ b);have hr:=t _ B;have hk:(a[i-1]).k.toNat=i:=(by lia);have l:(a[i-1]).un.toNat<i:=(by have:=ok.u0;have:=ok.u1;lia);have o:=ih _ l (by lia);unfold lQ at hr;rw[hk]at hr;by_cases c:(a[i-1]).sw=1
      .rw[aj c]at hr;exact hr.symm.trans o
      .rw[ah c]at hr;exact hr.trans o
  have at_:∀v,0<=v->v<(n:Int)->∃i,i<n/\d.getD i 0=v:=λv m p=>by
   obtain⟨i,hi⟩:=bZ (L.all v m p);have b:i<n:=(by have:=(aw.mp hi).1;rw[L.len]at this;exact this);refine⟨i,b,?_⟩;have:=vB L b;rw[hi]at this;exact(bq this).symm
  intro v m A;obtain⟨i,hi,rfl⟩:=at_ v m A;obtain⟨j,x,s⟩:=at_ 0 (by lia) (by lia);refine(f i hi).mpr ((f j x).mp ?_);rw[s];exact s0
def ZF(c:hT)(a b:Int):Prop:=∃x∈c,(x.a=a/\x.b=b)\/(x.b=a/\x.a=b)
theorem ZF.symm{c:hT}{a b:Int}(h:ZF c a b):ZF c b a:=by
 obtain⟨x,d,h⟩:=h;rcases h with⟨h1,h2⟩|⟨h1,h2⟩
 .exact⟨x,d,.inr ⟨h2,h1⟩⟩
 .exact⟨x,d,.inl ⟨h2,h1⟩⟩
theorem FN{c:hT}{a b:Int}:b∈fM c a↔ZF c a b:=tE
theorem Good.ZG{m:Int}{c:hT}(g:Good m c){a b:Int}(h:ZF c a b):(0<=a/\a<m)/\(0<=b/\b<m)/\a≠b:=by
 obtain⟨x,d,h⟩:=h;have k:=g.ok x d;rcases h with⟨h1,h2⟩|⟨h1,h2⟩
 .subst h1 h2;exact⟨⟨k.a0,k.a1⟩,⟨k.b0,k.b1⟩,k.ne⟩
 .subst h1 h2;exact⟨⟨k.b0,k.b1⟩,⟨k.a0,k.a1⟩,k.ne.symm⟩
theorem Good.from{m:Int}{d:hT}(g:Good m d){r:Int}(f:0<=r)(e:r<m)(S:Int->Prop)(k:S r)(j:∀x∈d,(S x.a↔S x.b)):∀v,0<=v->v<m->S v:=by
 have c:∀v,0<=v->v<m->(S v↔S 0):=g.jn (λv=>S v↔S 0) Iff.rfl λx i=>by
  have:=j x i;exact⟨λh=>this.symm.trans h,λh=>this.trans h⟩
 intro v a b;exact(c v a b).mpr ((c r f e).mp k)
inductive Zj(rs:hT)(r:Int):Nat->Int->Prop
 | zero:Zj rs r 0 r
 | step {n:Nat} {u v:Int}:Zj rs r n u->ZF rs u v->Zj rs r (n+1) v
theorem Yu{P:Nat->Prop}:∀n,P n->∃k,P k/\∀j,j<k->¬P j:=by
 intro n
 induction n using Nat.strongRecOn with
 | ind n ih=>
   intro h;by_cases z:∃j,j<n/\P j
   .obtain⟨j,b,a⟩:=z;exact ih j b a
   .exact⟨n,h,λj b a=>z ⟨j,b,a⟩⟩
structure ε(m:Int)(rs:hT)(r:Int)(par:fc)(dep:fz):Prop where
 root:dep r=0
 up:∀v,0<=v->v<m->v≠r->(0<=par v/\par v<m)/\ZF rs v (par v)/\dep (par v)+1=dep v
 road:∀x∈rs,(x.a≠r/\par x.a=x.b)\/(x.b≠r/\par x.b=x.a)
 one:(rs.map λx=>if x.a≠r/\par x.a=x.b then x.a else x.b).Nodup
theorem T4{n:Nat}{l:List Nat}(b:l.Nodup)(d:l.length=n)(c:∀x∈l,x<n):∀i,i<n->i∈l:=by
 intro i a;by_cases z:i∈l
 .exact z
 .have:=qA (l:=i::l) (l':=List.range n) (aV.mpr ⟨z,b⟩) λx hx=>by
   rcases aD.mp hx with rfl|hx
   .exact cQ.mpr a
   .exact cQ.mpr (c x hx)
  rw[ba,cj]at this
  lia
theorem Ω{m:Int}{s:hT}(g:Good m s){r:Int}(V:0<=r)(h1:r<m):∃f o,ε m s r f o:=by
 classical
 have G:∀v,0<=v->v<m->∃n,Zj s r n v:=g.from V h1 (λv=>∃n,Zj s r n v) ⟨0,.zero⟩ λx hx=>by
  constructor
  .rintro⟨n,d⟩;exact⟨n+1,d.step ⟨x,hx,.inl ⟨rfl,rfl⟩⟩⟩
  .rintro⟨n,d⟩;exact⟨n+1,d.step ⟨x,hx,.inr ⟨rfl,rfl⟩⟩⟩
 have hd:∀v,∃k,(0<=v/\v<m)->Zj s r k v/\∀j,j<k->¬Zj s r j v:=λv=>by
  by_cases z:0<=v/\v<m
  .obtain⟨n,d⟩:=G v z.1 z.2;obtain⟨k,h⟩:=Yu (P:=λk=>Zj s r k v) n d;exact⟨k,λ_=>h⟩
  .exact⟨0,λh=>absurd h z⟩
 obtain⟨o,B⟩:∃o:Int->Nat,∀v,0<=v->v<m->Zj s r (o v) v/\∀j,j<o v->¬Zj s r j v:=⟨λv=>(hd v).choose,λv a b=>(hd v).choose_spec ⟨a,b⟩⟩;have dr:o r=0:=by
  have:=(B r V h1).2 0;by_cases z:o r=0
  .exact z
  .exact absurd Zj.zero (this (by lia))
 have hp:∀v,∃u,(0<=v/\v<m/\v≠r)->ZF s v u/\o u+1=o v:=λv=>by
  by_cases z:0<=v/\v<m/\v≠r
  .obtain⟨a,b,c⟩:=z;obtain⟨d,dm⟩:=B v a b;generalize hk:o v=k at d dm;cases d with
   | zero=>exact absurd rfl c
   | @step n u _ d e=>
     refine⟨u,λ_=>⟨e.symm,?_⟩⟩;obtain⟨⟨u0,u1⟩,_⟩:=g.ZG e;have l1:o u<=n:=by
      by_cases w:o u<=n
      .exact w
      .exact absurd d ((B u u0 u1).2 n (by lia))
     have l2:¬o u<n:=λw=>dm (o u+1) (by lia) ((B u u0 u1).1.step e)
     lia
  .exact⟨0,λh=>absurd h z⟩
 obtain⟨f,J⟩:∃f:Int->Int,∀v,0<=v->v<m->v≠r->ZF s v (f v)/\o (f v)+1=o v:=⟨λv=>(hp v).choose,λv a b c=>(hp v).choose_spec ⟨a,b,c⟩⟩;have hi:∀v,∃i:Nat,(0<=v/\v<m/\v≠r)->∃x,s[i]?=some x/\((x.a=v/\x.b=f v)\/(x.b=v/\x.a=f v)):=λv=>by
  by_cases z:0<=v/\v<m/\v≠r
  .obtain⟨x,hx,h⟩:=(J v z.1 z.2.1 z.2.2).1;obtain⟨i,e⟩:=bZ hx;exact⟨i,λ_=>⟨x,e,h⟩⟩
  .exact⟨0,λh=>absurd h z⟩
 obtain⟨A,C⟩:∃A:Int->Nat,∀v,0<=v->v<m->v≠r->∃x,s[A v]?=some x/\((x.a=v/\x.b=f v)\/(x.b=v/\x.a=f v)):=⟨λv=>(hi v).choose,λv a b c=>(hi v).choose_spec ⟨a,b,c⟩⟩;have Y:∀v u,0<=v->v<m->v≠r->0<=u->u<m->u≠r->A v=A u->v=u:=by
  intro v u a b c L M I e;obtain⟨x,hx,h⟩:=C v a b c;obtain⟨y,S,h'⟩:=C u L M I;rw[e,S]at hx;cases hx;have U:=(J v a b c).2;have R:=(J u L M I).2;rcases h with⟨p,q⟩|⟨p,q⟩<;>rcases h' with⟨p',q'⟩|⟨p',q'⟩
  .exact p.symm.trans p'
  .exfalso
   have F:v=f u:=p.symm.trans q';have N:u=f v:=p'.symm.trans q;rw[<-F]at R;rw[<-N]at U
   lia
  .exfalso
   have F:v=f u:=p.symm.trans q';have N:u=f v:=p'.symm.trans q;rw[<-F]at R;rw[<-N]at U
   lia
  .exact p.symm.trans p'
 let D:List Int:=(bG m.toNat).filter λv=>decide (v≠r)
 have K:∀v,v∈D↔(0<=v/\v<m/\v≠r):=λv=>by
  rw[bu,dX,bJ]
  constructor
  .rintro⟨⟨a,b⟩,c⟩;exact⟨a,by lia,c⟩
  .rintro⟨a,b,c⟩;exact⟨⟨a,by lia⟩,c⟩
 have nv:D.Nodup:=(hG _).filter _;have lv:D.length=s.length:=by
  have F:(r::D).length<=(bG m.toNat).length:=qA (aV.mpr ⟨λh=>((K r).mp h).2.2 rfl,nv⟩) λx hx=>by
   rcases aD.mp hx with rfl|hx
   .exact dX.mpr ⟨V,by lia⟩
   .have:=(K x).mp hx;exact dX.mpr ⟨this.1,by lia⟩
  have N:(bG m.toNat).length<=(r::D).length:=qA (hG _) λx hx=>by
   have:=dX.mp hx;by_cases z:x=r
   .rw[z];exact ax
   .exact aq _ ((K x).mpr ⟨this.1,by lia,z⟩)
  rw[bR,ba]at F N;have:=g.len;have:=g.m1
  lia
 have il:(D.map A).Nodup:=by
  have:∀(l:du),l.Nodup->(∀v∈l,0<=v/\v<m/\v≠r)->(l.map A).Nodup:=by
   intro l
   induction l with
   | nil=>intro _ _;simp
   | cons v l ih=>
     intro hn Z;obtain⟨n1,n2⟩:=aV.mp hn;rw[aF];refine aV.mpr ⟨λz=>?_,ih n2 λu T=>Z u (aq _ T)⟩;obtain⟨u,T,e⟩:=aR.mp z;obtain⟨a,b,c⟩:=Z v ax;obtain⟨L,M,I⟩:=Z u (aq _ T);exact n1 (Y u v L M I a b c e▸T)
  exact this D nv λv H=>(K v).mp H
 have ib:∀i∈D.map A,i<s.length:=λi t=>by
  obtain⟨v,H,rfl⟩:=aR.mp t;obtain⟨a,b,c⟩:=(K v).mp H;obtain⟨x,hx,_⟩:=C v a b c;exact(aw.mp hx).1
 have W:=T4 il (by rw[ag,lv]) ib;have E:∀i x,s[i]?=some x->∃v,(0<=v/\v<m/\v≠r)/\A v=i/\((x.a=v/\x.b=f v)\/(x.b=v/\x.a=f v)):=λi x e=>by
  obtain⟨v,H,rfl⟩:=aR.mp (W i (aw.mp e).1);obtain⟨a,b,c⟩:=(K v).mp H;obtain⟨y,S,h⟩:=C v a b c;rw[e]at S;cases S;exact⟨v,⟨a,b,c⟩,rfl,h⟩
 have X:∀v,0<=v->v<m->v≠r->f v≠r->f (f v)≠v:=λv a b c I z=>by
  have U:=J v a b c;obtain⟨_,⟨L,M⟩,_⟩:=g.ZG U.1;have R:=J (f v) L M I;rw[z]at R
  lia
 have Q:∀i x,s[i]?=some x->∃v,(0<=v/\v<m/\v≠r)/\A v=i/\(if x.a≠r/\f x.a=x.b then x.a else x.b)=v:=λi x e=>by
  obtain⟨v,⟨a,b,c⟩,H,h⟩:=E i x e;refine⟨v,⟨a,b,c⟩,H,?_⟩;rcases h with⟨p,q⟩|⟨p,q⟩
  .rw[aj ⟨by rw[p];exact c,by rw[p];exact q.symm⟩];exact p
  .rw[ah]
   .exact p
   .rintro⟨z1,z2⟩;rw[q]at z1 z2;exact X v a b c z1 (z2.trans p)
 refine⟨f,o,dr,λv a b c=>?_,λx hx=>?_,?_⟩
 .obtain⟨p,q⟩:=J v a b c;obtain⟨_,w,_⟩:=g.ZG p;exact⟨w,p,q⟩
 .obtain⟨i,e⟩:=bZ hx;obtain⟨v,⟨a,b,c⟩,_,h⟩:=E i x e;rcases h with⟨p,q⟩|⟨p,q⟩
  .exact .inl ⟨by rw[p];exact c,by rw[p];exact q.symm⟩
  .exact .inr ⟨by rw[p];exact c,by rw[p];exact q.symm⟩
 .refine ii.mpr λi j t O lt=>?_;rw[ag]at t O;rw[iX,iX];intro z;obtain⟨v,_,F,k1⟩:=Q i s[i] (aA t);obtain⟨u,_,N,k2⟩:=Q j s[j] (aA O);rw[k1,k2]at z;rw[z]at F
  lia
theorem La{m:Int}{k:hT}(g:Good m k){p:Int}(u:0<=p)(B:p<m):(fM k p).Nodup:=by
 obtain⟨f,C,R⟩:=Ω g u B;have one:=R.one;have ok:=g.ok;have road:=R.road;clear R g
 induction k with
 | nil=>simp[fM]
 | cons x l ih=>
   have o:=ok x ax;have s:∀y∈l,ZO m y:=λy hy=>ok y (aq _ hy);rw[aF]at one;obtain⟨r,A⟩:=aV.mp one;have n:=ih A s λy hy=>road y (aq _ hy);have e:fM (x::l) p=uc p x++fM l p:=by unfold fM;rw[bI]
   rw[e];have i:∀y,ZO m y->((y.a≠p/\f y.a=y.b)\/(y.b≠p/\f y.b=y.a))->(y.a=p->(if y.a≠p/\f y.a=y.b then y.a else y.b)=y.b)/\(y.b=p->(if y.a≠p/\f y.a=y.b then y.a else y.b)=y.a):=λy D hy=>by
    constructor
    .intro z;rw[ah (λw=>w.1 z)]
    .intro z;rcases hy with hy|hy
     .rw[aj hy]
     .exact absurd z hy.1
   have t:=i x o (road x ax);have j:∀e∈fM l p,e∈l.map λy=>if y.a≠p/\f y.a=y.b then y.a else y.b:=λe v=>by
    obtain⟨y,hy,h⟩:=tE.mp v;have q:=i y (s y hy) (road y (aq _ hy));refine aR.mpr ⟨y,hy,?_⟩;rcases h with⟨p1,q1⟩|⟨p1,q1⟩
    .rw[q.1 p1];exact q1
    .rw[q.2 p1];exact q1
   unfold uc;by_cases c:x.a=p
   .have d:¬x.b=p:=λz=>o.ne (c.trans z.symm);rw[aj c,ah d,b4];refine aV.mpr ⟨λz=>r ?_,n⟩;rw[t.1 c];exact j _ z
   .rw[ah c,fC];by_cases d:x.b=p
    .rw[aj d];refine aV.mpr ⟨λz=>r ?_,n⟩;rw[t.2 d];exact j _ z
    .rw[ah d];exact n
def ie(m:Int)(a:hT)(p:Int):List Int:=(bG m.toNat).filter λq=>decide (q∈fM a p)
theorem ED:∀{l c:du},l.Perm c->l.Pairwise (·<=·)->c.Pairwise (·<=·)->l=c
 | [],c,p,_,_=>(List.Perm.nil_eq p)
 | a::l,c,p,h,h'=>by
   cases c with
   | nil=>exact absurd p.symm.nil_eq (by simp)
   | cons b r=>
     obtain⟨g,i⟩:=List.pairwise_cons.mp h;obtain⟨d,f⟩:=List.pairwise_cons.mp h';have e:a=b:=by
      have j:a∈b::r:=p.subset ax;have k:b∈a::l:=p.symm.subset ax;rcases aD.mp j with z|z
      .exact z
      .rcases aD.mp k with w|w
       .exact w.symm
       .have:=g b w;have:=d a z
        lia
     subst e;rw[ED (List.Perm.cons_inv p) i f]
theorem G6(n:Nat):(bG n).Pairwise (·<=·):=by
 unfold bG;refine List.Pairwise.map _ (λa b (h:a<b)=>?_) List.pairwise_lt_range
 lia
theorem IW(m:Int)(a:hT)(p:Int):(ie m a p).Pairwise (·<=·):=(G6 _).filter _
theorem r6(m:Int)(a:hT)(p:Int):(ie m a p).Nodup:=(hG _).filter _
theorem ij{m:Int}{c:hT}(g:Good m c){p q:Int}:q∈ie m c p↔ZF c p q:=by
 unfold ie;rw[bu,bJ,FN,dX]
 constructor
 .exact λh=>h.2
 .intro h;obtain⟨_,⟨a,b⟩,_⟩:=g.ZG h;exact⟨⟨a,by lia⟩,h⟩
theorem hW:∀{l c:du},l.Nodup->c.Nodup->(∀x,x∈l↔x∈c)->l.Perm c
 | [],c,_,_,h=>by
   cases c with
   | nil=>exact .nil
   | cons b r=>exact absurd ((h b).mpr ax) (by simp)
 | a::l,c,n,n',h=>by
   obtain⟨d,f⟩:=aV.mp n;have e:a∈c:=(h a).mp ax;refine List.Perm.trans (List.Perm.cons a ?_) (List.perm_cons_erase e).symm;refine hW f (n'.erase a) λx=>?_
   constructor
   .intro hx;have ne:x≠a:=λz=>d (z▸hx);exact(mj ne).mpr ((h x).mp (aq _ hx))
   .intro hx;have:x≠a:=λz=>by
     subst z;exact(List.Nodup.not_mem_erase n') hx
    rcases aD.mp ((h x).mpr (List.mem_of_mem_erase hx))with z|z
    .exact absurd z this
    .exact z
theorem Ui{m:Int}{a:hT}(g:Good m a){p:Int}(f:0<=p)(d:p<m){b:du}(e:b.Perm (fM a p))(c:b.Pairwise (·<=·)):b=ie m a p:=by
 refine ED (e.trans (hW (La g f d) (r6 m a p) λx=>?_)) c (IW m a p);rw[ij g,FN]
def kK(a b:Int)(x:Road):Option Int:=if x.a=a/\x.b=b then some x.t else if x.a=b/\x.b=a then some x.u else none
def ci(c:hT)(a b:Int):Option Int:=c.findSome? (kK a b)
theorem HB{e:hT}{a b:Int}:(ci e a b).isSome=true↔ZF e a b:=by
 unfold ci;rw[List.findSome?_isSome_iff]
 constructor
 .rintro⟨x,hx,h⟩;unfold kK at h;by_cases c:x.a=a/\x.b=b
  .exact⟨x,hx,.inl c⟩
  .rw[ah c]at h;by_cases d:x.a=b/\x.b=a
   .exact⟨x,hx,.inr ⟨d.2,d.1⟩⟩
   .rw[ah d]at h;cases h
 .rintro⟨x,hx,h⟩;refine⟨x,hx,?_⟩;unfold kK;rcases h with h|h
  .rw[aj h];rfl
  .by_cases c:x.a=a/\x.b=b
   .rw[aj c];rfl
   .rw[ah c,aj ⟨h.2,h.1⟩];rfl
def tI(x:Road)(a b:Int):Prop:=(x.a=a/\x.b=b)\/(x.b=a/\x.a=b)
theorem Na{m:Int}{d:hT}(g:Good m d){a b:Int}{i j:Nat}{x y:Road}(o:d[i]?=some x)(v:d[j]?=some y)(n:tI x a b)(A:tI y a b):i=j:=by
 obtain⟨⟨t,s⟩,_,_⟩:=g.ZG (show ZF d a b from⟨x,aX o,n⟩);obtain⟨c,D,R⟩:=Ω g t s;have e:∀z∈d,tI z a b->(if z.a≠a/\c z.a=z.b then z.a else z.b)=b:=λz E B=>by
  rcases B with⟨p,q⟩|⟨p,q⟩
  .rw[ah (λw=>w.1 p)];exact q
  .rcases R.road z E with w|w
   .rw[aj w];exact q
   .exact absurd p w.1
 have f:=(aw.mp o);have h:=(aw.mp v);obtain⟨f,C⟩:=f;obtain⟨h,u⟩:=h;have k:=ii.mp R.one;have l:(d.map λz=>if z.a≠a/\c z.a=z.b then z.a else z.b)[i]'(by rw[ag];exact f)=b:=by
  rw[iX];exact e _ (cZ f) (C▸n)
 have r:(d.map λz=>if z.a≠a/\c z.a=z.b then z.a else z.b)[j]'(by rw[ag];exact h)=b:=by
  rw[iX];exact e _ (cZ h) (u▸A)
 rcases Nat.lt_trichotomy i j with z|z|z
 .exact absurd (l.trans r.symm) (k i j _ _ z)
 .exact z
 .exact absurd (r.trans l.symm) (k j i _ _ z)
theorem KS{a b:Int}{x:Road}(h:¬tI x a b):kK a b x=none:=by
 unfold kK;rw[ah (λz=>h (.inl z)),ah (λz=>h (.inr ⟨z.2,z.1⟩))]
theorem rf{m:Int}{d:hT}(g:Good m d){a b:Int}{i:Nat}{x:Road}(l:d[i]?=some x)(j:tI x a b):ci d a b=kK a b x:=by
 have lt:=(aw.mp l);obtain⟨lt,p⟩:=lt;have e:d=d.take i++x::d.drop (i+1):=by rw[<-p,lK,dN]
 have f:ci (d.take i) a b=none:=by
  unfold ci;rw[List.findSome?_eq_none_iff];intro y s;refine KS λq=>?_;obtain⟨k,h⟩:=bZ s;have o:=(aw.mp h).1;rw[bA]at o;rw[iE (by lia)]at h;have:=Na g h l q j
  lia
 have n:(kK a b x).isSome=true:=by
  unfold kK;rcases j with z|z
  .rw[aj z];rfl
  .by_cases c:x.a=a/\x.b=b
   .rw[aj c];rfl
   .rw[ah c,aj ⟨z.2,z.1⟩];rfl
 obtain⟨v,r⟩:=gi.mp n;have:ci (d.take i++x::d.drop (i+1)) a b=kK a b x:=by
  unfold ci at f ⊢;rw[ju,f,j4,r]
  rfl
 rw[<-e]at this;exact this
theorem D5{c:hT}{a b:Int}(h:¬ZF c a b):ci c a b=none:=by
 cases q:ci c a b with
 | none=>rfl
 | some v=>exact absurd (HB.mp (by rw[q];rfl)) h
def rw_(a:du)(v:Int):Int:=a.getD v.toNat 0
section
variable{m:Int}{a:du}{c b:hT}
theorem X4(L:Ε m.toNat a){v:Int}(e:0<=v)(d:v<m):0<=rw_ a v/\rw_ a v<m:=by
 have:=L.Δ _ (sD L (show v.toNat<m.toNat by lia));unfold rw_
 lia
theorem Xd(L:Ε m.toNat a){v u:Int}(g:0<=v)(d:v<m)(h:0<=u)(f:u<m)(e:rw_ a v=rw_ a u):v=u:=by
 have:=AF L (show v.toNat<m.toNat by lia) (show u.toNat<m.toNat by lia) e
 lia
theorem U5(L:Ε m.toNat a){v:Int}(f:0<=v)(g:v<m):∃u,0<=u/\u<m/\rw_ a u=v:=by
 obtain⟨i,e⟩:=bZ (L.all v f (by lia));have d:i<m.toNat:=by have:=(aw.mp e).1;rw[L.len]at this;exact this
 refine⟨i,by lia,by lia,?_⟩;unfold rw_;have:=vB L d;rw[e]at this;rw[cu];exact(bq this).symm
end
end Pb
namespace L2
open PySem PySem.Spec PyProof.Rows
def bU(b:ZL):Prop:=∀a H s e c,¬b a H s E0 e c
theorem gU{a:ZL}(q:bU a){X:Cx}:qV a X E0:=λ_ _ _ _ _ _ _ h=>(q _ _ _ _ _ h).elim
structure Df(K:gx)(mg:hL)(x:Str)(st:Stmt)(ps:hO)(f:Addr)(fd:FuncData):Prop where
 F:Fun K x x st f fd
 m:mg x=some (.ref f)
 b:Binds K fd ps []
section
variable{P:Program}{w:World}{K:gx}{c:hL}{a:Heap}{b:ZL}
theorem Fun.ϓ{x e:Str}{st:Stmt}{f:Addr}{p:FuncData}{N o:hO}{k:Nat}{m:Sp}(F:Fun K x e st f p)(S:η N o (aB st))(j:∀g H Q E,m g H Q E->g.length=o.length)(y:∀(i:Value) (A:Around) (d:List Env) (s:Shared) (H:Hp) (g:List V) (Q:VK) (E:XK),ύ k (A.deeper (envOfC e (aB st) s.heap.objs.size f i))->m g H Q E->∃t,PSs (rE b P w K c a N e (aB st) f i A d s H E).nox (iq st) t/\t { nx:=λ_ B=>Q .ς B,rt:=Q } (start N g) H):Ψ P w K c a b (k+1) f p o m:=by
 obtain⟨J,C,kV,r,D,I,i,G,v,rfl,u,n⟩:=F.ex;refine TL u n S j λA d s H g Q E z l=>?_;obtain⟨t,h,q⟩:=y i A d s H g Q E z l;exact⟨t,h.nox,q⟩
end
structure NmL(sc:Scope)(x:Str):Prop where
 l:sc.names.lookup x=some .local
 d:(x==("__debug__":Str))=false
 c:(x==("__classdict__":Str))=false
structure NmC(sc:Scope)(x:Str):Prop where
 l:sc.names.lookup x=some .cell
 d:(x==("__debug__":Str))=false
 c:(x==("__classdict__":Str))=false
structure ϛ(sc:Scope)(x:Str):Prop where
 g:sc.names.lookup x=some .globalImplicit
 d:(x==("__debug__":Str))=false
 n:x≠"__name__"
theorem us1{a:hH}(h:a.length=1):∃b,a=[b]:=List.length_eq_one_iff.mp h
theorem us2{a:hH}(h:a.length=2):∃c b,a=[c,b]:=by
 cases a with
 | nil=>cases h
 | cons c t=>
   obtain⟨b,e⟩:=us1 (mZ h);subst e;exact⟨c,b,rfl⟩
theorem us3{a:hH}(h:a.length=3):∃c b d,a=[c,b,d]:=by
 cases a with
 | nil=>cases h
 | cons c t=>
   obtain⟨b,d,e⟩:=us2 (mZ h);subst e;exact⟨c,b,d,rfl⟩
theorem us4{a:hH}(h:a.length=4):∃c b d f,a=[c,b,d,f]:=by
 cases a with
 | nil=>cases h
 | cons c t=>
   obtain⟨b,d,f,e⟩:=us3 (mZ h);subst e;exact⟨c,b,d,f,rfl⟩
def nmL(a:Scope)(x:Str):Bool:=decide (a.names.lookup x=some .local)&&!(x==("__debug__":Str))&&!(x==("__classdict__":Str))
def nmC(a:Scope)(x:Str):Bool:=decide (a.names.lookup x=some .cell)&&!(x==("__debug__":Str))&&!(x==("__classdict__":Str))
def nmG(a:Scope)(x:Str):Bool:=decide (a.names.lookup x=some .globalImplicit)&&!(x==("__debug__":Str))&&!decide (x="__name__")
theorem NmL.of{a:Scope}{x:Str}(h:nmL a x=true):NmL a x:=by
 unfold nmL at h;simp only[bD,bJ,fZ]at h;exact⟨h.1.1,h.1.2,h.2⟩
theorem NmC.of{a:Scope}{x:Str}(h:nmC a x=true):NmC a x:=by
 unfold nmC at h;simp only[bD,bJ,fZ]at h;exact⟨h.1.1,h.1.2,h.2⟩
theorem ϛ.of{a:Scope}{x:Str}(h:nmG a x=true):ϛ a x:=by
 unfold nmG at h;simp only[bD,bJ,fZ,decide_eq_false_iff_not]at h;exact⟨h.1.1,h.1.2,h.2⟩
def Wn(N b:hO)(a:Scope):Bool:=decide (a.kind=.function)&&!a.isCoroutine&&!a.isGenerator&&decide N.Nodup&&decide (N.take b.length=b)&&(b.all λx=>decide (a.names.lookup x=some .local\/a.names.lookup x=some .cell))&&(a.names.all λy=>decide (y.2≠.free))
theorem η.of{N a:hO}{b:Scope}(h:Wn N a b=true:=by kernel_rfl):η N a b:=by
 unfold Wn at h;simp only[bD,bJ,fZ,gm]at h;obtain⟨⟨⟨⟨⟨⟨c,e⟩,d⟩,g⟩,j⟩,i⟩,f⟩:=h;exact⟨c,e,d,g,j,i,f⟩
theorem pvl{X:Cx}(i:Nat){x:Str}{a:Pos}(n:NmL X.env.scope x)(b:X.N[i]?=some x:=by rfl):PE X (.Name x a) (xK i):=FU b (.inl n.l) n.d n.c
theorem pvc{X:Cx}(i:Nat){x:Str}{a:Pos}(n:NmC X.env.scope x)(b:X.N[i]?=some x:=by rfl):PE X (.Name x a) (xK i):=FU b (.inr (.inl n.l)) n.d n.c
theorem MO{e:ZL}{P:Program}{w:World}{K:gx}{g:hL}{d:Heap}{N:hO}{c:Str}{a:Scope}{f:Addr}{h:Value}{A:Around}{b:List Env}{s:Shared}{H:Hp}{E:XK}:(rE e P w K g d N c a f h A b s H E).K=K:=rfl
theorem Eo(D:Ends)(a:St)(H:Hp):abA D a H=False:=rfl
theorem UF(i j:Int):uD (.int i) (.int j)=true:=rfl
theorem Ug(i j:Bool):uD (.bl i) (.bl j)=true:=rfl
theorem TV(i:Int):uD (.int i) .ς=true:=rfl
theorem U8(i:Int):uD .ς (.int i)=true:=rfl
theorem UQ:uD .ς .ς=true:=rfl
theorem TY(i j:Str):uD (.str i) (.str j)=true:=rfl
theorem ixT{K:gx}{H:Hp}{p:Addr}{a:List V}{i:Int}{v:V}{Q:VK}(h:H p=some (.tup a))(e:gT a i=some v)(q:Q v H):MC K (.ref p) (.int i) H Q:=⟨p,a,i,v,rfl,rfl,Κ.of h,e,q⟩
theorem Χ{K:gx}{H:Hp}{p:Addr}{a:List V}{i:Int}{v:V}{Q:VK}(h:H p=some (.lst a))(e:gT a i=some v)(q:Q v H):GR K (.ref p) (.int i) H Q:=⟨p,a,i,v,rfl,rfl,ν.of h,e,q⟩
theorem ixS{K:gx}{H:Hp}{p:Addr}{a:List V}{i:Int}{v:V}{Q:VK}(h:ν K H p a)(e:gT a i=some v)(q:Q v H):GR K (.ref p) (.int i) H Q:=⟨p,a,i,v,rfl,rfl,h,e,q⟩
theorem Z0{K:gx}{H:Hp}{l:Addr}{a:List V}(h:H l=some (.lst a)):tyV K "list" (.ref l) H:=.inl ⟨rfl,_,ν.of h⟩
theorem uj{H:Hp}{l:Addr}{a:List V}{y:V}{Q:VK}(h:H l=some (.lst a))(b:a.length<sizeLine)(q:Q .ς (upd H l (.lst (a++[y])))):iD (.ref l) [y] H Q:=⟨l,a,y,rfl,rfl,h,b,q⟩
theorem XA{H:Hp}{l:Addr}{a:List V}{i:Int}{y:V}{Q:VK}(h:H l=some (.lst a))(c:0<=i)(b:i<=a.length)(d:a.length<sizeLine)(q:Q .ς (upd H l (.lst (a.take i.toNat++y::a.drop i.toNat)))):Ze (.ref l) [.int i,y] H Q:=⟨l,a,i,y,rfl,rfl,h,c,b,d,q⟩
theorem Sq{H:Hp}{l:Addr}{a:List V}{y:V}{Q:VK}(h:H l=some (.lst (a++[y])))(q:Q y (upd H l (.lst a))):afJ (.ref l) [] H Q:=⟨l,a++[y],y,rfl,rfl,h,by simp,by rw[List.dropLast_concat];exact q⟩
theorem eW{n:Nat}(h:n<=100000):n<sizeLine:=bK h (by decide)
theorem dL{n:Nat}(h:n<=100000):n<=sizeLine:=jd (eW h)
theorem gn{a:Type}{b:List a}{i:Int}{v:a}(c:0<=i)(h:b[i.toNat]?=some v):gT b i=some v:=by
 obtain⟨n,rfl⟩:∃n:Nat,i=n:=⟨i.toNat,by lia⟩;exact Vb (by simpa using h)
theorem Ag{X:Cx}{x:Str}{i:Int}{a:Pos}(b:Gl X x)(c:∃t,X.mg x=some (.int i t))(hd:(x==("__debug__":Str))=false:=by decide):PE X (.Name x a) (tC (.int i)):=by
 obtain⟨t,e⟩:=c;exact JQ b e ⟨t,rfl⟩ hd
def Itx(K:gx):Bool->Addr->It
 | true,a=>Itl K a
 | false,a=>Itt K a
def QE(K:gx)(c:Bool)(e:TE):TI:=λd H R=>e d H λx b=>∃a,x=.ref a/\(∃f,ϑ K c b a f)/\R (Itx K c a) b
theorem u8{X:Cx}{d l:Expr}{a:TE}(c:Bool)(b:PE X l a):PI X d l (QE X.K c a):=by
 cases c
 .exact xg b
 .exact jM b
theorem Vd{K:gx}{c:Bool}{a:Addr}{j:List V}{g:TG}{r:TS}{D:Ends}{b:St}{H:Hp}(d:Nat->St->Hp->Prop)(l:d 0 b H)(p:∀i b H,i<=j.length->d i b H->ϑ K c H a j)(q:∀i x b H,j[i]?=some x->d i b H->g x b H λe k=>r { D with nx:=d (i+1),ct:=d (i+1),bk:=D.nx } e k)(o:∀b H,d j.length b H->D.nx b H):∃W:Nat->Nat->St->Hp->Prop,(∃m,W 0 m b H)/\∀i m b H,W i m b H->((Itx K c a).stop i H/\D.nx b H)\/((Itx K c a).go i H/\∃N:St->Hp->Prop,(∀f h,N f h->∃n,n<m/\W (i+1) n f h)/\∀x h,(Itx K c a).yld i H x h->g x b h λe k=>r { D with nx:=N,ct:=N,bk:=D.nx } e k):=by
 cases c
 .exact yB d l p q o
 .exact Gv d l p q o
def uH(J:It)(p:Addr)(Q:VK)(g:TG)(o:TT)(r:TE)(h:St)(q:Hp):Prop:=∃W:Nat->Nat->List V->St->Hp->Prop,(∃m,W 0 m [] h q)/\∀i m c f d,W i m c f d->(J.stop i d/\Q (.ref p) d)\/(J.go i d/\∀x l,J.yld i d x l->g x f l λa n=>o a n λb k=>
 if b=true then r a k λy j=>j p=some (.lst c)/\c.length<sizeLine/\∃e,e<m/\W (i+1) e (c++[y]) a (upd j p (.lst (c++[y])))
 else ∃e,e<m/\W (i+1) e c a k)
theorem Ej{a:Nat}{f:List Nat}{h:TI}{g:TG}{e:TT}{d:TE}{b:St}{H:Hp}{Q:VK}:L7 a f h g e d b H Q=h b H λJ c=>∀p,c p=none->uH J p Q g e d (mJ a f b) (upd c p (.lst [])):=rfl
def rX(J:It)(D:Ends)(g:TG)(h:TS)(a:St)(H:Hp):Prop:=∃W:Nat->Nat->St->Hp->Prop,(∃m,W 0 m a H)/\∀i m a H,W i m a H->(J.stop i H/\D.nx a H)\/(J.go i H/\∃N:St->Hp->Prop,(∀c b,N c b->∃e,e<m/\W (i+1) e c b)/\∀x b,J.yld i H x b->g x a b λd f=>h { D with nx:=N,ct:=N,bk:=D.nx } d f)
theorem Ka{b:TI}{g:TG}{c:TS}{D:Ends}{a:St}{H:Hp}:VP b g c D a H=b a H λJ d=>rX J D g c a d:=rfl
theorem nS{K:gx}{c:Bool}{a p:Addr}{xs:List V}{Q:VK}{g:TG}{w:TT}{A:TE}{o:St}{z:Hp}(k:Nat->List V->St->Hp->Prop)(B:k 0 [] o z)(E:∀i d f H,i<=xs.length->k i d f H->ϑ K c H a xs)(F:∀(i:Nat) (x:V) (d:List V) (f:St) (H:Hp) (N:List V->St->Hp->Prop),(∀n h l,k (i+1) n h l->N n h l)->xs[i]?=some x->k i d f H->g x f H λj G=>w j G λb v=>
 if b=true then A j v λy u=>u p=some (.lst d)/\d.length<sizeLine/\N (d++[y]) j (upd u p (.lst (d++[y])))else N d j v)(D:∀d f H,k xs.length d f H->Q (.ref p) H):uH (Itx K c a) p Q g w A o z:=by
 refine⟨λi m d f H=>m=xs.length-i/\i<=xs.length/\k i d f H,⟨xs.length,by simp,b7 _,B⟩,?_⟩;rintro i m d f H ⟨rfl,I,pv⟩;have q:=E i d f H I pv;by_cases s:i<xs.length
 .refine .inr ⟨?_,λx l y=>?_⟩
  .cases c
   .exact⟨xs,xs[i],q,by simp[s]⟩
   .exact⟨xs,xs[i],q,by simp[s]⟩
  .have e:l=H/\xs[i]?=some x:=by
    cases c
    .exact⟨y.1,y.2 xs q⟩
    .exact⟨y.1,y.2 xs q⟩
   obtain⟨rfl,C⟩:=e;exact F i x d f _ (λn h l=>∃t,t<xs.length-i/\(t=xs.length-(i+1)/\i+1<=xs.length/\k (i+1) n h l)) (λn h l r=>⟨xs.length-(i+1),by lia,rfl,s,r⟩) C pv
 .have e:i=xs.length:=by lia
  subst e;refine .inl ⟨?_,D d f H pv⟩;cases c
  .exact⟨xs,q,aJ _⟩
  .exact⟨xs,q,aJ _⟩
theorem lm{lo:Int}{n:Nat}{p:Addr}{Q:VK}{g:TG}{u:TT}{w:TE}{l:St}{v:Hp}(h:Nat->List V->St->Hp->Prop)(z:h 0 [] l v)(B:∀(i:Nat) (a:List V) (d:St) (H:Hp) (N:List V->St->Hp->Prop),(∀k c j,h (i+1) k c j->N k c j)->i<n->h i a d H->g (.int (lo+i)) d H λf C=>u f C λb t=>
 if b=true then w f t λy s=>s p=some (.lst a)/\a.length<sizeLine/\N (a++[y]) f (upd s p (.lst (a++[y])))else N a f t)(A:∀a d H,h n a d H->Q (.ref p) H):uH (Itr lo n) p Q g u w l v:=by
 refine⟨λi m a d H=>m=n-i/\i<=n/\h i a d H,⟨n,by simp,b7 _,z⟩,?_⟩;rintro i m a d H ⟨rfl,D,pv⟩;by_cases q:i<n
 .refine .inr ⟨q,λx j y=>?_⟩;obtain⟨rfl,rfl⟩:=y;exact B i a d _ (λk c j=>∃r,r<n-i/\(r=n-(i+1)/\i+1<=n/\h (i+1) k c j)) (λk c j o=>⟨n-(i+1),by lia,rfl,q,o⟩) q pv
 .have e:i=n:=by lia
  subst e;exact .inl ⟨aJ _,A a d H pv⟩
theorem O1:bootBuiltins "tuple"=some (.type "tuple"):=by decide +kernel
section
variable{X:Cx}{a b o e:Expr}{q:List Expr}{n m i:TE}{t:TA}{g d j:Pos}{f c:Str}{T k:String}{r:V->List V->Hp->VK->Prop}
theorem DJ(K:gx)(h:X.K=K):nz X (.type "tuple") (λu H Q=>∃p s,u=[.ref p]/\((ν K H p s/\∀l,H l=none->Q (.ref l) (upd H l (.tup s)))\/(Κ K H p s/\Q (.ref p) H))):=by subst h;exact mO
theorem nJ(K:gx)(h:X.K=K):IxR X (GR K):=by subst h;exact cf
theorem pH(K:gx)(h:X.K=K):IxR X (MC K):=by subst h;exact jT
end
theorem BX{x:Str}{k:NameKind}:∀{l:List (Str×NameKind)},l.lookup x=some k->∃y,(y,k)∈l
 | [],h=>by simp at h
 | (n,j)::r,h=>by
   rw[cL]at h;cases q:x==n with
   | true=>
     rw[q]at h;cases h;exact⟨n,ax⟩
   | false=>
     rw[q]at h;obtain⟨y,a⟩:=BX h;exact⟨y,aq _ a⟩
theorem vX{X:Cx}{Nc:hO}{a:Scope}(own:Nat)(hf:∀y∈a.names,y.2≠.free)(hc:∀y∈a.names,y.2≠.cell)(hk:a.kind=.function)(hn:∀y∈a.names,y.2=.local->a.names.lookup y.1=some .local)(l:Nc.length=own):Ϧ X Nc own [] a [] where
 aei:=closureFor_none hf
 kind:=hk
 aaz:=hc
 names:=hn
 cells:=λx c h=>by cases h
 has:=λx h=>by
  have b:∀k,(relabel a X.env).names.lookup x=some k->k≠.cell/\k≠.free:=λk e=>by
   obtain⟨y,o⟩:=BX e;obtain⟨⟨n,k0⟩,f,g⟩:=aR.mp o;have d:=hf _ f;have m:=hc _ f;have j:(k0==NameKind.free)=false:=(by simpa using d);simp only[j,kJ,de,if_false]at g;cases g;exact⟨m,d⟩
  rcases h with h|h
  .exact absurd rfl (b _ h).1
  .exact absurd rfl (b _ h).2
 len:=by simpa using l
 outer:=λi x h=>by
  rw[bn (by lia)]at h;cases h
theorem S0{K:gx}{c:Bool}{a:Addr}{xs:List V}{g:TG}{j:TS}{D:Ends}{b:St}{H:Hp}(d:Nat->St->Hp->Prop)(k:d 0 b H)(n:∀i b H,i<=xs.length->d i b H->ϑ K c H a xs)(o:∀(i:Nat) (x:V) (b:St) (H:Hp) (N:St->Hp->Prop),(∀e h,d (i+1) e h->N e h)->xs[i]?=some x->d i b H->g x b H λf q=>j { D with nx:=N,ct:=N,bk:=D.nx } f q)(m:∀b H,d xs.length b H->D.nx b H):rX (Itx K c a) D g j b H:=Vd d k n (λi x b H l p=>o i x b H (d (i+1)) (λ_ _ z=>z) l p) m
theorem yo{K:gx}{a:Addr}{xs:List V}{g:TG}{h:TS}{D:Ends}{b:St}{H:Hp}(c:Nat->St->Hp->Prop)(j:c 0 b H)(m:∀i b H,i<=xs.length->c i b H->ν K H a xs)(n:∀(i:Nat) (x:V) (b:St) (H:Hp) (N:St->Hp->Prop),(∀d f,c (i+1) d f->N d f)->xs[i]?=some x->c i b H->g x b H λe o=>h { D with nx:=N,ct:=N,bk:=D.nx } e o)(l:∀b H,c xs.length b H->D.nx b H):rX (Itl K a) D g h b H:=Gv c j m (λi x b H k p=>n i x b H (c (i+1)) (λ_ _ z=>z) k p) l
theorem GU{K:gx}{a:Addr}{xs:List V}{g:TG}{h:TS}{D:Ends}{b:St}{H:Hp}(c:Nat->St->Hp->Prop)(j:c 0 b H)(m:∀i b H,i<=xs.length->c i b H->Κ K H a xs)(n:∀(i:Nat) (x:V) (b:St) (H:Hp) (N:St->Hp->Prop),(∀d f,c (i+1) d f->N d f)->xs[i]?=some x->c i b H->g x b H λe o=>h { D with nx:=N,ct:=N,bk:=D.nx } e o)(l:∀b H,c xs.length b H->D.nx b H):rX (Itt K a) D g h b H:=yB c j m (λi x b H k p=>n i x b H (c (i+1)) (λ_ _ z=>z) k p) l
theorem qj{lo:Int}{n:Nat}{g:TG}{f:TS}{D:Ends}{a:St}{H:Hp}(b:Nat->St->Hp->Prop)(h:b 0 a H)(k:∀(i:Nat) (a:St) (H:Hp) (N:St->Hp->Prop),(∀c e,b (i+1) c e->N c e)->i<n->b i a H->g (.int (lo+i)) a H λd l=>f { D with nx:=N,ct:=N,bk:=D.nx } d l)(j:∀a H,b n a H->D.nx a H):rX (Itr lo n) D g f a H:=OI b h (λi a H m p=>k i a H (b (i+1)) (λ_ _ z=>z) m p) j
theorem C6{c:TT}{j:TS}{D:Ends}{e:St}{H:Hp}(W:Nat->St->Hp->Prop)(i:Nat)(k:W i e H)(o:∀(n:Nat) (e:St) (H:Hp) (N:St->Hp->Prop),(∀g a d,g<n->W g a d->N a d)->(∀a d,N a d->∃f,f<n/\W f a d)->W n e H->c e H λb h=>if b=true then ∃N:St->Hp->Prop,(∀a d,N a d->∃f,f<n/\W f a d)/\j { D with nx:=N,ct:=N,bk:=D.nx } e h else D.nx e h):GK c j D e H:=⟨W,⟨i,k⟩,λn e H w=>o n e H (λa d=>∃f,f<n/\W f a d) (λg _ _ l m=>⟨g,l,m⟩) (λ_ _ z=>z) w⟩
theorem p60:(0:Int)<10^(60:Int).toNat:=oM (by decide)
theorem yJ{a:Int}{n:Nat}(h:a.natAbs<2^n):Builtin.Int.intBits a<=n:=by
 unfold Builtin.Int.intBits;by_cases z:a=0
 .subst z;simp
 .have hz:(a==0)=false:=by simpa using z
  rw[hz];simp only[de,if_false];have:=(nP (by lia)).mpr h
  lia
theorem BH{a b:Int}(c:a.natAbs<2^4000)(d:b.natAbs<2^4000):IntMulOk a b:=IntMulOk.of_bits (bw (yJ c) (by decide)) (bw (yJ d) (by decide))
theorem AN{a b:Int}{n:Nat}(c:a.natAbs<2^n)(d:b.natAbs<2^n):(a+b).natAbs<2^(n+1):=by
 have:=Int.natAbs_add_le a b;rw[i9]
 lia
theorem qJ{a b:Int}{m n:Nat}(c:a.natAbs<2^m)(d:b.natAbs<2^n):(a*b).natAbs<2^(m+n):=by
 rw[iK,nW];exact Nat.mul_lt_mul'' c d
theorem oF{a:Int}{m n:Nat}(h:a.natAbs<2^m)(b:m<=n):a.natAbs<2^n:=aP h (cN (by decide) b)
open Pb
def lL(r:Road):List V:=[.int r.a,.int r.b,.int r.t,.int r.u]
abbrev ξ(H:Hp):List Addr->List Road->Prop:=Paired λp r=>H p=some (.tup (lL r))
theorem ξ.same{H b:Hp}(e:δ H b){c:g9}{a:hT}(h:ξ H c a):ξ b c a:=Paired.imp' (λp r q=>e p _ q) h
theorem ξ.get{H:Hp}:∀{c:g9}{d:hT}{i:Nat}{x:V},ξ H c d->(c.map V.ref)[i]?=some x->∃p r,x=.ref p/\c[i]?=some p/\d[i]?=some r/\H p=some (.tup (lL r))
 | _,_,i,x,.nil,e=>by simp at e
 | _,_,0,x,.cons (a:=p) (b:=r) h hs,e=>⟨p,r,by simpa using e.symm,by simp,by simp,h⟩
 | a::l1,_,i+1,x,.cons h hs,e=>by
   have g:(List.map V.ref l1)[i]?=some x:=by simpa using e
   obtain⟨p,r,f,k,j,l⟩:=ξ.get hs g;exact⟨p,r,f,by simpa using k,by simpa using j,l⟩
theorem δ.tup{K:gx}{H b:Hp}{a:Addr}{xs:List V}(e:δ H b)(h:Κ K H a xs):Κ K b a xs:=by
 rcases h with(h|⟨o,h⟩)|h
 .exact .inl (.inl (e _ _ h))
 .exact .inl (.inr ⟨o,e _ _ h⟩)
 .exact .inr h
theorem δ.Ac{K:gx}{H b:Hp}{c:Bool}{a:Addr}{d:List V}(e:δ H b)(h:ϑ K c H a d):ϑ K c b a d:=by
 cases c
 .exact δ.tup e h
 .exact δ.seq e h
theorem δ.new{H:Hp}{p:Addr}(o:HO)(h:H p=none):δ H (upd H p o):=λb u e=>by rw[aL (cJ e h)];exact e
end L2
namespace L2
open PySem PySem.Spec PyProof.Rows
abbrev bmV:List Value:=[.type "ValueError",.type "Exception",.type "BaseException",.type "object"]
structure aeq(K:gx)(C:Addr):Prop where
 ty:PySem.W.typeIn K (.ref C)=some (.type "type")
 ga:PySem.W.findIn K (.ref C) "__getattribute__"=some (some (.builtin "BaseException.__getattribute__"))
 gt:PySem.W.findIn K (.ref C) "__getattr__"=some none
 cl:PySem.W.findIn K (.ref C) "__class__"=some (some (.builtin "object.__class__"))
 gs:PySem.W.specialIn K (.builtin "object.__class__") "__get__"=some (some (.builtin "getset_descriptor.__get__"))
 tk:PySem.W.takesIn K (.builtin "object.__class__")=some true
 mo:PySem.W.mroIn K C (.type "object")=some true
 mb:PySem.W.mroIn K C (.type "BaseException")=some true
 hd:PySem.W.hasDictIn K C=true
 sf:PySem.W.mroIn K C (.ref C)=some true
def qc(h:Heap)(e:Addr)(cls:Value)(d:Option Addr)(a:Value):Prop:=∃b c,h.get? e=some b/\b.cls=cls/\b.dict=d/\b.data=.fields c/\c[1]?=some a/\c[2]?=some .none
def TbO(h:Heap)(T:Addr)(c:Value):Prop:=∃b a,h.get? T=some b/\b.data=.fields a/\a[3]?=some c
structure Err(h:Heap)(ea T:Addr)(cls:Value)(od:Option Addr)(fl:Value):Prop where
 e:qc h ea cls od (.ref T)
 t:TbO h T fl
 ne:T≠ea
structure Kept(fs xs:g9)(h h':Heap):Prop where
 keep:∀b o,h.get? b=some o->b∉fs->b∉xs->h'.get? b=some o
 slot:∀b o,h.get? b=some o->b∈fs->b∉xs->∃sl,h'.get? b=some { o with slots:=sl }
 there:∀b o,h.get? b=some o->∃o',h'.get? b=some o'
theorem Kept.mono{a c d:g9}{h g:Heap}(k:Kept a c h g)(s:∀b∈c,b∈d):Kept a d h g:=⟨λb o e f x=>k.keep b o e f λz=>x (s b z),λb o e f x=>k.slot b o e f λz=>x (s b z),k.there⟩
theorem Kept.trans{g i:g9}{h j k:Heap}(a:Kept g i h j)(b:Kept g i j k):Kept g i h k where
 keep:=λc o e f x=>b.keep c o (a.keep c o e f x) f x
 slot:=λc o e f x=>by
  obtain⟨s1,d⟩:=a.slot c o e f x;obtain⟨m,n⟩:=b.slot c _ d f x;exact⟨m,n⟩
 there:=λc o e=>by
  obtain⟨l,d⟩:=a.there c o e;exact b.there c l d
theorem Kept.aer{c d:g9}{h a:Heap}(k:∀b o,h.get? b=some o->a.get? b=some o):Kept c d h a:=⟨λb o e _ _=>k b o e,λb o e _ _=>⟨o.slots,k b o e⟩,λb o e=>⟨o,k b o e⟩⟩
theorem zT{k d:g9}{h:Heap}{a:Addr}{f:Obj}{m:Array Value}{i:Nat}{v:Value}(g:h.get? a=some f)(l:f.data=.fields m)(j:a∈d):Kept k d h (h.update a (Obj.mapFields (·.setIfInBounds i v))):=by
 have c:∀b o,h.get? b=some o->b∉d->(h.update a (Obj.mapFields (·.setIfInBounds i v))).get? b=some o:=λb o e x=>by
  rw[di _ _ (λ(z:a=b)=>x (z▸j))];exact e
 refine⟨λb o e _ x=>c b o e x,λb o e _ x=>⟨o.slots,c b o e x⟩,λb o e=>?_⟩;by_cases z:b=a
 .subst z;exact⟨_,eR _ g (gQ (eJ l _))⟩
 .rw[di _ _ (Ne.symm z)];exact⟨o,e⟩
theorem QS{h:Heap}{b:Addr}{a i v:Value}{f:Option Addr}(e:qc h b a f i):qc (h.update b (Obj.mapFields (·.setIfInBounds 1 v))) b a f v:=by
 obtain⟨r,j,p,n,m,g,l,o⟩:=e;have k:1<j.size:=(gj.mp l).1;refine⟨_,_,eR _ p (gQ (eJ g _)),?_,?_,eJ g _,by simp[k],by rw[Array.getElem?_setIfInBounds_ne (by decide)];exact o⟩
 .rw[<-n];exact Obj.cls_mapFields _ _
 .rw[<-m];obtain⟨c,d,q,s⟩:=r;cases q<;>rfl
theorem BJ{h:Heap}{c a:Addr}{b g:Value}{d:Option Addr}{f:Obj->Obj}(e:qc h c b d g)(ne:a≠c):qc (h.update a f) c b d g:=by
 obtain⟨l,k,i,j⟩:=e;exact⟨l,k,by rw[di _ _ ne];exact i,j⟩
theorem Ea{h f:Heap}{b:Addr}{a d:Value}{c:Option Addr}(e:qc h b a c d)(k:∀o,h.get? b=some o->f.get? b=some o):qc f b a c d:=by
 obtain⟨i,l,g,j⟩:=e;exact⟨i,l,k _ g,j⟩
theorem Nn{h a:Heap}{d:Addr}{b j:Value}{i:Option Addr}{l:List Env}(e:qc h d b i j)(f:h.FunFrames a l):d∉Ϥ l:=λz=>by
 obtain⟨p,m,g,_,_,n,_⟩:=e;obtain⟨_,o,c,k⟩:=f.mem z;rw[g]at c;cases c;exact k m n
theorem O8{h a:Heap}{T:Addr}{c:Value}{l:List Env}(e:TbO h T c)(f:h.FunFrames a l):T∉Ϥ l:=λz=>by
 obtain⟨k,i,d,j,_⟩:=e;obtain⟨_,o,b,g⟩:=f.mem z;rw[d]at b;cases b;exact g i j
section
variable{M:Model}{A:Around}{E:gq}{s:Shared}{Q:Unit->Shared->Prop}{fs:g9}{i T L:Addr}{g l k:Value}{j:Option Addr}{base:Heap}{d:Env}{c:List Env}
theorem Kp(r:Err s.heap i T g j l)(h:∀e,Err e i T g j .none->Kept fs [T] s.heap e->Q () { s with heap:=e }):wpAny M A (setFlight (.ref i) none) Q E s:=by
 obtain⟨⟨t,v,f,u,q,n,o,x⟩,⟨y,p,b,a,w⟩,ne⟩:=r;have m:3<p.size:=(gj.mp w).1;unfold setFlight;refine ap (cI f n o ?_);rw[aj (by simp:(Value.ref T != Value.none)=true)];refine ik b a m (h _ ⟨BJ ⟨t,v,f,u,q,n,o,x⟩ ne,⟨_,_,eR _ b (gQ (eJ a _)),eJ a _,by simp[m]⟩,ne⟩ (zT b a (by simp)))
theorem G9{m:Value}{w:Bool}(v:A.frames=some (d::c))(G:s.heap.FunFrames base (d::c))(N:d.frame=some L)(r:qc s.heap i g j k)(h:∀u y,Err u i y g j (rawInt L)->Kept (Ϥ (d::c)) [i] s.heap u->s.heap.get? y=none->Q () { s with heap:=u }):wpAny M A (do let a <-frameOf d;let p <-entryPlaceOf L w;let b <-EntryCells.newEntry m a .none (rawInt L) .none p;setField (.ref i) 1 b) Q E s:=by
 have K:=Nn r G;refine ap (wpAny_frameOf_fun v G N λn q=>ap (wpAny_entryPlaceOf λp H=>?_));unfold EntryCells.newEntry newFields;refine ap (gN ?_ (H.sizeOk5 _ _ _ _ _));have F:qc n i g j k:=Ea r λo e=>(q.2.1 i K).trans e;generalize B:({ cls:=.type "traceback",dict:=none,data:=.fields ([m,.ref L,.none,rawInt L,.none]++(if p.isEmpty then List.replicate 6 Value.none else p)).toArray }:Obj)=t;have D:qc (n.push t) i g j k:=Ea F λo e=>ay _ e;obtain⟨U,R,C,V,P,x,I,O⟩:=id D;have lt:i<n.objs.size:=by
  obtain⟨_,_,e,_⟩:=F;exact aH e
 have J:(n.push t).get? n.objs.size=some t:=bc n (by rw[<-B];rfl);refine ik C x (gj.mp I).1 (h _ n.objs.size ⟨QS D,⟨t,([m,.ref L,.none,rawInt L,.none]++(if p.isEmpty then List.replicate 6 Value.none else p)).toArray,?_,by rw[<-B],by simp⟩,eO lt⟩ ?_ ?_)
 .rw[di _ _ (aW lt)];exact J
 .have k1:Kept (Ϥ (d::c)) [i] s.heap n:=⟨λb o e f _=>(q.2.1 b f).trans e,λb o e _ _=>q.2.2 b o e,λb o e=>by
   obtain⟨S,z⟩:=q.2.2 b o e;exact⟨_,z⟩⟩
  exact k1.trans ((Kept.aer λb o e=>ay _ e).trans (zT C x (by simp)))
 .exact Heap.get?_none_of_le (by rw[q.1];exact aJ _)
theorem Ri(a:A.frames=some (d::c))(o:s.heap.FunFrames base (d::c))(f:d.frame=some L)(r:qc s.heap i g j .none)(h:∀b e,Err b i e g j (rawInt L)->Kept (Ϥ (d::c)) [i] s.heap b->s.heap.get? e=none->Q () { s with heap:=b }):wpAny M A (noteFrame (.ref i) d) Q E s:=by
 obtain⟨u,v,m,w,t,n,p,q⟩:=id r;unfold noteFrame;simp only[f];refine ap (cI m n p ?_);rw[ah (by decide)];exact G9 a o f r h
theorem T6(u:A.frames=some (d::c))(v:s.heap.FunFrames base (d::c))(x:d.frame=some L)(r:Err s.heap i T g j .none)(h:∀f a,Err f i a g j (rawInt L)->Kept (Ϥ (d::c)) [i,T] s.heap f->s.heap.get? a=none->Q () { s with heap:=f }):wpAny M A (noteFrame (.ref i) d) Q E s:=by
 have R:=O8 r.t v;obtain⟨⟨S,O,F,U,N,D,G,J⟩,⟨P,B,m,p,y⟩,ne⟩:=id r;unfold noteFrame;simp only[x];refine ap (cI F D G ?_);rw[aj (by simp:(Value.ref T != Value.none)=true)];refine ap (cI m p y ?_);rw[ah (by simp[rawInt])];have w:Kept (Ϥ (d::c)) [i,T] s.heap (s.heap.update T (Obj.mapFields (·.setIfInBounds 3 Value.none))):=zT m p (by simp);refine ap (ik m p (gj.mp y).1 ?_);refine G9 u (v.of_keeps λb o e I=>⟨o,?_,rfl⟩) x (BJ r.e ne) λf a C H n=>h f a C (w.trans (H.mono (by simp))) ?_
 .by_cases z:b=T
  .subst z;rw[m]at e;cases e;exact absurd p (I B)
  .rw[di _ _ (Ne.symm z)];exact e
 .cases q:s.heap.get? a with
  | none=>rfl
  | some o=>
    obtain⟨K,z⟩:=w.there a o q;rw[z]at n;cases n
theorem M6(a:A.frames=some (d::c))(y:s.heap.FunFrames base (d::c))(D:d.frame=some L)(r:qc s.heap i g j .none)(h:∀q t,Err q i t g j .none->Kept (Ϥ (d::c)) [i] s.heap q->s.heap.get? t=none->Q () { s with heap:=q }):wpAny M A (leaving d (.ref i)) Q E s:=by
 unfold leaving;refine ap (Ri a y D r λC u w p m=>Kp (fs:=Ϥ (d::c)) (s:={ s with heap:=C }) w λz v n=>h z u v ⟨λb o e f x=>n.keep b o (p.keep b o e f x) f ?_,λb o e f x=>?_,λb o e=>?_⟩ m)
 .simp only[aO];rintro rfl;rw[m]at e;cases e
 .obtain⟨s1,e1⟩:=p.slot b o e f x;obtain⟨B,F⟩:=n.slot b _ e1 f (by
   simp only[aO];rintro rfl;rw[m]at e;cases e)
  exact⟨B,F⟩
 .obtain⟨o1,e1⟩:=p.there b o e;exact n.there b o1 e1
theorem QU(a:A.frames=some (d::c))(y:s.heap.FunFrames base (d::c))(D:d.frame=some L)(r:Err s.heap i T g j .none)(h:∀q t,Err q i t g j .none->Kept (Ϥ (d::c)) [i,T] s.heap q->s.heap.get? t=none->Q () { s with heap:=q }):wpAny M A (leaving d (.ref i)) Q E s:=by
 unfold leaving;refine ap (T6 a y D r λC u w p m=>Kp (fs:=Ϥ (d::c)) (s:={ s with heap:=C }) w λz v n=>h z u v ⟨λb o e f x=>n.keep b o (p.keep b o e f x) f ?_,λb o e f x=>?_,λb o e=>?_⟩ m)
 .simp only[aO];rintro rfl;rw[m]at e;cases e
 .obtain⟨s1,e1⟩:=p.slot b o e f x;obtain⟨B,F⟩:=n.slot b _ e1 f (by
   simp only[aO];rintro rfl;rw[m]at e;cases e)
  exact⟨B,F⟩
 .obtain⟨o1,e1⟩:=p.there b o e;exact n.there b o1 e1
end
def ψ(P:Program)(w:World):ZL:=λa H s E e d=>∃(f T:Addr)(c:Value)(g:Option Addr)(b:Hp),e=.ref f/\d.os=s.os/\AllBare d.gens/\Un (Ϥ a) [] H b s.heap d.heap/\Ϯ P w b d.heap/\b f=none/\b T=none/\s.heap.get? f=none/\s.heap.get? T=none/\Err d.heap f T c g .none/\E c g b
theorem bL{P:Program}{w:World}:bU (ψ P w):=λa H s e b h=>by
 obtain⟨_,_,_,_,_,_,_,_,_,_,_,_,_,_,_,z⟩:=h;exact z
theorem Gj{P:Program}{w:World}{H:Hp}{h g:Heap}{c d:g9}(x:Ϯ P w H h)(k:Kept c d h g)(f:∀b∈c,H b=none)(u:∀b∈d,H b=none):Ϯ P w H g:=λa o e=>by
 refine(x a o e).dO (λb i hb q=>k.keep b i q ?_ ?_) (λ_ q=>q) λ_ _ q=>q
 .intro z;rcases hb with rfl|hb
  .rw[f _ z]at e;cases e
  .rw[f _ z]at hb;cases hb
 .intro z;rcases hb with rfl|hb
  .rw[u _ z]at e;cases e
  .rw[u _ z]at hb;cases hb
theorem MK{P:Program}{w:World}{H:Hp}{h:Heap}{b:Addr}(x:Ϯ P w H h)(n:h.get? b=none):H b=none:=by
 cases q:H b with
 | none=>rfl
 | some o=>
   have lt:=x.lt q;cases z:h.get? b with
   | some o'=>rw[z]at n;cases n
   | none=>
     exfalso
     have:=(x b o q);cases o with
     | lst xs=>obtain⟨_,_,_,_,e⟩:=this;rw[n]at e;cases e
     | tup xs=>obtain⟨_,_,_,a,e,_⟩:=this;rw[n]at e;cases e
     | dK θ=>obtain⟨_,_,_,_,a,_,_,e,_⟩:=this;rw[n]at e;cases e
     | dT θ=>obtain⟨_,_,_,_,a,_,_,e,_⟩:=this;rw[n]at e;cases e
     | set S m=>obtain⟨a,_,_,_,e,_⟩:=this;rw[n]at e;cases e
     | ins C dx fs=>obtain⟨_,_,_,e,_⟩:=this;rw[n]at e;cases e
     | own y=>obtain⟨_,e⟩:=this;rw[n]at e;cases e
     | xd fs=>obtain⟨_,⟨_,_,_,e,_⟩,_⟩:=this;rw[n]at e;cases e
     | Δ lo hi=>obtain⟨_,_,_,e⟩:=this;rw[n]at e;cases e
     | frz a u=>obtain⟨e,_⟩:=this;rw[n]at e;cases e
     | tbl ps=>have e:h.get? b=some _:=this;rw[n]at e;cases e
     | met f y=>have e:h.get? b=some _:=this;rw[n]at e;cases e
     | ext φ=>obtain⟨_,⟨_,e⟩,_⟩:=this;rw[n]at e;cases e
section
variable{P:Program}{w:World}{K:gx}{i:hL}{base:Heap}{N:hO}{d:Str}{c:Scope}{f:Addr}{g:Value}{A:Around}{a:List Env}{s:Shared}{H:Hp}{E:XK}
theorem HJ{x:ZL}{l:g8}{v:St}{t:Hp}{r:Shared}{u:Heap}{q:g9}(J:Inv (rE x P w K i base N d c f g A a s H E) l v t r)(k:Kept (Ϥ (envOfC d c s.heap.objs.size f g::a)) q r.heap u)(y:∀b∈q,s.heap.get? b=none):Un (Ϥ a) [] H t s.heap u:=by
 have h:Un (Ϥ a) [] H t s.heap r.heap:=J.base;have nl:∀b o,s.heap.get? b=some o->b∉q:=λb o e z=>by rw[y b z]at e;cases e
 have B:∀b o,s.heap.get? b=some o->b∉Ϥ a->b∉Ϥ (envOfC d c s.heap.objs.size f g::a):=λb o e z m=>by
  unfold Ϥ at m z;rw[iB]at m;have:(envOfC d c s.heap.objs.size f g).frame=some s.heap.objs.size:=rfl;rw[this]at m;rcases aD.mp m with m|m
  .exact absurd (aH e) (by rw[m];exact dB _)
  .exact z m
 refine⟨λb o e n p j=>k.keep b o (h.keep b o e n p j) (B b o e p) (nl b o e),λb o e n p j=>?_,h.free,λb o e j=>?_,h.ϟ,h.eQ,h.lT⟩
 .obtain⟨sl,e1⟩:=h.slot b o e n p j;by_cases m:b∈Ϥ (envOfC d c s.heap.objs.size f g::a)
  .obtain⟨s2,e2⟩:=k.slot b _ e1 m (nl b o e);exact⟨s2,e2⟩
  .exact⟨sl,k.keep b _ e1 m (nl b o e)⟩
 .obtain⟨o1,e1⟩:=h.there b o e j;exact k.there b o1 e1
theorem qI{p:ZL}{h:g8}{l:St}{k:Hp}{j:Shared}(J:Inv (rE p P w K i base N d c f g A a s H E) h l k j){b:Addr}(n:j.heap.get? b=none):s.heap.get? b=none:=by
 cases q:s.heap.get? b with
 | none=>rfl
 | some o=>
   have m:Un (Ϥ a) [] H k s.heap j.heap:=J.base;obtain⟨r,e⟩:=m.there b o q (by simp);rw[n]at e;cases e
theorem dq:qV (ψ P w) (rE (ψ P w) P w K i base N d c f g A a s H E) E:=by
 intro r G F M e L I h;obtain⟨z,T,l,u,p,rfl,os,bare,B,m,n,C,o,D,y,q⟩:=h;have J:=I.adp (ch:=[]) os B m bare (by simp);refine QU (base:=base) J.ok.frames J.stack rfl y λO v j k t=>?_;have x:∀b∈Ϥ (envOfC d c s.heap.objs.size f g::a),p b=none:=J.Zc;refine⟨z,v,l,u,p,rfl,J.os,J.bare,HJ J k ?_,Gj m k x ?_,n,MK m t,qI I o,qI J t,j,q⟩
 .intro b hb;simp only[aD,List.not_mem_nil,or_false]at hb;rcases hb with rfl|rfl
  .exact qI I o
  .exact qI I D
 .intro b hb;simp only[aD,List.not_mem_nil,or_false]at hb;rcases hb with rfl|rfl
  .exact n
  .exact C
end
def Nf(X:Cx)(E:XK):Prop:=∀(c:g8)(h:St)(H:Hp)(s:Shared)(e:Addr)(a:Value)(f:Option Addr)(d:Heap)(g:Nat),Inv X c h H s->(∀b o,s.heap.get? b=some o->d.get? b=some o)->s.heap.get? e=none->qc d e a f .none->E a f H->X.xe (.ref e) { s with heap:=d,toks:=g }
section
variable{P:Program}{w:World}{K:gx}{h:hL}{d:Heap}{N:hO}{e:Str}{a:Scope}{f:Addr}{g:Value}{A:Around}{c:List Env}{s:Shared}{H:Hp}{E:XK}
theorem sg:Nf (rE (ψ P w) P w K h d N e a f g A c s H E) E:=by
 intro n z m B v l p D x I y i u q;have J:=I.kept (t':=x) y;refine M6 (base:=d) J.ok.frames J.stack rfl u λC r j k o=>?_;have t:∀b∈Ϥ (envOfC e a s.heap.objs.size f g::c),m b=none:=J.Zc;refine⟨v,r,l,p,m,rfl,J.os,J.bare,HJ J k ?_,Gj J.Β k t ?_,MK I.Β i,MK J.Β o,qI I i,qI J o,j,q⟩
 .intro b hb;rw[aO.mp hb];exact qI I i
 .intro b hb;rw[aO.mp hb];exact MK I.Β i
end
def rD(K:gx)(C:Addr):Prop:=∃(o n:Str)(N:Addr)(l d:hH)(a:Bool)(f:hO)(b:hH)(e:Bool)(c:Option Bool)(g:Option Addr)(m h j i k:Option Value),K.lookup C=some (excClassObj o n C N l d a f b e c g m h j i k "ValueError.__new__")/\PySem.W.nsOkIn K N=true/\PySem.W.nsIn K N "__init__"=some none/\PySem.W.tailIn K bmV d=true
theorem UB{K:gx}{C:Addr}{o:Obj}(i u:Str)(N:Addr)(t h:hH)(d:Bool)(m:hO)(f:hH)(k:Bool)(g:Option Bool)(q:Option Addr)(j r n p s:Option Value)(l:K.lookup C=some o)(e:o=excClassObj i u C N t h d m f k g q j r n p s "ValueError.__new__")(a:PySem.W.nsOkIn K N=true)(b:PySem.W.nsIn K N "__init__"=some none)(c:PySem.W.tailIn K bmV h=true):rD K C:=by
 subst e;exact⟨_,_,_,_,_,_,_,_,_,_,_,_,_,_,_,_,l,a,b,c⟩
def NU(C:Addr)(E:XK)(t:TA):TS:=λ_ b H=>t b H λc a=>c.length<=sizeLine/\E (.ref C) none a
section
variable{X:Cx}{x:Str}{e b d:Pos}{c:Expr}{a:List Expr}{t:TA}{C:Addr}{E:XK}
theorem qB(q:rD X.K C)(R:X.calm=true)(v:Nf X E)(w:Gl X x)(S:X.mg x=some (.ref C))(y:PA X (c::a) t)(hdb:(x==("__debug__":Str))=false:=by decide)(j:starEach (c::a) X.env=(false,eval c X.env)::starEach a X.env:=by rfl)(J:(backTo b (starEach a X.env)).any (·.1)=false:=by rfl):PS X (.Raise (some (.Call (.Name x e) (c::a) [] b)) none d) (NU C E t):=by
 intro f s l H D I h;obtain⟨nm,U,N,bs,bm,hdct,sn,sub,ab,col,dd,k0,k1,k2,k3,k5,G,p,r,Q⟩:=q;have B:=I.mod.kin;have k:=PySem.W.tail_of_in B Q;have P:X.base.Ns N (X.base.nsMap N):=.of_isNs (PySem.W.isNs_of_in B p);have M:(backTo b (starEach (c::a) X.env)).any (·.1)=false:=by
  rw[j];show(false||(backTo b (starEach a X.env)).any (·.1))=false;rw[J]
  rfl
 refine wpAny_Raise_call_subT (C:=C) (nm:=nm) (q:=U) (N:=N) (bs:=bs) (bm:=bm) (hdct:=hdct) (sn:=sn) (sub:=sub) (ab:=ab) (col:=col) (dd:=dd) (k0:=k0) (k1:=k1) (k2:=k2) (k3:=k3) (k5:=k5) PySem.F.excBase_ValueError
  (k.hasType (by decide +kernel)) (I.ok.hd R) M (PySem.W.nsMap_none_of_in B p r) (yO I w S ⟨rfl,?_⟩ hdb)
 have g:=y b f s l H _ I h;rw[j]at g ⊢;refine Calls.evalArgs_plain (ϖ g λO o ⟨V,u,i,A,n⟩=>⟨rfl,by show O.length<=_;rw[<-A.length];exact n.1,i.bk _ _ (B _ _ G),P.keeps i.bk,k.keeps i.bk,λT L m=>?_⟩);obtain⟨Y,z,_,_⟩:=m.there;exact v f l u o L (.ref C) none T o.toks i m.keeps m.new ⟨_,_,z,rfl,rfl,rfl,rfl,rfl⟩ n.2
end
abbrev TH:=Ends->St->Value->Option Addr->Hp->Prop
def sU(a:List (Str×Addr)):List (Str×NameKind)->List (Str×Addr)->List (Str×Addr)
 | [],acc=>acc
 | (n,k)::r,acc=>if k==.free then sU a r ((n,(a.lookup n).getD 0)::acc)else sU a r acc
theorem MJ{b:Scope}{d:Env}(h:∀y∈b.names,y.2=.free->(d.cells.lookup y.1).isSome=true):closureFor b d=pure (sU d.cells b.names []):=by
 have f:∀(l:List (Str×NameKind))(e:List (Str×Addr)),(∀y∈l,y.2=.free->(d.cells.lookup y.1).isSome=true)->(forIn l e λ(y:Str×NameKind)(c:List (Str×Addr))=>(if y.2==NameKind.free then do let a <-cellOf d y.1;pure (ForInStep.yield ((y.1,a)::c))else pure (ForInStep.yield c):Sem (ForInStep (List (Str×Addr)))))=(pure (sU d.cells l e):Sem (List (Str×Addr))):=by
  intro l
  induction l with
  | nil=>intro e _;rfl
  | cons y l ih=>
    obtain⟨n,k⟩:=y;intro e i;have m:=i (n,k) ax;have j:∀y∈l,y.2=.free->(d.cells.lookup y.1).isSome=true:=λy o=>i y (aq _ o);rw[l9];unfold sU;cases q:k==NameKind.free with
    | false=>
      simp only[de,if_false,pure_bind];exact ih e j
    | true=>
      obtain⟨c,g⟩:=gi.mp (m (by simpa using q));dsimp only at g;simp only[if_true,cellOf,g,pure_bind,Option.getD_some];exact ih _ j
 have:=f b.names [] h;unfold closureFor;simp only[bind_pure];exact this
theorem AH{b:List (Str×Addr)}{x:Str}{c:Addr}:∀{l:List (Str×NameKind)}{e:List (Str×Addr)},(∀y∈l,y.2=.free->(b.lookup y.1).isSome=true)->(∀x c,e.lookup x=some c->b.lookup x=some c)->(sU b l e).lookup x=some c->b.lookup x=some c
 | [],e,_,h2,h3=>h2 x c h3
 | (n,k)::r,e,h1,h2,h3=>by
   have g:∀y∈r,y.2=.free->(b.lookup y.1).isSome=true:=λy f=>h1 y (aq _ f);unfold sU at h3;cases q:k==NameKind.free with
   | false=>
     rw[q]at h3;exact AH g h2 (by simpa using h3)
   | true=>
     rw[q]at h3;simp only[if_true]at h3;obtain⟨a,h⟩:=gi.mp (h1 (n,k) ax (by simpa using q));dsimp only at h;rw[h]at h3;refine AH g (λy d f=>?_) h3;rw[cL]at f;cases z:y==n with
     | true=>
       rw[z]at f;cases f;rw[eq_of_beq z];exact h
     | false=>
       rw[z]at f;exact h2 y d f
theorem Au{a:List (Str×Addr)}{x:Str}:∀{l:List (Str×NameKind)}{b:List (Str×Addr)},((∃c,b.lookup x=some c)\/(x,NameKind.free)∈l)->∃c,(sU a l b).lookup x=some c
 | [],b,h=>by
   rcases h with h|h
   .exact h
   .cases h
 | (n,k)::r,b,h=>by
   unfold sU;cases q:k==NameKind.free with
   | false=>
     simp only[de,if_false];refine Au ?_;rcases h with h|h
     .exact .inl h
     .rcases aD.mp h with z|z
      .cases z;simp at q
      .exact .inr z
   | true=>
     simp only[if_true];refine Au ?_;by_cases z:x=n
     .subst z;exact .inl ⟨(a.lookup x).getD 0,by rw[cL];simp⟩
     .rcases h with⟨c,h⟩|h
      .refine .inl ⟨c,?_⟩;rw[cL];have:(x==n)=false:=(by simpa using z);rw[this];exact h
      .rcases aD.mp h with y|y
       .cases y;exact absurd rfl z
       .exact .inr y
theorem qz{env:Env}{x:Str}{k:NameKind}:∀{l:List (Str×NameKind)},l.lookup x=some k->(l.map λ(n,k)=>if(k==NameKind.free&&env.scope.kind==.function&&env.kindOf n==some .cell)then(n,NameKind.cell)else(n,k)).lookup x=some (if(k==NameKind.free&&env.scope.kind==.function&&env.kindOf x==some .cell)then NameKind.cell else k)
 | [],h=>by simp at h
 | (n,j)::r,h=>by
   have a:=@qz env x k r;rw[aF];rw[cL]at h;cases z:x==n with
   | true=>
     rw[z]at h;cases h;have e:=eq_of_beq z;subst e;by_cases q:(k==NameKind.free&&env.scope.kind==.function&&env.kindOf x==some .cell)=true
     .simp only[q,if_true,cL,z]
     .simp only[q,if_false,cL,z,de]
   | false=>
     rw[z]at h;dsimp only;by_cases q:(j==NameKind.free&&env.scope.kind==.function&&env.kindOf n==some .cell)=true
     .rw[aj q,cL,z];exact a h
     .rw[ah q,cL,z];exact a h
theorem T3{X:Cx}{f:hO}{scope:Scope}(a:Nat)(b:List Nat)(s:∀y∈scope.names,y.2≠.cell)(F:scope.kind=.function)(u:∀y∈scope.names,y.2=.local->scope.names.lookup y.1=some .local)(D:f.length=a+b.length)(t:∀y∈scope.names,y.2=.free->X.env.scope.names.lookup y.1=some .cell)(v:X.env.scope.kind=.function)(C:∀x,X.env.scope.names.lookup x=some .cell->∃c,X.env.cells.lookup x=some c)(B:∀i,i<b.length->∃x j,f[a+i]?=some x/\b[i]?=some j/\X.N[j]?=some x/\scope.names.lookup x=some .free):Ϧ X f a b scope (sU X.env.cells scope.names []):=by
 have o:∀y∈scope.names,y.2=.free->(X.env.cells.lookup y.1).isSome=true:=λy E e=>by
  obtain⟨c,q⟩:=C _ (t y E e);rw[q]
  rfl
 have d:∀x,scope.names.lookup x=some .free->X.env.scope.names.lookup x=some .cell:=λx h=>t (x,.free) (dD h) rfl;refine⟨MJ o,F,s,u,λx c h=>AH o (λx c z=>by simp at z) h,λx h=>?_,D,λi x h=>?_⟩
 .cases q:scope.names.lookup x with
  | none=>
    exfalso
    have:(relabel scope X.env).names.lookup x=none:=by
     unfold relabel;dsimp only
     revert q
     generalize scope.names=l
     induction l with
     | nil=>intro _;rfl
     | cons y l ih=>
       obtain⟨n,k⟩:=y;intro q;rw[cL]at q;cases z:x==n with
       | true=>rw[z]at q;cases q
       | false=>
         rw[z]at q;rw[aF];dsimp only;by_cases w:(k==NameKind.free&&X.env.scope.kind==.function&&X.env.kindOf n==some .cell)=true
         .rw[aj w,cL,z];exact ih q
         .rw[ah w,cL,z];exact ih q
    rw[this]at h;rcases h with h|h<;>cases h
  | some k=>
    have r:(relabel scope X.env).names.lookup x=some _:=qz (env:=X.env) q;cases k with
    | free=>exact Au (.inr (dD q))
    | cell=>exact absurd rfl (s _ (dD q))
    | _=>
      rw[r]at h;simp at h
 .have hi:i<b.length:=by
   have:=(aw.mp h).1
   lia
  obtain⟨y,j,m,G,A,g⟩:=B i hi;rw[h]at m;cases m;have p:=d x g;refine⟨j,G,A,p,?_⟩;have r:(relabel scope X.env).names.lookup x=some _:=qz (env:=X.env) g;rw[r];have:X.env.kindOf x=some .cell:=p;rw[this,v]
  rfl
theorem JU:∀{a:du}{b:hH},Vals (a.map V.int) b->IntsAre b a
 | [],_,h=>by cases h;exact .nil
 | n::a,_,h=>by
   cases h with
   | cons r t=>
     obtain⟨k,rfl⟩:=(show ∃t,_=Value.int n t from r);exact .cons n k (JU t)
theorem Kw:∀{a:du}{b:hH},IntsAre b a->Vals (a.map V.int) b
 | _,_,.nil=>.nil
 | _,_,.cons n t r=>.cons ⟨t,rfl⟩ (Kw r)
section
variable{X:Cx}
theorem Jt:nz X (.builtin "sorted") (λi H Q=>∃(p:Addr)(f:du),i=[.ref p]/\ν X.K H p (f.map V.int)/\f.length<64/\∀(l:Addr)(c:du),H l=none->c.Perm f->c.Pairwise (·<=·)->Q (.ref l) (upd H l (.lst (c.map V.int)))):=by
 intro m s D H i F Q I r h;obtain⟨p,f,rfl,y,x,q⟩:=h;obtain⟨u,rfl,A⟩:=ue r;cases A;obtain⟨g,B,z,G⟩:=I.list y;have k:=JU B;have E:=IntsAre.length k;refine sorted_ints z.isList k (by lia) λd c w j C=>?_;obtain⟨e,n⟩:=sortedAll_at s.heap g d;have v:H (s.heap.objs.size+1)=none:=I.Β.fresh (fY _);have t:c.length=f.length:=j.length_eq;refine⟨.ref (s.heap.objs.size+1),_,I.laid (a:=s.heap.objs.size+1) (o:=.lst (c.map V.int)) (t':=s.toks) (λb o e=>sortedAll_old e) (fY _) ⟨?_,d.toList,e,Kw w,?_⟩,rfl,q _ c v j C⟩
 .rw[ag,t];exact dL (by lia)
 .exact n
end
theorem Uv{K:gx}{C T:Addr}{f:Value}{g:Option Addr}{e:ClassData}{i:Array (Option Value)}(h:K.lookup C=some ⟨f,g,.cls e,i⟩)(m:e.mro=.ref C::.ref T::bmV)(c:Addr):PySem.W.mroIn K C (.ref c)=some (decide (c=C)||decide (c=T)):=by
 unfold PySem.W.mroIn PySem.W.clsIn;rw[h];simp only[Option.bind_some,m,List.isEmpty_cons,de,if_false]
 congr 1
 by_cases d:c=C
 .subst d;simp
 .by_cases h2:c=T
  .subst h2;simp
  .have a:(Value.ref c==Value.ref C)=false:=(by simpa using d);have b:(Value.ref c==Value.ref T)=false:=(by simpa using h2);simp[eM,a,b,d,h2]
structure As(K:gx)(T C:Addr):Prop where
 x:aeq K C
 mr:∀C',PySem.W.mroIn K C (.ref C')=some (decide (C'=C)||decide (C'=T))
 mv:PySem.W.mroIn K C (.type "ValueError")=some true
theorem Co{K:gx}{C:Addr}{b:Value}{c:Option Addr}{a:ClassData}{e:Array (Option Value)}{r:hH}(h:K.lookup C=some ⟨b,c,.cls a,e⟩)(m:a.mro=.ref C::r){v:Value}(d:(Value.ref C::r).contains v=true):PySem.W.mroIn K C v=some true:=by
 unfold PySem.W.mroIn PySem.W.clsIn;rw[h];simp only[Option.bind_some,m,List.isEmpty_cons,de,if_false,d]
section
variable{K:gx}{T C:Addr}{e:Value}{f:Option Addr}{d:ClassData}{g:Array (Option Value)}
theorem Kf{r:hH}(c:PySem.W.typeIn K (.ref C)=some (.type "type"))(j:PySem.W.findIn K (.ref C) "__getattribute__"=some (some (.builtin "BaseException.__getattribute__")))(i:PySem.W.findIn K (.ref C) "__getattr__"=some none)(l:PySem.W.findIn K (.ref C) "__class__"=some (some (.builtin "object.__class__")))(o:PySem.W.specialIn K (.builtin "object.__class__") "__get__"=some (some (.builtin "getset_descriptor.__get__")))(n:PySem.W.takesIn K (.builtin "object.__class__")=some true)(k:PySem.W.hasDictIn K C=true)(h:K.lookup C=some ⟨e,f,.cls d,g⟩)(m:d.mro=.ref C::r)(a:r.contains (.type "object")=true)(b:r.contains (.type "BaseException")=true):aeq K C:=⟨c,j,i,l,o,n,Co h m (by rw[eM,a,kP]),Co h m (by rw[eM,b,kP]),k,Co h m (by simp)⟩
structure aes(K:gx)(T:Addr):Prop where
 x:aeq K T
theorem UY(a:PySem.W.typeIn K (.ref C)=some (.type "type"))(c:PySem.W.findIn K (.ref C) "__getattribute__"=some (some (.builtin "BaseException.__getattribute__")))(b:PySem.W.findIn K (.ref C) "__getattr__"=some none)(j:PySem.W.findIn K (.ref C) "__class__"=some (some (.builtin "object.__class__")))(l:PySem.W.specialIn K (.builtin "object.__class__") "__get__"=some (some (.builtin "getset_descriptor.__get__")))(k:PySem.W.takesIn K (.builtin "object.__class__")=some true)(i:PySem.W.hasDictIn K C=true)(h:K.lookup C=some ⟨e,f,.cls d,g⟩)(m:d.mro=.ref C::bmV):aes K C:=⟨Kf a c b j l k i h m (by decide +kernel) (by decide +kernel)⟩
theorem US(i:PySem.W.typeIn K (.ref C)=some (.type "type"))(k:PySem.W.findIn K (.ref C) "__getattribute__"=some (some (.builtin "BaseException.__getattribute__")))(j:PySem.W.findIn K (.ref C) "__getattr__"=some none)(n:PySem.W.findIn K (.ref C) "__class__"=some (some (.builtin "object.__class__")))(p:PySem.W.specialIn K (.builtin "object.__class__") "__get__"=some (some (.builtin "getset_descriptor.__get__")))(o:PySem.W.takesIn K (.builtin "object.__class__")=some true)(l:PySem.W.hasDictIn K C=true)(h:K.lookup C=some ⟨e,f,.cls d,g⟩)(m:d.mro=.ref C::.ref T::bmV):As K T C:=by
 have a:(Value.ref T::bmV).contains (.type "object")=true:=by rw[eM];simp[bmV]
 have b:(Value.ref T::bmV).contains (.type "BaseException")=true:=by rw[eM];simp[bmV]
 have c:(Value.ref T::bmV).contains (.type "ValueError")=true:=by rw[eM];simp[bmV]
 exact⟨Kf i k j n p o l h m a b,Uv h m,Co h m (by rw[eM,c,kP])⟩
end
section
variable{P:Program}{w:World}{K:gx}{b:hL}{a:Heap}
theorem Fun.Io{x d:Str}{st:Stmt}{f:Addr}{n:FuncData}{N m:hO}{k:Nat}{j:Sp}(F:Fun K x d st f n)(S:η N m (aB st))(h:∀e H Q E,j e H Q E->e.length=m.length)(r:∀(g:Value) (A:Around) (c:List Env) (s:Shared) (H:Hp) (e:List V) (Q:VK) (E:XK),ύ k (A.deeper (envOfC d (aB st) s.heap.objs.size f g))->j e H Q E->∃t,PSs (rE (ψ P w) P w K b a N d (aB st) f g A c s H E) (iq st) t/\t { nx:=λ_ v=>Q .ς v,rt:=Q } (start N e) H):Ψ P w K b a (ψ P w) (k+1) f n m j:=by
 obtain⟨D,y,kV,o,z,C,g,B,q,rfl,p,l⟩:=F.ex;exact TL p l S h λA c s H e Q E u i=>r g A c s H e Q E u i
end
theorem Ev{C:Addr}{E:XK}{t:TA}{D:Ends}{a:St}{H:Hp}:NU C E t D a H=t a H λc b=>c.length<=sizeLine/\E (.ref C) none b:=rfl
theorem δ.put{H a:Hp}{l:Addr}(e:δ H a)(n:H l=none)(o:HO):δ H (upd a l o):=λb u h=>by rw[aL (cJ h n)];exact e b u h
theorem P6{M:Model}{A:Around}{E:gq}{s:Shared}{a:Env}{x:Str}{b:Pos}{v:Value}{Q:Unit->Shared->Prop}(h:wpAny M A (storeName a x v) Q E s):wpAny M A (assign (.Name x b) a v) Q E s:=by
 show wpAny M A (do standAt b;bindName a x v) Q E s;exact ap (jV (wpAny_bindName h))
section
variable{X:Cx}{Nc:hO}{f:Nat}{j:List Nat}{scope:Scope}{a:List (Str×Addr)}
theorem rP{i:Nat}{x:Str}{px a8:Pos}{U k G:Expr}{V:List Expr}{Ϣ:Pos}{wi:TI}{g:TG}{tc:TT}{te:TE}(hN:X.N.Nodup)(bY:X.N[i]?=some x)(a5:X.env.scope.names.lookup x=some .local)(hc:X.calm=true)(T:Ϧ X Nc f j scope a)(hi:PI X k G wi)(hg:∀C z B m,PG (X.comp Nc scope a C z B m) k g)(ht:∀C z B m,PTs (X.comp Nc scope a C z B m) V tc)(he:∀C z B m,PE (X.comp Nc scope a C z B m) U te)(hs:∀x,foldedSetIterable G X.env x=pure x:=by intro _;rfl)(b1:swapsWith (.ListComp U [⟨k,G,V,0⟩] scope Ϣ) (some (.Name x px)) a8.line X.env=pure true:=by rfl):PS X (.Assign [.Name x px] (.ListComp U [⟨k,G,V,0⟩] scope Ϣ) a8) (DM (L7 f j wi g tc te) (vL i)):=by
 intro P s σ H D I h;rw[exec_Assign_Name_used _ _ _ _ b1];refine ap (jV (ap ?_));rw[arm_evalThenUse_ListComp];refine ap ?_;refine wpAny_comprehension_free (use:=some (assign (.Name x px) X.env)) rfl hs T.aei T.kind T.names (ϖ (hi P s σ H _ I h) λv s1 h1=>ϖ h1 λd5 l h2=>?_);obtain⟨it,m,tn,J,H1,rfl,I1,Tn,st,f1,R⟩:=h2;have Z:∀b∈m,b<l.heap.objs.size:=λb F=>let ⟨o,e,_⟩:=Tn.obj _ _ st b F;aH e;refine gN (wpAny_newFunctionEnv T.aaz (by intro y hy;simp at hy) (λK aS ϧ=>?_) T.kind);dsimp only at aS ϧ ⊢;generalize an:l.heap.push { cls:=.type "list",dict:=none,data:=.seq ([]:hH).toArray }=E at aS ϧ ⊢;have hC:E.objs.size=l.heap.objs.size+1:=by rw[<-an,dz]
 have a1:l.heap.objs.size≠E.objs.size:=by rw[hC];exact aW (f7 _)
 have Zh:l.heap.objs.size<=E.objs.size:=by rw[hC];exact fY _
 have bG:∀b,b<l.heap.objs.size->b≠E.objs.size:=λb F=>by rw[hC];exact aW (gL F)
 have a3:∀b o,l.heap.get? b=some o->K.get? b=some o:=λb o e=>ϧ.extBut b o (bG b (aH e)) (ay _ (an▸ay _ e));have oR:∃n,K.get? l.heap.objs.size=some { cls:=.type "list",data:=.seq ([]:hH).toArray n }:=⟨_,ϧ.extBut _ _ a1 (ay _ (an▸bc _ rfl))⟩;have a9:tn 0 K:=Tn.keep _ _ _ st λb _ o e=>a3 b o e;obtain⟨W,⟨m0,w0⟩,a4⟩:=R l.heap.objs.size I1.fresh;have Ic:=Ib (t:=l.toks+([]:List (Str×Value)).length) T I1 Zh (aJ _) a1 f1 Z a3 aS oR;generalize Q:X.comp Nc scope a E.objs.size l H1 m=Xc at Ic;have M:∀{Y:Hp},(∀b∈m,Y b=none)->∀b∈m,pD Xc [] Y b:=λ{Y} hn b F=>by
  subst Q;exact⟨hn b F,bG b (Z b F),(DL T I1 Zh f1 Z).aas b F,.inl F,λx c e=>(f1 b F).2.2.2.2.1 x c (T.cells x c e),λp hp=>by cases hp⟩
 have bS:∀b∈m,upd H1 l.heap.objs.size (.lst []) b=none:=λb F=>by
  rw[aL (aW (Z b F))];exact(f1 b F).1
 have dt:Xc.calm=true:=by subst Q;exact hc
 have af:∀O:Shared,O={ l with heap:=K,toks:=l.toks+([]:List (Str×Value)).length }->codeAny (model X.prog X.w) X.A (.compLoop (.ListComp U [⟨k,G,V,0⟩] scope Ϣ) 0 (.ref it) (.ref l.heap.objs.size) (compEnvC scope a E.objs.size X.env))
  (compPost (model X.prog X.w) X.A X.xe (some (assign (.Name x px) X.env)) (λ_ s'=>wpAny (model X.prog X.w) X.A (pure ()) (λ_ cC=>wpAny (model X.prog X.w) X.A (pure Flow.next) (SP X P D) X.xe cC) X.xe s') (.ref l.heap.objs.size) E.objs.size) O:=by
  rintro O rfl;refine zM (λn s'=>∃i ys a2 Y,Inv Xc [] a2 Y s'/\tn i s'.heap/\(∀b∈m,Y b=none)/\W i n ys a2 Y) ?_ m0 ⟨0,[],_,_,Ic,a9,bS,w0⟩;rintro n s3 ⟨i,ys,S,H3,I3,bk,a7,w3⟩;rcases a4 i n ys S H3 w3 with⟨stop,q⟩|⟨go,step⟩
  .subst Q;refine ϖ (Tn.done (X.comp Nc scope a E.objs.size l H1 m) rfl rfl rfl hc i [] s3 S H3 _ I3 (M a7) bk stop) λr s4 ⟨hr,I4⟩=>?_;subst hr;obtain⟨m4,b2,_⟩:=id I4.loc;have J:=D3 I1 Zh f1 I4 (h':=s4.heap) (Heap.SameBut.refl _ _);have a6:E.objs.size≠X.env.locals:=eO (aP I1.lt Zh);have cy:X.s₀.heap.objs.size<=E.objs.size:=bw I1.sz Zh;have cc:∀y c,X.env.cells.lookup y=some c->c≠E.objs.size:=λy c e=>by
    obtain⟨v',o',ao,_⟩:=I1.cell y c e;exact aW (aP (aH ao) Zh)
   have cp:∀p∈X.pn++P,p.1≠E.objs.size:=λp hp=>by
    obtain⟨ao,_⟩:=I1.pin p hp;exact aW (aP (aH ao) Zh)
   refine P6 (EB (v:=.ref l.heap.objs.size) J hN bY (.inl a5) rfl (λs5 I5 ⟨ad,sb,had⟩=>?_) (.inr a5));have co:E.objs.size≠ad:=by
    rcases had with rfl|had
    .exact a6
    .exact(cc _ _ had).symm
   obtain⟨oo,es,ep,e1,e2⟩:=b2;refine⟨m4,⟨oo,es,ep,(sb.2 _ co).trans e1,e2⟩,λh' cd=>bh (bh ⟨_,H3,?_,q⟩)⟩;exact I5.turned (it:=E.objs.size) (t':=s5.toks) (λb o n e=>cd.extBut b o n e) I4.free a6 (.inr cy) cc cp
  .subst Q;refine ϖ (Tn.item (X.comp Nc scope a E.objs.size l H1 m) rfl rfl rfl hc i [] s3 S H3 _ I3 (M a7) bk go) λr s4 ⟨u,hr,h4⟩=>?_;subst hr;refine ϖ h4 λ_ s5 ⟨x,H5,I5,r5,y5,ak,cB⟩=>?_;have b0:=I5.pinned (M cB) (Tn.obj _ _ ak);have ab:∀{al:St}{H7:Hp}{s7:Shared},Inv (X.comp Nc scope a E.objs.size l H1 m) ([]++u6 m s5.heap) al H7 s7->Inv (X.comp Nc scope a E.objs.size l H1 m) [] al H7 s7/\tn (i+1) s7.heap/\∀b∈m,H7 b=none:=λ{al H7 s7} I7=>by
    refine⟨I7.ϰ,Tn.keep _ _ _ ak λb F o e=>(I7.pin (b,o) (aY _ (aY _ (oH F e)))).1,λb F=>?_⟩;obtain⟨o,e,d⟩:=Tn.obj _ _ ak b F;exact(I7.pin (b,o) (aY _ (aY _ (oH F e)))).2.1
   refine ϖ (hg _ _ _ _ _ s5 S H5 x u _ b0 r5 (step x H5 y5)) λ_ s6 ⟨L,H6,I6,q6⟩=>?_;refine Db (ht _ _ _ _ _ s6 L H6 _ I6 q6) λok s7 H7 I7 q7=>?_;cases ok with
   | false=>
     rw[ah bz]at q7 ⊢;obtain⟨m',hm,w7⟩:=q7;obtain⟨J1,J2,J3⟩:=ab I7;exact⟨m',hm,i+1,ys,L,H7,J1,J2,J3,w7⟩
   | true=>
     rw[aj rfl]at q7 ⊢;refine eT (he _ _ _ _ _ s7 L H7 _ I7 q7) λy s8 yv H8 I8 r8 ⟨cs,cv,m',hm,w8⟩=>?_;refine ϖ (ip _ s8 L H8 (.ref l.heap.objs.size) [yv] _ [y] (λv' Y=>W (i+1) m' (ys++[yv]) L Y) I8 rfl (.cons r8 .nil) ⟨_,ys,yv,rfl,rfl,cs,cv,w8⟩) λv9 s9 ⟨_,H9,I9,_,w9⟩=>?_;obtain⟨J1,J2,J3⟩:=ab I9;exact⟨m',hm,i+1,ys++[yv],L,H9,J1,J2,J3,w9⟩
 exact codeAny_compStart_list (af _ rfl) (Tn.self _ 0 _ _ _ a9 (af _ rfl))
end
theorem ya{K:gx}{H:Hp}:∀a:List Int,Ρ K H (a.map V.int) (a.map PyData.int)
 | []=>.nil
 | n::a=>.cons (.int n) (ya a)
theorem Ef{K:gx}{H:Hp}{l:Addr}{a:du}(h:H l=some (.lst (a.map V.int))):iF K H (.ref l) (.list (a.map PyData.int)):=.lst (ν.of h) (ya a)
theorem zA:∀a:List Int,PyData.eqvAll (a.map PyData.int) (a.map PyData.int)=true
 | []=>by simp[PyData.eqvAll]
 | n::a=>by
   simp only[aF,PyData.eqvAll];rw[zA a];simp[PyData.eqv]
theorem PZ(a:du):PyData.eqv (.list (a.map PyData.int)) (.list (a.map PyData.int))=true:=by
 simp only[PyData.eqv];exact zA a
theorem wB:∀a:List Int,PyData.depthAll (a.map PyData.int)<=1
 | []=>by simp[PyData.depthAll]
 | n::a=>by
   simp only[aF,PyData.depthAll];have:=wB a;have:(PyData.int n).depth<=1:=by simp[PyData.depth]
   lia
theorem MG(a:du):(PyData.list (a.map PyData.int)).depth<=40:=by
 simp only[PyData.depth];have:=wB a
 lia
theorem Tf{K:gx}{H:Hp}{a b:Addr}{c:du}{Q:VK}(d:H a=some (.lst (c.map V.int)))(e:H b=some (.lst (c.map V.int)))(q:Q (.bl false) H):RL K (.ref a) (.ref b) H Q:=⟨_,_,Ef d,Ef e,MG c,by rw[PZ];exact q⟩
end L2
namespace Pb
open L2 PySem
def front(r:Int)(a:fc)(p:Int):V:=if p=r then .ς else .int (a p)
def cq(m:Int)(s:hT)(a:V)(p:Int):List Int:=(ie m s p).filter λv=>decide (V.int v≠a)
variable{m:Int}{s:hT}{r:Int}{par:fc}{d:fz}
theorem ε.ne(R:ε m s r par d){v:Int}(b:0<=v)(a:v<m)(c:v≠r):par v≠v:=λz=>by
 have:=(R.up v b a c).2.2;rw[z]at this
 lia
theorem ce(g:Good m s)(R:ε m s r par d){p v:Int}(l:0<=p)(o:p<m):v∈cq m s (front r par p) p↔(0<=v/\v<m)/\v≠r/\par v=p:=by
 unfold cq;rw[bu,ij g,bJ]
 constructor
 .rintro⟨ad,hf⟩;obtain⟨_,k,_⟩:=g.ZG ad;refine⟨k,?_⟩;obtain⟨x,i,j⟩:=ad;have f:∀u w:Int,(u≠r/\par u=w)\/(w≠r/\par w=u)->u=p->w=v->v≠r/\par v=p:=λu w h n t=>by
   subst n t;rcases h with h|h
   .exfalso
    apply hf;unfold front;rw[ah h.1,h.2]
   .exact h
  rcases j with⟨a,b⟩|⟨a,b⟩
  .exact f x.a x.b (R.road x i) a b
  .exact f x.b x.a (R.road x i).symm a b
 .rintro⟨k,hr,hp⟩;have u:=R.up v k.1 k.2 hr;rw[hp]at u;refine⟨?_,λz=>?_⟩
  .obtain⟨x,i,j⟩:=u.2.1;exact⟨x,i,j.elim (λq=>.inr ⟨q.2,q.1⟩) (λq=>.inl ⟨q.2,q.1⟩)⟩
  .unfold front at z;by_cases c:p=r
   .rw[aj c]at z;cases z
   .rw[ah c]at z;have e:v=par p:=(by injection z);have w:=(R.up p l o c).2.2;have y:=u.2.2;rw[<-e]at w
    lia
theorem jX{a:V}{p:Int}:(cq m s a p).Nodup:=(r6 m s p).filter _
def nl(m:Int)(par:fc)(a:du):List V:=(bG m.toNat).map λv=>if v∈a then .int (par v)else .ς
def m5(m r:Int)(par:fc):List V:=(bG m.toNat).map (front r par)
theorem tK{a:du}:(nl m par a).length=m.toNat:=by unfold nl;rw[ag,bR]
theorem fq{n i:Nat}(h:i<n):(bG n)[i]?=some (i:Int):=by unfold bG;rw[aG,eA h];rfl
theorem Oo{ks:du}{v:Int}(a:0<=v)(b:v<m):(nl m par ks)[v.toNat]?=some (if v∈ks then .int (par v)else .ς):=by
 unfold nl;rw[aG,fq (by lia)];show some (if((v.toNat:Nat):Int)∈ks then V.int (par ((v.toNat:Nat):Int))else V.ς)=_;rw[bW a]
theorem VZ{ks:du}{v:Int}(f:0<=v)(b:v<m):(nl m par ks).set v.toNat (.int (par v))=nl m par (ks++[v]):=by
 refine dJ λi=>?_;rw[List.getElem?_set];by_cases c:i<m.toNat
 .have e:∀l:List Int,(nl m par l)[i]?=some (if(i:Int)∈l then .int (par (i:Int))else .ς):=λl=>by
   have:=Oo (par:=par) (ks:=l) (v:=(i:Int)) (m:=m) (by lia) (by lia)
   rwa [cu]at this
  rw[e,tK];by_cases z:v.toNat=i
  .have a:v=(i:Int):=(by lia);rw[aj z,aj (by lia),e,aj (by rw[a];simp),<-a]
  .rw[ah z,e];have a:¬((i:Int)=v):=(by lia);simp[a]
 .have e:∀l:List Int,(nl m par l)[i]?=none:=λl=>bn (by rw[tK];lia);rw[e,e,tK];by_cases z:v.toNat=i
  .lia
  .rw[ah z]
structure ϣ(m:Int)(s:hT)(r:Int)(par:fc)(ks ws:du):Prop where
 nd:ks.Nodup
 Δ:∀k∈ks,0<=k/\k<m
 nr:r∉ks
 sub:∀w∈ws,w=r\/w∈ks
 wnd:ws.Nodup
 ok:∀v∈ks,par v∉ws/\(par v=r\/par v∈ks)
 dn:∀v,0<=v->v<m->v≠r->(par v=r\/par v∈ks)->par v∉ws->v∈ks
theorem ϣ.start:ϣ m s r par [] [r] where
 nd:=jL
 Δ:=λ_ h=>by cases h
 nr:=λh=>by cases h
 sub:=λw h=>.inl (aO.mp h)
 wnd:=by simp
 ok:=λ_ h=>by cases h
 dn:=λv _ _ _ h n=>by
  rcases h with h|h
  .exact absurd (by rw[h];simp) n
  .cases h
theorem ϣ.at_(J:ϣ m s r par ks ws)(c:0<=r)(b:r<m){p:Int}(a:p∈ws):0<=p/\p<m:=by
 rcases J.sub p a with h|h
 .rw[h];exact⟨c,b⟩
 .exact J.Δ p h
theorem ϣ.front(J:ϣ m s r par ks ws){p:Int}(a:p∈ws):(if p∈ks then V.int (par p)else V.ς)=front r par p:=by
 unfold Pb.front;by_cases c:p=r
 .rw[aj c,ah (by rw[c];exact J.nr)]
 .rw[ah c,aj ((J.sub p a).resolve_left c)]
theorem ϣ.step(g:Good m s)(R:ε m s r par d)(H:0<=r)(G:r<m){l j ws':du}{p:Int}(J:ϣ m s r par l j)(e:j.Perm (p::ws')):ϣ m s r par (l++cq m s (Pb.front r par p) p) (ws'++cq m s (Pb.front r par p) p):=by
 have y:p∈j:=e.mem_iff.mpr ax;have E:=J.at_ H G y;have f:∀v,v∈cq m s (Pb.front r par p) p↔(0<=v/\v<m)/\v≠r/\par v=p:=λv=>ce g R E.1 E.2;have B:(cq m s (Pb.front r par p) p).Nodup:=jX;generalize cq m s (Pb.front r par p) p=D at f B ⊢;have i:∀v∈D,v∉l:=λv C z=>(J.ok v z).1 (by rw[((f v).mp C).2.2];exact y);obtain⟨F,I⟩:=aV.mp (e.nodup_iff.mp J.wnd);have A:∀w∈ws',w∈j:=λw t=>e.mem_iff.mpr (aq _ t);refine⟨?_,?_,?_,?_,?_,?_,?_⟩
 .rw[da];exact⟨J.nd,B,λa u b q z=>i b q (z▸u)⟩
 .intro k hk;rcases bd.mp hk with h|h
  .exact J.Δ k h
  .exact((f k).mp h).1
 .intro z;rcases bd.mp z with h|h
  .exact J.nr h
  .exact((f r).mp h).2.1 rfl
 .intro w t;rcases bd.mp t with h|h
  .exact(J.sub w (A w h)).imp id (bB _)
  .exact .inr (aY _ h)
 .rw[da];refine⟨I,B,λa u b q z=>?_⟩;subst z;rcases J.sub a (A a u)with h|h
  .exact((f a).mp q).2.1 h
  .exact i a q h
 .intro v C;rcases bd.mp C with h|h
  .obtain⟨o1,o2⟩:=J.ok v h;refine⟨λz=>?_,o2.imp id (bB _)⟩;rcases bd.mp z with z|z
   .exact o1 (A _ z)
   .rcases o2 with o|o
    .exact((f _).mp z).2.1 o
    .exact i _ z o
  .obtain⟨q1,q2,q3⟩:=(f v).mp h;rw[q3];refine⟨λz=>?_,(J.sub p y).imp id (bB _)⟩;rcases bd.mp z with z|z
   .exact F z
   .obtain⟨w1,w2,w3⟩:=(f p).mp z;exact R.ne w1.1 w1.2 w2 w3
 .intro v v0 v1 vr h n;have x:par v∉D:=λz=>n (aY _ z);have K:par v=r\/par v∈l:=h.imp id λz=>(bd.mp z).resolve_right x;by_cases c:par v=p
  .exact aY _ ((f v).mpr ⟨⟨v0,v1⟩,vr,c⟩)
  .refine bB _ (J.dn v v0 v1 vr K λz=>?_);rcases aD.mp (e.mem_iff.mp z)with z|z
   .exact c z
   .exact n (bB _ z)
theorem ϣ.perm{b c a:du}(J:ϣ m s r par b c)(e:c.Perm a):ϣ m s r par b a where
 nd:=J.nd
 Δ:=J.Δ
 nr:=J.nr
 sub:=λw h=>J.sub w (e.mem_iff.mpr h)
 wnd:=e.nodup_iff.mp J.wnd
 ok:=λv h=>⟨λz=>(J.ok v h).1 (e.mem_iff.mpr z),(J.ok v h).2⟩
 dn:=λv g f hr h n=>J.dn v g f hr h λz=>n (e.mem_iff.mp z)
theorem ϣ.all(R:ε m s r par d){h:du}(J:ϣ m s r par h []):∀v,0<=v->v<m->v≠r->v∈h:=by
 have g:∀n v,d v=n->0<=v->v<m->v≠r->v∈h:=by
  intro n
  induction n with
  | zero=>
    intro v e a f b;have:=(R.up v a f b).2.2
    lia
  | succ n ih=>
    intro v e a f b;have u:=R.up v a f b;refine J.dn v a f b ?_ (by simp);by_cases c:par v=r
    .exact .inl c
    .exact .inr (ih (par v) (by lia) u.1.1 u.1.2 c)
 exact λv=>g _ v rfl
theorem ϣ.done(R:ε m s r par d){b:du}(J:ϣ m s r par b []):nl m par b=m5 m r par:=by
 unfold nl m5;refine bQ λv e=>?_;have a:0<=v/\v<m:=by
  unfold bG at e;obtain⟨k,f,rfl⟩:=aR.mp e;have:=cQ.mp f
  lia
 unfold Pb.front;by_cases c:v=r
 .rw[aj c,ah (by rw[c];exact J.nr)]
 .rw[ah c,aj (J.all R v a.1 a.2 c)]
theorem wo(n:Nat)(v:V):(List.replicate n [v]).flatten=List.replicate n v:=by
 induction n with
 | zero=>rfl
 | succ n ih=>rw[cW,f6,ih,cW];rfl
theorem Xq:nl m par []=List.replicate m.toNat V.ς:=by
 unfold nl;refine dJ λi=>?_;by_cases c:i<m.toNat
 .rw[aG,fq c,iI,aj c];simp
 .rw[bn (by rw[ag,bR];lia),bn (by rw[cD];lia)]
def mT(par:fc):Nat->Int->List Int
 | 0,v=>[v]
 | n+1,v=>v::mT par n (par v)
theorem ε.pos(R:ε m s r par d){v:Int}(b:0<=v)(a:v<m)(c:v≠r):d v=d (par v)+1:=(R.up v b a c).2.2.symm
theorem Bg(R:ε m s r par d):∀(n:Nat)(v:Int),d v=n->0<=v->v<m->(mT par n v).Nodup/\(∀x∈mT par n v,(0<=x/\x<m)/\d x<=n)/\(mT par n v).length=n+1
 | 0,v,e,h0,h1=>⟨by unfold mT;simp,λx hx=>by
  unfold mT at hx;rw[aO.mp hx];exact⟨⟨h0,h1⟩,by lia⟩,rfl⟩
 | n+1,v,e,h0,h1=>by
   have f:v≠r:=λz=>by rw[z,R.root]at e;lia
   have u:=R.up v h0 h1 f;obtain⟨c,a,b⟩:=Bg R n (par v) (by lia) u.1.1 u.1.2;unfold mT;refine⟨aV.mpr ⟨λz=>?_,c⟩,λx hx=>?_,by rw[ba,b]⟩
   .have:=(a v z).2
    lia
   .rcases aD.mp hx with rfl|hx
    .exact⟨⟨h0,h1⟩,by lia⟩
    .exact⟨(a x hx).1,by have:=(a x hx).2;lia⟩
theorem iJ(R:ε m s r par d){v:Int}(b:0<=v)(a:v<m):d v+1<=m.toNat:=by
 obtain⟨f,e,g⟩:=Bg R _ v rfl b a;have:=gZ (m:=m) (by lia) f λx c=>(e x c).1
 lia
theorem wm{v:Int}(a:0<=v)(b:v<m):(m5 m r par)[v.toNat]?=some (front r par v):=by
 unfold m5;rw[aG,fq (by lia)];show some (front r par ((v.toNat:Nat):Int))=_;rw[bW a]
theorem lV(g:Good m s)(R:ε m s r par d){v:Int}(l:0<=v)(f:v<m)(o:v≠r):∃k,ci s v (par v)=some k/\2<=k/\k<=1000000:=by
 obtain⟨x,e,j⟩:=(R.up v l f o).2.1;obtain⟨i,h⟩:=bZ e;have ok:=g.ok x e;rw[rf g h j];unfold kK;by_cases c:x.a=v/\x.b=par v
 .rw[aj c];exact⟨_,rfl,ok.t0,ok.t1⟩
 .rw[ah c];have n:x.a=par v/\x.b=v:=by
   rcases j with j|j
   .exact absurd j c
   .exact⟨j.2,j.1⟩
  rw[aj n];exact⟨_,rfl,ok.u0,ok.u1⟩
def rC(m:Int)(s:hT)(r:Int)(par:fc):Nat->Int->List Int
 | 0,v=>[v]
 | n+1,v=>v::(cq m s (front r par v) v).flatMap (rC m s r par n)
def cT(m:Int)(s:hT)(r:Int)(par:fc)(d:fz)(v:Int):List Int:=rC m s r par (m.toNat-1-d v) v
theorem vz{f h:Int->List Int}:∀{l:du},(∀x∈l,f x=h x)->l.flatMap f=l.flatMap h
 | [],_=>rfl
 | a::l,e=>by rw[bI,bI,e a ax,vz λx b=>e x (aq _ b)]
theorem gw(g:Good m s)(R:ε m s r par d){v:Int}(h:0<=v)(f:v<m):cT m s r par d v=v::(cq m s (front r par v) v).flatMap (cT m s r par d):=by
 have k:∀u,u∈cq m s (front r par v) v->(0<=u/\u<m)/\u≠r/\par u=v:=λu=>(ce g R h f).mp;have c:∀u∈cq m s (front r par v) v,d u=d v+1/\d u+1<=m.toNat:=λu a=>by
  obtain⟨b,i,j⟩:=k u a;have:=R.pos b.1 b.2 i;rw[j]at this;exact⟨this,iJ R b.1 b.2⟩
 unfold cT;cases e:m.toNat-1-d v with
 | zero=>
   have:cq m s (front r par v) v=[]:=gI.mpr λu a=>by
    have:=c u a
    lia
   rw[this]
   rfl
 | succ n=>
   show v::(cq m s (front r par v) v).flatMap (rC m s r par n)=_;rw[vz λu a=>show rC m s r par n u=rC m s r par (m.toNat-1-d u) u by rw[show m.toNat-1-d u=n by have:=c u a;lia]]
def up(par:fc):Nat->Int->Int
 | 0,x=>x
 | k+1,x=>par (up par k x)
theorem BQ{f:Int->List Int}:∀{l:du},l.Nodup->(∀u∈l,(f u).Nodup)->(∀u∈l,∀w∈l,∀x,x∈f u->x∈f w->u=w)->(l.flatMap f).Nodup
 | [],_,_,_=>by simp
 | a::l,n,h1,h2=>by
   obtain⟨g,i⟩:=aV.mp n;rw[bI,da];refine⟨h1 a ax,BQ i (λu c=>h1 u (aq _ c)) (λu c w b=>h2 u (aq _ c) w (aq _ b)),λx h y j z=>?_⟩;subst z;obtain⟨w,b,e⟩:=c6.mp j;have:=h2 a ax w (aq _ b) x h e;exact g (this▸b)
theorem pF(g:Good m s)(R:ε m s r par d):∀(n:Nat)(v:Int),0<=v->v<m->(rC m s r par n v).Nodup/\∀x∈rC m s r par n v,(0<=x/\x<m)/\∃k,d x=d v+k/\up par k x=v
 | 0,v,h0,h1=>⟨by unfold rC;simp,λx hx=>by
  unfold rC at hx;rw[aO.mp hx];exact⟨⟨h0,h1⟩,0,rfl,rfl⟩⟩
 | n+1,v,h0,h1=>by
   have c:∀u,u∈cq m s (front r par v) v->(0<=u/\u<m)/\u≠r/\par u=v:=λu=>(ce g R h0 h1).mp;have q:(cq m s (front r par v) v).Nodup:=jX;have b:=λu a=>pF g R n u (c u a).1.1 (c u a).1.2;have h:∀u∈cq m s (front r par v) v,d u=d v+1:=λu a=>by
    obtain⟨j,o,l⟩:=c u a;have:=R.pos j.1 j.2 o;rw[l]at this;exact this
   unfold rC;refine⟨aV.mpr ⟨λz=>?_,BQ q (λu a=>(b u a).1) λu a w i x hx t=>?_⟩,λx hx=>?_⟩
   .obtain⟨u,a,hv⟩:=c6.mp z;obtain⟨_,k,e,_⟩:=(b u a).2 v hv;have:=h u a
    lia
   .obtain⟨_,k1,e1,f1⟩:=(b u a).2 x hx;obtain⟨_,p,D,A⟩:=(b w i).2 x t;have C:=h u a;have B:=h w i;have:k1=p:=(by lia);rw[<-f1,<-A,this]
   .rcases aD.mp hx with rfl|hx
    .exact⟨⟨h0,h1⟩,0,rfl,rfl⟩
    .obtain⟨u,a,hv⟩:=c6.mp hx;obtain⟨y,k,e,f⟩:=(b u a).2 x hv;exact⟨y,k+1,by rw[e,h u a];lia,by show par (up par k x)=v;rw[f];exact(c u a).2.2⟩
theorem Po(g:Good m s)(R:ε m s r par d){v:Int}(c:0<=v)(a:v<m):(cT m s r par d v).length<=24:=by
 obtain⟨b,f⟩:=pF g R (m.toNat-1-d v) v c a;have:=gZ (m:=m) (by lia) b λx e=>(f x e).1;have:=g.Ο;unfold cT
 lia
end Pb
namespace L2
open PySem PySem.Spec PyProof.Rows
def Itv(K:gx)(a:Addr)(n:Nat):It:=⟨λi H=>i<n/\∃b x,ν K H a b/\b[n-1-i]?=some x,λi H x c=>c=H/\∀b,ν K H a b->b[n-1-i]?=some x,λi H=>n<=i⟩
theorem QW{P:Program}{w:World}{K:gx}{U:Expr}(a j:Addr)(n:Nat):Turn P w K U (Itv K a n) [j] j (λi h=>i<=n/\h.IsRevIter j a ((n:Int)-1-(i:Int))) where
 mem:=by simp
 obj:=λi h st b hb=>by
  have e:b=j:=by simpa using hb
  subst e;obtain⟨_,o,e,c,d⟩:=st;exact⟨o,e,λv z=>by rw[d]at z;cases z⟩
 keep:=λi h m st k=>⟨st.1,st.2.at λo e=>k j (by simp) o e⟩
 item:=by
  intro X r hw q hc i g s G H E I hf st y;subst r hw q;obtain⟨hi,xs,x,J,F⟩:=y;obtain⟨ac,L,p,hz⟩:=I.list J;obtain⟨u,Y,Z⟩:=L.get F;obtain⟨B,A,f2,t,D,C⟩:=hf j (by simp);have M:(n:Int)-1-(i:Int)=((n-1-i:Nat):Int):=by lia
  have f:=st.2;rw[M]at f;refine wpAny_pyNext_rev_item f p.isList (x:=u) (by simpa using Y) λm l V=>?_;have R:Inv X g G H { s with heap:=m }:=I.turned (t':=s.toks) (λb o hb e=>(V.2 b hb).trans e) B A t D C;obtain⟨o,e,c,d⟩:=id l;have N:((n-1-i:Nat):Int)-1=(n:Int)-1-((i+1:Nat):Int):=by lia
  rw[N]at l;exact⟨u,rfl,FB (s:={ s with heap:=m }) e c d (by decide) ⟨x,H,R,Z,⟨rfl,λys T=>by rw[I.gE T J];exact F⟩,⟨hi,l⟩,λb hb=>(hf b hb).1⟩⟩
 done:=by
  intro X r hw q hc i g s G H E I hf st y;subst r hw q;have Q:n<=i:=y;obtain⟨B,A,f2,t,D,C⟩:=hf j (by simp);have f:=st.2;have S:=st.1;rw[show(n:Int)-1-(i:Int)=-1 by lia]at f;exact wpAny_pyNext_rev_end (I.ok.hd hc) f λm O=>⟨rfl,I.turned (t':=s.toks) (λb o hb e=>O b o hb e) B A t D C⟩
 self:=λ_ _ _ _ _ st h=>jE st.2 h
def Rt(K:gx)(e:TE):TI:=λd H R=>e d H λx b=>∃a c,x=.ref a/\ν K b a c/\R (Itv K a c.length) b
section
variable{X:Cx}{g e:Expr}{d:TE}{f c:Pos}
theorem vk(y:Gl X "reversed")(F:X.mg "reversed"=none)(t:PE X e d)(r:starEach [e] X.env=[(false,eval e X.env)]:=by rfl):PI X g (.Call (.Name "reversed" f) [e] [] c) (Rt X.K d):=by
 intro j s z H R I h;refine Call_ (pS I y F boot_reversed (cG ?_ r rfl));rw[r];show wpAny _ _ (spliced ((false,eval e X.env)::backTo c [])) _ _ s;refine gM (eT (t j s z H _ I h) λu k x w m B D=>gV ?_);obtain⟨a,n,v,A,q⟩:=D;subst v;cases B;obtain⟨p,J,E,L⟩:=m.list A;refine call_reversed_list E.isList ?_;have C:p.toArray.size=n.length:=by rw[aU,J.length]
 rw[C];refine jE (i:=(n.length:Int)-1) (l:=a) ⟨_,bc _ rfl,rfl,rfl⟩ ?_;refine⟨k.heap.objs.size,[k.heap.objs.size],_,_,w,rfl,m.kept (t':=k.toks) λb o e=>ay _ e,QW a _ n.length,⟨b7 _,?_⟩,λb G=>?_,q⟩
 .exact⟨_,bc _ rfl,rfl,by simp[revObj]⟩
 .have e:b=k.heap.objs.size:=by simpa using G
  subst e;exact m.aaY (aJ _) (m.Β.fresh (aJ _))
end
theorem wj{K:gx}{a:Addr}{xs:List V}{g:TG}{l:TS}{D:Ends}{b:St}{H:Hp}(d:Nat->St->Hp->Prop)(n:d 0 b H)(r:∀i b H,i<=xs.length->d i b H->ν K H a xs)(s:∀(i:Nat) (x:V) (b:St) (H:Hp) (N:St->Hp->Prop),(∀c f,d (i+1) c f->N c f)->xs.reverse[i]?=some x->d i b H->g x b H λh t=>l { D with nx:=N,ct:=N,bk:=D.nx } h t)(o:∀b H,d xs.length b H->D.nx b H):rX (Itv K a xs.length) D g l b H:=by
 refine⟨λi m b H=>m=xs.length-i/\i<=xs.length/\d i b H,⟨xs.length,by simp,b7 _,n⟩,?_⟩;rintro i m b H ⟨rfl,v,p⟩;have q:=r i b H v p;by_cases j:i<xs.length
 .have hx:xs[xs.length-1-i]?=some xs[xs.length-1-i]:=aA (by lia);refine .inr ⟨⟨j,xs,_,q,hx⟩,λc f=>∃k,k<xs.length-i/\(k=xs.length-(i+1)/\i+1<=xs.length/\d (i+1) c f),λc f z=>z,λx f y=>?_⟩;obtain⟨e,y⟩:=y;subst e;exact s i x b _ _ (λc f u=>⟨xs.length-(i+1),by lia,rfl,j,u⟩) (by rw[dg j];exact y xs q) p
 .have e:i=xs.length:=by lia
  subst e;exact .inl ⟨aJ _,o b H p⟩
theorem zw(a:du):∀n,n<=a.length->preSum (λi=>a.getD i 0) n=(a.take n).sum
 | 0,_=>by simp[preSum]
 | n+1,h=>by
   have c:=zw a n (by lia);have b:n<a.length:=by lia
   rw[bp,aA b,hJ,<-c];simp[preSum,List.getD,b]
section
variable{X:Cx}
theorem AQ(P:X.calm=true):nz X (.builtin "sum") (λL H Q=>∃(p:Addr)(d:du),L=[.ref p]/\(ν X.K H p (d.map V.int)\/Κ X.K H p (d.map V.int))/\Q (.int d.sum) H):=by
 intro O s R H L S Q I r h;obtain⟨p,d,rfl,hp,q⟩:=h;obtain⟨u,rfl,D⟩:=ue r;cases D;have J:X.A.in1.handled=none:=I.ok.hd P;have f:∀{a:hH},Vals (d.map V.int) a->a.length=d.length/\∀(i:Nat)(v:Value),a.toArray[i]?=some v->∃t,v=Value.int (d.getD i 0) t:=by
  intro a k;have c:a.length=d.length:=by rw[<-k.length,ag]
  refine⟨c,λi v m=>?_⟩;have N:a[i]?=some v:=by simpa using m
  have y:i<d.length:=by rw[<-c];exact(aw.mp N).1
  obtain⟨u,M,D⟩:=k.get (i:=i) (x:=V.int d[i]) (by rw[aG,aA y];rfl);rw[N]at M;cases M;obtain⟨t,e⟩:=(show ∃t,v=Value.int d[i] t from D);exact⟨t,by rw[e];simp[List.getD,y]⟩
 have l:∀{n:Nat},n=d.length->preSum (λi=>d.getD i 0) n=d.sum:=λ{n} e=>by rw[zw d n (by lia),cw (by lia)]
 rcases hp with hp|hp
 .obtain⟨a,k,pl,hz⟩:=I.list hp;obtain⟨c,B⟩:=f k;have j:=pl.isList;have w:=pl.lt;refine call_sum_walkG (iP j ?_);refine⟨s.heap.objs.size,[s.heap.objs.size,p],[s.heap.objs.size],a.toArray.size,_,_,λi=>d.getD i 0,rfl,Walks.list (A:=X.A.in1) J _ p (aW w) a.toArray,⟨⟨_,bc _ rfl,rfl,rfl⟩,j.push _⟩,λb F=>?_,λi v m=>B i v m,λG z t' C=>?_⟩
  .simp only[Heap.push,Array.size_push];rcases aD.mp F with e|e
   .rw[e];exact f7 _
   .rw[aO.mp e];exact gL w
  .have kk:∀b o,s.heap.get? b=some o->G.get? b=some o:=λb o g=>C b o (λE=>by rw[aO.mp E]at g;exact dB _ (aH g)) (ay _ g);rw[l (by rw[aU,c])];exact⟨.int _,H,I.kept (t':=z) kk,⟨t',rfl⟩,q⟩
 .obtain⟨a,k,pl,hz⟩:=I.tuple hp;obtain⟨c,B⟩:=f k;have j:s.heap.IsTuple p a.toArray:=pl;have w:p<s.heap.objs.size:=by
   obtain⟨o,e,_⟩:=id j;exact aH e
  refine call_sum_walkG (jY j ?_);refine⟨s.heap.objs.size,[s.heap.objs.size,p],[s.heap.objs.size],a.toArray.size,_,_,λi=>d.getD i 0,rfl,Walks.tuple (A:=X.A.in1) J _ p (aW w) a.toArray,⟨⟨_,bc _ rfl,rfl,rfl⟩,j.push _⟩,λb F=>?_,λi v m=>B i v m,λG z t' C=>?_⟩
  .simp only[Heap.push,Array.size_push];rcases aD.mp F with e|e
   .rw[e];exact f7 _
   .rw[aO.mp e];exact gL w
  .have kk:∀b o,s.heap.get? b=some o->G.get? b=some o:=λb o g=>C b o (λE=>by rw[aO.mp E]at g;exact dB _ (aH g)) (ay _ g);rw[l (by rw[aU,c])];exact⟨.int _,H,I.kept (t':=z) kk,⟨t',rfl⟩,q⟩
end
def Yg(_ j:Int):Prop:=0<j/\j<18446744073709551616
theorem Hj{X:Cx}:aC X (binaryOp .FloorDiv) (rI Yg λi j=>.int (i/j)):=opI λi j _ _ _ _ _ a q=>by
 have c:(0:Int)<j:=a.1;have e:j<18446744073709551616:=a.2;refine floordiv_int (by lia) (by rw[ic i (by lia)];exact q) (.inl ?_);have d:j.natAbs.log2<64:=(nP (by lia)).mpr (by lia);unfold Builtin.divisionGoesByPylong;have b:(j==0)=false:=by simp;lia
 simp only[b,de,if_false];have:¬(j.natAbs.log2/30+1>300):=by lia
 simp[this]
theorem yA{X:Cx}(K:gx)(d:X.K=K){a:List Expr}{k:Nat}{c:Pos}{t:TGs}{n:Nat}(e:X.calm=true)(h:PGs X a t)(f:(assignEach a X.env).length=n:=by rfl)(b:(assignEach a X.env).findIdx? (·.1)=none:=by rfl):PG X (.Tuple a k c) (LM K n t):=by
 subst d;exact nM e h f b
theorem Gh{K:gx}{c d:Bool}{a b p:Addr}{xs zs:List V}{Q:VK}{g:TG}{B:TT}{D:TE}{r:St}{C:Hp}(l:Nat->List V->St->Hp->Prop)(E:l 0 [] r C)(L:∀i f h H,l i f h H->ϑ K c H a xs/\ϑ K d H b zs)(M:∀(i:Nat) (x z:V) (f:List V) (h:St) (H:Hp) (q:Addr) (N:List V->St->Hp->Prop),(∀o j n,l (i+1) o j n->N o j n)->xs[i]?=some x->zs[i]?=some z->l i f h H->H q=none->g (.ref q) h (upd H q (.tup [x,z])) λk O=>B k O λb A=>
 if b=true then D k A λy w=>w p=some (.lst f)/\f.length<sizeLine/\N (f++[y]) k (upd w p (.lst (f++[y])))else N f k A)(J:∀f h H,l (min xs.length zs.length) f h H->Q (.ref p) H):uH (Itz K c d a b) p Q g B D r C:=by
 refine⟨λi m f h H=>m=min xs.length zs.length-i/\i<=min xs.length zs.length/\l i f h H,⟨_,rfl,b7 _,E⟩,?_⟩;rintro i m f h H ⟨rfl,U,pv⟩;obtain⟨u,s⟩:=L i f h H pv;by_cases S:i<min xs.length zs.length
 .refine .inr ⟨⟨xs,zs,xs[i]'(by lia),zs[i]'(by lia),u,s,aA (by lia),aA (by lia)⟩,λx n y=>?_⟩;obtain⟨R,G,F,P,rfl,rfl,I,T⟩:=y;exact M i G F f h H R (λo j n=>∃v,v<min xs.length zs.length-i/\(v=min xs.length zs.length-(i+1)/\i+1<=min xs.length zs.length/\l (i+1) o j n)) (λo j n t=>⟨min xs.length zs.length-(i+1),by lia,rfl,S,t⟩) (I xs u) (T zs s) pv P
 .have e:i=min xs.length zs.length:=by lia
  subst e;exact .inl ⟨⟨xs,zs,u,s,by lia⟩,J f h H pv⟩
theorem sQ{H:Hp}{l:Addr}{a:List V}{i:Int}{v:V}{Q:Hp->Prop}(h:H l=some (.lst a))(b:0<=i)(c:i<a.length)(q:Q (upd H l (.lst (a.set i.toNat v)))):ady (.ref l) (.int i) v H Q:=⟨l,a,i,i.toNat,rfl,rfl,h,by unfold ixN;rw[aj b,aj (by lia)],q⟩
theorem BV{xs:du}{i:Int}(a:0<=i)(b:i<xs.length):gT (xs.map V.int) i=some (.int (xs.getD i.toNat 0)):=gn a (by
 have h:i.toNat<xs.length:=by lia
 rw[aG,aA h];simp[List.getD,h])
theorem Bs(n:Nat)(v:V):(List.replicate n [v]).flatten=List.replicate n v:=by
 induction n with
 | zero=>rfl
 | succ n ih=>rw[cW,f6,ih,cW];rfl
theorem B3{a:du}{n:Nat}{v:Int}(h:∀x∈a,0<=x)(c:0<=v):∀x∈a.set n v,0<=x:=λx b=>by
 rcases kq b with h1|h1
 .exact h x h1
 .rw[h1];exact c
theorem JW{a:du}(h:∀x∈a,0<=x)(n:Nat):0<=a.getD n 0:=by
 by_cases z:n<a.length
 .rw[List.getD,aA z];exact h _ (cZ z)
 .rw[List.getD,bn (by lia)];exact bO _
theorem vU{X:Cx}:Xp X (GR X.K):=by
 intro b s n H x y v u Q I D m h;obtain⟨p,G,i,z,rfl,rfl,B,l,q⟩:=h;cases D;obtain⟨t,rfl⟩:=m;obtain⟨e,r,k,L⟩:=I.list B;obtain⟨j,c,C,J,E,A⟩:=DD l;obtain⟨w,g,d⟩:=r.get C;have o:=r.length;have F:=sC;have a:EP X b n Q w s:=⟨z,H,I,d,q⟩;by_cases f:0<=i
 .have hj:i.toNat=j:=by
   rw[seqIndex_of f A]at c;exact bq c
  exact wpAny_getItem_list k.isList f (by lia) (by rw[hj];simpa using g) a
 .have hj:(i+(e.toArray.size:Int)).toNat=j:=by
   rw[seqIndex_neg (by lia) E]at c;rw[aU,<-o];exact bq c
  exact wpAny_getItem_list_neg k.isList (by lia) (by rw[aU]<;>lia) (by lia) (by rw[hj];simpa using g) a
theorem Ir{K:gx}{a p:Addr}{xs:List V}{Q:VK}{g:TG}{v:TT}{z:TE}{n:St}{w:Hp}(j:Nat->List V->St->Hp->Prop)(A:j 0 [] n w)(C:∀i c d H,i<=xs.length->j i c d H->ν K H a xs)(D:∀(i:Nat) (x:V) (c:List V) (d:St) (H:Hp) (N:List V->St->Hp->Prop),(∀l f k,j (i+1) l f k->N l f k)->xs.reverse[i]?=some x->j i c d H->g x d H λh E=>v h E λb u=>
 if b=true then z h u λy t=>t p=some (.lst c)/\c.length<sizeLine/\N (c++[y]) h (upd t p (.lst (c++[y])))else N c h u)(B:∀c d H,j xs.length c d H->Q (.ref p) H):uH (Itv K a xs.length) p Q g v z n w:=by
 refine⟨λi m c d H=>m=xs.length-i/\i<=xs.length/\j i c d H,⟨xs.length,by simp,b7 _,A⟩,?_⟩;rintro i m c d H ⟨rfl,F,pv⟩;have q:=C i c d H F pv;by_cases r:i<xs.length
 .have hx:xs[xs.length-1-i]?=some xs[xs.length-1-i]:=aA (by lia);refine .inr ⟨⟨r,xs,_,q,hx⟩,λx k y=>?_⟩;obtain⟨e,y⟩:=y;subst e;exact D i x c d _ (λl f k=>∃s,s<xs.length-i/\(s=xs.length-(i+1)/\i+1<=xs.length/\j (i+1) l f k)) (λl f k o=>⟨xs.length-(i+1),by lia,rfl,r,o⟩) (by rw[dg r];exact y xs q) pv
 .have e:i=xs.length:=by lia
  subst e;exact .inl ⟨aJ _,B c d H pv⟩
end L2
namespace Pb
open L2
def After(a:fc):List Int->List Int->Prop
 | _,[]=>True
 | S,c::t=>a c∈S/\After a (c::S) t
section
variable{m:Int}{o:hT}{r:Int}{d:fc}{f:fz}
theorem After.mono:∀{l S b:du},(∀x∈S,x∈b)->After d S l->After d b l
 | [],_,_,_,_=>trivial
 | c::t,S,b,h,a=>⟨h _ a.1,After.mono (λx g=>by
  rcases aD.mp g with e|e
  .exact aD.mpr (.inl e)
  .exact aq _ (h x e)) a.2⟩
theorem After.append:∀{g e S:du},After d S g->After d S e->After d S (g++e)
 | [],_,_,_,b=>b
 | c::t,e,S,a,b=>⟨a.1,After.append a.2 (b.mono λx h=>aq _ h)⟩
theorem After.up:∀{A B S:du},After d S (A++B)->∀k∈A,d k∈S\/d k∈A
 | [],_,_,_,k,hk=>by cases hk
 | c::t,B,S,a,k,hk=>by
   rcases aD.mp hk with e|e
   .rw[e];exact .inl a.1
   .rcases After.up (A:=t) (B:=B) a.2 k e with h|h
    .rcases aD.mp h with h|h
     .exact .inr (by rw[h];exact ax)
     .exact .inl h
    .exact .inr (aq _ h)
structure Order(m r:Int)(d:fc)(t:du):Prop where
 nd:(r::t).Nodup
 Δ:∀v∈t,0<=v/\v<m
 all:∀v,0<=v->v<m->v=r\/v∈t
 af:After d [r] t
theorem Order.ne{t:du}(O:Order m r d t){v:Int}(h:v∈t):v≠r:=λz=>(aV.mp O.nd).1 (z▸h)
theorem Bk(g:Good m o)(R:ε m o r d f):∀(n:Nat)(v:Int)(S:du),0<=v->v<m->d v∈S->After d S (rC m o r d n v)
 | 0,v,S,_,_,h=>⟨h,trivial⟩
 | n+1,v,S,h0,h1,h=>by
   refine⟨h,?_⟩;have:∀(a:du)(S:du),v∈S->(∀u∈a,u∈cq m o (front r d v) v)->After d S (a.flatMap (rC m o r d n)):=by
    intro a
    induction a with
    | nil=>intro S _ _;exact trivial
    | cons u a ih=>
      intro S e b;rw[bI];obtain⟨c,l,k⟩:=(ce g R h0 h1).mp (b u ax);exact(Bk g R n u S c.1 c.2 (by rw[k];exact e)).append (ih S e λx j=>b x (aq _ j))
   exact this _ _ ax λu i=>i
theorem B9(g:Good m o)(R:ε m o r d f)(j:0<=r)(i:r<m)(c:(cT m o r d f r).Nodup)(b:∀v,v∈cT m o r d f r↔0<=v/\v<m):∃t,cT m o r d f r=r::t/\Order m r d t:=by
 have e:=gw g R j i;refine⟨_,e,?_⟩;rw[e]at c b;refine⟨c,λv q=>(b v).mp (aq _ q),λv l w=>aD.mp ((b v).mpr ⟨l,w⟩),?_⟩;have:∀a:List Int,(∀u∈a,u∈cq m o (front r d r) r)->After d [r] (a.flatMap (cT m o r d f)):=by
  intro a
  induction a with
  | nil=>intro _;exact trivial
  | cons u a ih=>
    intro k;rw[bI];obtain⟨h,y,p⟩:=(ce g R j i).mp (k u ax);exact(Bk g R _ u [r] h.1 h.2 (by rw[p];exact ax)).append (ih λx n=>k x (aq _ n))
 exact this _ λu s=>s
def xL(m:Int)(o:hT)(r:Int)(d:fc)(a:fc)(b:hR):Nat->Int->Int
 | 0,v=>a v
 | n+1,v=>a v+((cq m o (front r d v) v).map λc=>b c (xL m o r d a b n c)).sum
def Α(m:Int)(o:hT)(r:Int)(d:fc)(f:fz)(held:fc)(con:hR)(v:Int):Int:=xL m o r d held con (m.toNat-1-f v) v
variable{held:fc}{con:hR}
theorem eI(g:Good m o)(R:ε m o r d f){v:Int}(j:0<=v)(i:v<m):Α m o r d f held con v=held v+((cq m o (front r d v) v).map λc=>con c (Α m o r d f held con c)).sum:=by
 have p:∀u,u∈cq m o (front r d v) v->(0<=u/\u<m)/\u≠r/\d u=v:=λu=>(ce g R j i).mp;have h:∀u∈cq m o (front r d v) v,f u=f v+1/\f u+1<=m.toNat:=λu a=>by
  obtain⟨b,k,l⟩:=p u a;have:=R.pos b.1 b.2 k;rw[l]at this;exact⟨this,iJ R b.1 b.2⟩
 unfold Α;cases e:m.toNat-1-f v with
 | zero=>
   have:cq m o (front r d v) v=[]:=gI.mpr λu a=>by
    have:=h u a
    lia
   rw[this];simp[xL]
 | succ n=>
   show held v+_=_;rw[bQ λu a=>show con u (xL m o r d held con n u)=con u (xL m o r d held con (m.toNat-1-f u) u) by rw[show m.toNat-1-f u=n by have:=h u a;lia]]
theorem qH{l a:du}(h:l.Perm a):l.sum=a.sum:=by
 induction h with
 | nil=>rfl
 | cons x _ ih=>rw[aK,aK,ih]
 | swap x y l=>simp only[aK];lia
 | trans _ _ h1 h2=>exact h1.trans h2
def qS(d:fc)(con:hR)(a:du)(v:Int):List Int:=a.set (d v).toNat (a.getD (d v).toNat 0+con v (a.getD v.toNat 0))
structure ϔ(m:Int)(o:hT)(r:Int)(d:fc)(f:fz)(held:fc)(con:hR)(t cs:du):Prop where
 len:(cs.length:Int)=m
 val:∀v,0<=v->v<m->cs.getD v.toNat 0=held v+((t.filter λc=>decide (d c=v)).map λc=>con c (Α m o r d f held con c)).sum
theorem ϔ.nil{a:du}(h:(a.length:Int)=m):ϔ m o r d f (λv=>a.getD v.toNat 0) con [] a:=⟨h,λv _ _=>by simp⟩
theorem zj(g:Good m o)(R:ε m o r d f){t:du}(j:t.Nodup)(a:∀x∈t,(0<=x/\x<m)/\x≠r){v:Int}(i:0<=v)(b:v<m)(e:∀k,0<=k->k<m->k≠r->d k=v->k∈t):(t.filter λc=>decide (d c=v)).Perm (cq m o (front r d v) v):=by
 refine hW (j.filter _) jX λx=>?_;rw[bu,ce g R i b,bJ];exact⟨λh=>⟨(a x h.1).1,(a x h.1).2,h.2⟩,λh=>⟨e x h.1.1 h.1.2 h.2.1 h.2.2,h.2.2⟩⟩
theorem ϔ.full(g:Good m o)(R:ε m o r d f){t c:du}(s:ϔ m o r d f held con t c)(h:t.Nodup)(i:∀x∈t,(0<=x/\x<m)/\x≠r){v:Int}(b:0<=v)(a:v<m)(e:∀k,0<=k->k<m->k≠r->d k=v->k∈t):c.getD v.toNat 0=Α m o r d f held con v:=by
 rw[s.val v b a,eI g R b a,qH ((zj g R h i b a e).map _)]
theorem ϔ.step(g:Good m o)(R:ε m o r d f){t a:du}(s:ϔ m o r d f held con t a){v:Int}(i:0<=v)(h:v<m)(hr:v≠r)(e:a.getD v.toNat 0=Α m o r d f held con v):ϔ m o r d f held con (v::t) (qS d con a v) where
 len:=by unfold qS;rw[b8];exact s.len
 val:=λu u0 u1=>by
  have k:=(R.up v i h hr).1;have j:=s.len;have b:=s.val u u0 u1;unfold qS;rw[e];by_cases c:d v=u
  .have hl:u.toNat<a.length:=(by lia);rw[eG (by simpa using c),aF,aK,c];rw[show(a.set u.toNat (a.getD u.toNat 0+con v (Α m o r d f held con v))).getD u.toNat 0=a.getD u.toNat 0+con v (Α m o r d f held con v) by simp[List.getD,hl],b]
   lia
  .rw[eF (by simpa using c),<-b];have:(d v).toNat≠u.toNat:=(by lia);simp[List.getD,cP this]
theorem Order.places{t:du}(O:Order m r d t):∀x∈t,(0<=x/\x<m)/\x≠r:=λx a=>⟨O.Δ x a,O.ne a⟩
theorem Order.turn(g:Good m o)(R:ε m o r d f){t q:du}(O:Order m r d t){i:Nat}{v:Int}(s:ϔ m o r d f held con (t.drop (t.length-i)) q)(b:t.reverse[i]?=some v):((0<=v/\v<m)/\v≠r)/\q.getD v.toNat 0=Α m o r d f held con v/\ϔ m o r d f held con (t.drop (t.length-(i+1))) (qS d con q v):=by
 have G:i<t.length:=by
  have:=(aw.mp b).1
  rwa [aZ]at this
 rw[dg G]at b;generalize I:t.length-1-i=j at b;have E:t.length-i=j+1:=by lia
 have u:t.length-(i+1)=j:=by lia
 rw[E]at s;rw[u];have l:j<t.length:=by lia
 have H:v∈t:=aX b;have a:=O.places v H;have y:t.drop j=v::t.drop (j+1):=by
  rw[iG l];rw[aA l]at b;cases b
  rfl
 have n:t=t.take j++v::t.drop (j+1):=by rw[<-y,dN]
 have h:=(aV.mp O.nd).2;have c:=h;rw[n]at c;have F:v∉t.take j:=λz=>(da.mp c).2.2 v z v ax rfl;have e:=s.full g R (h.sublist (List.drop_sublist _ _)) (λx D=>O.places x (fT D)) a.1.1 a.1.2 λk A C B p=>by
  rcases O.all k A C with z|z
  .exact absurd z B
  .rw[n]at z;rcases bd.mp z with z|z
   .have af:=O.af;rw[n]at af;rcases af.up k z with w|w
    .rw[p]at w;exact absurd (aO.mp w) a.2
    .rw[p]at w;exact absurd w F
   .rcases aD.mp z with z|z
    .subst z;exact absurd p (R.ne A C B)
    .exact z
 exact⟨a,e,by rw[y];exact s.step g R a.1.1 a.1.2 a.2 e⟩
def sB(m:Int)(o:hT)(r:Int)(d:fc)(f:fz)(held:fc)(con:hR):List Int:=(bG m.toNat).map (Α m o r d f held con)
theorem zU{v:Int}(a:0<=v)(b:v<m):(sB m o r d f held con).getD v.toNat 0=Α m o r d f held con v:=by
 unfold sB;rw[List.getD,aG,fq (by lia),bW a]
 rfl
theorem Order.done(g:Good m o)(R:ε m o r d f){t a:du}(O:Order m r d t)(s:ϔ m o r d f held con t a):a=sB m o r d f held con:=by
 have n:=s.len;refine dJ λi=>?_;by_cases h:i<m.toNat
 .have hc:i<a.length:=by lia
  have e:=s.full g R (aV.mp O.nd).2 O.places (v:=(i:Int)) (by lia) (by lia) λk j b c l=>(O.all k j b).resolve_left c;unfold sB;rw[aG,fq h];rw[cu,List.getD,aA hc]at e;rw[aA hc];exact congrArg some e
 .unfold sB;rw[bn (by lia),bn (by rw[ag,bR];lia)]
def giv(o:hT)(d:fc)(v x:Int):Int:=x/(ci o v (d v)).getD 1
theorem ε.ZG(R:ε m o r d f){a b:Int}(h:ZF o a b):(b≠r/\d b=a)\/(a≠r/\d a=b):=by
 obtain⟨x,c,j⟩:=h;have:=R.road x c;rcases j with⟨e1,e2⟩|⟨e1,e2⟩
 .subst e1;subst e2;exact this.symm
 .subst e1;subst e2;exact this
end
section
variable{m:Int}{e:hT}{r:Int}{b:fc}{d:fz}{a:fc}
theorem qF(l:du)(i j:Nat)(x:Int)(h:i<l.length):(l.set i x).getD j 0=if i=j then x else l.getD j 0:=by
 by_cases c:i=j
 .subst c;rw[aj rfl];simp[List.getD,h]
 .rw[ah c];simp[List.getD,cP c]
end
end Pb
namespace L2
open PySem PySem.Spec PyProof.Rows
def DQ(a:du)(lo b:Option Int):List Int:=(a.drop (HT.ZD a.length 0 lo)).take (HT.ZD a.length a.length b-HT.ZD a.length 0 lo)
theorem FS(a:du)(lo b:Option Int):xa (a.map V.int) lo b=(DQ a lo b).map V.int:=by
 unfold xa DQ;rw[ag,List.map_take,mE]
theorem slI{K:gx}{H:Hp}{a:Addr}{c:du}{lo b:Option Int}{Q:VK}(h:ν K H a (c.map V.int))(q:∀p,H p=none->Q (.ref p) (upd H p (.lst ((DQ c lo b).map V.int)))):Vq K (.ref a) lo b H Q:=⟨a,_,rfl,h,λp d=>by rw[FS];exact q p d⟩
def R0(K:gx)(c:Bool):R2:=λx y H Q=>∃p a i v,x=.ref p/\y=.int i/\ϑ K c H p a/\gT a i=some v/\Q v H
theorem AZ{X:Cx}(c:Bool):IxR X (R0 X.K c):=by
 cases c
 .exact jT
 .exact cf
theorem Ue{X:Cx}(c:Bool)(K:gx)(h:X.K=K):IxR X (R0 K c):=by subst h;exact AZ c
theorem ixX{K:gx}{c:Bool}{H:Hp}{p:Addr}{a:List V}{i:Int}{v:V}{Q:VK}(h:ϑ K c H p a)(e:gT a i=some v)(q:Q v H):R0 K c (.ref p) (.int i) H Q:=⟨p,a,i,v,rfl,rfl,h,e,q⟩
theorem xO{K:gx}{H:Hp}{p:Addr}{a:List V}{i:Int}{v:V}{Q:VK}(h:Κ K H p a)(e:gT a i=some v)(q:Q v H):MC K (.ref p) (.int i) H Q:=⟨p,a,i,v,rfl,rfl,h,e,q⟩
end L2
namespace Pb
open L2 PySem
theorem KF{c d:Type}{R:c->d->Prop}:∀(n:Nat){b:List c}{a:List d},Paired R b a->Paired R (b.take n) (a.take n)
 | 0,_,_,_=>by rw[dY,dY];exact .nil
 | _+1,_,_,.nil=>.nil
 | n+1,_,_,.cons x xs=>.cons x (KF n xs)
theorem Kx{c d:Type}{R:c->d->Prop}:∀(n:Nat){b:List c}{a:List d},Paired R b a->Paired R (b.drop n) (a.drop n)
 | 0,_,_,h=>h
 | _+1,_,_,.nil=>.nil
 | n+1,_,_,.cons x xs=>Kx n xs
theorem NA{e f:Type}{R:e->f->Prop}{a:List e}{c:List f}(h:Paired R a c):∀{d:List e}{b:List f},Paired R d b->Paired R (d++a) (b++c)
 | _,_,.nil=>h
 | _,_,.cons x xs=>.cons x (NA h xs)
theorem Vp{c d:Type}{R:c->d->Prop}{b:List c}{a:List d}{q:c}{r:d}(n:Nat)(h:Paired R b a)(e:R q r):Paired R (b.take n++q::b.drop n) (a.take n++r::a.drop n):=NA (.cons e (Kx n h)) (KF n h)
theorem Ii(n:Nat):Ε n (bG n):=⟨bR n,hG n,λv b a=>dX.mpr ⟨b,a⟩,λv h=>dX.mp h⟩
theorem CI{n:Nat}{v:Int}(a:0<=v)(b:v<n):(bG n).getD v.toNat 0=v:=by
 rw[List.getD,fq (by lia),bW a]
 rfl
theorem Nh{n:Nat}{a:List Row}{b:Row}(R:Rows n a)(k:b.k=(n:Int)+1)(ok:ZE b):Rows (n+1) (a++[b]):=by
 have e:=R.len;refine⟨by rw[aN,e];rfl,λj r c=>?_⟩;by_cases d:j<a.length
 .rw[cU d]at c;exact R.ok j r c
 .have hj2:j=a.length:=by
   have:=(aw.mp c).1;rw[aN]at this;simp at this
   lia
  rw[hj2,cM (aJ _),d9]at c;cases c;exact⟨by rw[hj2,e];exact k,ok⟩
section
variable{m:Int}{e:hT}{r:Int}{d:fc}{f:fz}
def Τ(e:hT)(d:fc)(v x:Int):Int:=if 0<=x then x/(ci e v (d v)).getD 1 else x*(ci e (d v) v).getD 1
theorem yQ(g:Good m e)(R:ε m e r d f){v:Int}(p:0<=v)(n:v<m)(s:v≠r):∃k,ci e (d v) v=some k/\2<=k/\k<=1000000:=by
 obtain⟨x,h,j⟩:=(R.up v p n s).2.1;obtain⟨i,o⟩:=bZ h;have ok:=g.ok x h;have l:tI x (d v) v:=by
  rcases j with⟨a,b⟩|⟨a,b⟩
  .exact .inr ⟨b,a⟩
  .exact .inl ⟨b,a⟩
 rw[rf g o l];unfold kK;by_cases c:x.a=d v/\x.b=v
 .rw[aj c];exact⟨_,rfl,ok.t0,ok.t1⟩
 .rw[ah c];have q:x.a=v/\x.b=d v:=by
   rcases l with w|w
   .exact absurd w c
   .exact⟨w.2,w.1⟩
  rw[aj q];exact⟨_,rfl,ok.u0,ok.u1⟩
theorem Bt(i:Nat):bG (i+1)=bG i++[(i:Int)]:=by
 unfold bG;rw[dv,aE]
 rfl
end
def dA(m:Int)(b a:du):List Int:=(List.range m.toNat).map λi=>b.getD i 0-a.getD i 0
theorem Nr{m:Int}(h:0<=m)(b a:du):((dA m b a).length:Int)=m:=by unfold dA;rw[ag,cj];lia
end Pb
namespace L2
open PySem PySem.Spec PyProof.Rows
theorem Gc{P:Program}{w:World}{A:Around}{l:Addr}(c:Bool){it:Addr}(m:A.handled=none)(ne:l≠it)(a:Array Value):Draws P w A it [it,l] a.size (λi v=>a[i]?=some v) (λi h=>zAt l c it i h/\KU l c h a) where
 live:=λi h st=>let ⟨o,e,_⟩:=(j3 l c P w).obj _ _ _ st.1;⟨o,e⟩
 frame:=λi h b st k=>⟨(j3 l c P w).atK _ _ _ _ st.1 λo e=>k it (by simp) o e,(j3 l c P w).ZM _ _ _ st.2 λo e=>k l (by simp) o e⟩
 item:=λi s Q E hi st f=>(j3 l c P w).item A s it i a a[i] Q E st.1 st.2 (by simp[hi]) λb d g=>f a[i] b s.toks (by simp[hi]) ⟨d,(j3 l c P w).ZM _ _ _ st.2 λo e=>g.extBut _ _ ne e⟩ g
 done:=λs Q E st f=>(j3 l c P w).fin A s it a.size a Q E m st.1 st.2 (by simp) λb e n j=>f b e n j
section
variable{P:Program}{w:World}{A:Around}{E:gq}{s:Shared}{l:Addr}{f:Obj}{a:Heap->Array Value->Prop}{i:Addr->Nat->Heap->Prop}
abbrev FD(n:Nat):Obj:={ cls:=.type "enumerate",data:=.fields #[.none,.bool false,.ref n,rawInt 0,.none,.none] }
theorem Dd(S:∀P w,rW P w l f a i)(k:Array Value):Meets (Builtin.«enumerate.__new__» ⟨[.type "enumerate",.ref l],[]⟩) (λ_ R s=>a s.heap k/\R (.ok (.ret (.ref (s.heap.push f).objs.size))) { s with heap:=(s.heap.push f).push (FD s.heap.objs.size) }):=.of_wp λe w A R s j=>by
 obtain⟨o,g,d,n,os⟩:=s;obtain⟨m,r⟩:=j;have q:=sub_enumerate;have h:a (Shared.heap ⟨o,g,d,n,os⟩) k:=m
 wp_walk using ((S e w).start _ _ _ _ _ h)
 refine wpAny_stack_any λst=>?_;dsimp only;refine bh ?_;have p:∀b:Bool,b=true\/b=false:=λb=>by cases b<;>simp
 split
 .rename_i c _ _ _ _ _
  rcases p (c==Value.type "enumerate")with z|z
  .rw[z]
   wp_walk using ((S e w).start _ _ _ _ _ h)
   exact⟨_,rfl,r⟩
  .rw[z]
   wp_walk using ((S e w).start _ _ _ _ _ h)
   exact⟨_,rfl,r⟩
 .wp_walk using ((S e w).start _ _ _ _ _ h)
  exact⟨_,rfl,r⟩
theorem Nl(S:∀P w,rW P w l f a i){j:Array Value}{Q:gq}(p:a s.heap j)(m:f.isFreed=false)(h:∀b,IsEnum b (s.heap.objs.size+1) s.heap.objs.size 0 .none->i s.heap.objs.size 0 b->(∀c o,s.heap.get? c=some o->b.get? c=some o)->Q (.ref (s.heap.objs.size+1)) { s with heap:=b }):wpAny (model P w) A (call (.type "enumerate") [.ref l]) Q E s:=by
 refine callType_new F.called_enumerate (by decide) (F.typeCall_enumerate_1 _) (F.newCall_enumerate_1 _) (λd=>F.args_object_init_2 d _) F.entry_enumerate_new (Dd S j) ⟨p,?_⟩;have k:(s.heap.push f).objs.size=s.heap.objs.size+1:=dz ..;have g:((s.heap.push f).push (FD s.heap.objs.size)).get? (s.heap.push f).objs.size=some (FD s.heap.objs.size):=bc _ rfl;have n:((s.heap.push f).push (FD s.heap.objs.size)).get? s.heap.objs.size=some f:=ay _ (bc _ m);show _/\_;rw[k]at g;rw[k];exact⟨⟨_,g,rfl⟩,h _ g ((S P w).first _ _ n) λc o e=>ay _ (ay _ e)⟩
end
def Ite(K:gx)(c:Bool)(a:Addr):It:=⟨λi H=>∃b x,ϑ K c H a b/\b[i]?=some x,λi H v d=>∃p x,H p=none/\v=.ref p/\d=upd H p (.tup [.int i,x])/\∀b,ϑ K c H a b->b[i]?=some x,λi H=>∃b,ϑ K c H a b/\b.length=i⟩
theorem M5{P:Program}{w:World}{K:gx}{G:List Expr}{x1}{Ge:Pos}(c:Bool)(a e it:Addr)(ne:e≠it)(ae:a≠e)(ai:a≠it):Turn P w K (.Tuple G x1 Ge) (Ite K c a) [e,it] e (λi h=>(∃y,IsEnum h e it (i:Nat) y)/\zAt a c it i h) where
 mem:=by simp
 obj:=λi h t b hb=>by
  obtain⟨⟨y,t1⟩,F⟩:=t;simp only[aD,df,or_false]at hb;rcases hb with rfl|rfl
  .exact⟨_,t1,λv z=>by cases z⟩
  .exact(j3 a c P w).obj _ _ _ F
 keep:=λi h V t k=>by
  obtain⟨⟨y,t1⟩,F⟩:=t;exact⟨⟨y,k e (by simp) _ t1⟩,(j3 a c P w).atK _ _ _ _ F λo e=>k it (by simp) o e⟩
 item:=λX e1 e2 e3 hc i C s σ H E I f t g=>by
  subst e1 e2 e3;obtain⟨⟨y,t1⟩,F⟩:=t;obtain⟨xs,x,s1,Z⟩:=g;obtain⟨L,r1,q1⟩:=I.Ac s1;obtain⟨xu,U,rx⟩:=r1.get Z;have hh:X.A.in1.handled=none:=I.ok.hd hc;have D:∀q∈[e,it],pD X C H q:=f;have W:=WalksT.enumerateD (A:=X.A) (Gc (P:=X.prog) (w:=X.w) (A:=X.A.in1) (l:=a) c (it:=it) hh ai L.toArray) e ne (by simp;exact⟨ne,ae.symm⟩) (by simp);have ak:i<L.toArray.size:=by
   have:=(aw.mp U).1
   simpa using this
  refine W.item i s _ _ ak ⟨⟨y,t1⟩,F,q1⟩ λT a6 V tk pt le tup N keep=>?_;refine⟨_,rfl,W.go G x1 Ge i T { s with heap:=V,toks:=tk } _ _ N λY S O=>?_⟩;obtain⟨tt,xv,px,ev⟩:=pt;have ar:xv=xu:=by
   have h1:L[i]?=some xv:=(by simpa using px);rw[U]at h1;cases h1
   rfl
  subst ar;have Tw:T∉[e,it]:=W.apart i T V N;have kp:∀q o,q∉[e,it]->s.heap.get? q=some o->Y.get? q=some o:=λq o d eo=>O q o d (keep q o d eo);obtain⟨ot,ht,an,nt,aS⟩:=tup;have am:Y.get? T=some ot:=O T ot Tw ht;have M:∀q u,H q=some u->q∉[e,it]:=λq u e d=>by rw[(D q d).1]at e;cases e
  have J:H T=none:=I.Β.fresh le;have Tb:∀q o,s.heap.get? q=some o->q≠T:=λq o eo=>aW (aP (aH eo) le);have B:Inv X C σ H { s with heap:=Y,toks:=tk }:=by
   refine I.step (g':=s.gens) (d':=s.drawn) (t':=tk) (ch:=[e,it]) (λq d=>⟨(D q d).2.2.2.1,(D q d).2.1,(D q d).2.2.2.2.1,(D q d).2.2.2.2.2⟩) (λq o _ _ d e _=>kp q o d e) (λq o _ _ d e _=>⟨o.slots,kp q o d e⟩) (λ_ _ _ _ n=>n)
    (λq o d e=>⟨o,kp q o d e⟩) (λ_ _ e=>e) (λ_ _ _ e=>e) (λq ps e=>⟨#[],by rw[e];simp⟩) (λm hm=>?_) (λq u e=>?_) I.bare
   .obtain⟨o,es,ep,ho,r⟩:=hm;exact⟨o,es,ep,kp _ o (λd=>(D _ d).2.1 rfl) ho,r⟩
   .refine(I.Β q u e).dO (λR v Zr j=>kp R v ?_ j) (λ_ j=>j) λ_ _ j=>j;rcases Zr with rfl|Zr
    .exact M _ u e
    .exact M _ _ Zr
  have I3:Inv X C σ (upd H T (.tup [.int i,x])) { s with heap:=Y,toks:=tk }:=by
   refine⟨B.ok,B.os,B.bare,?_,B.loc,B.cell,?_,λn c e=>?_,λp hp=>?_,λq u e=>?_,B.len⟩
   .refine⟨B.base.keep,B.base.slot,λq o e n Z=>?_,B.base.there,λq xs e=>?_,λq o u e=>?_,λq ps e=>?_⟩
    .have lt:q<X.s₀.heap.objs.size:=aH e;rw[aL (aW (aP lt (bw I.sz le)))];exact B.base.free q o e n Z
    .have j:=B.base.ϟ q xs e;rw[aL (λz=>by rw[z,J]at j;cases j)];exact j
    .have j:=B.base.eQ q o u e;rw[aL (λz=>by rw[z,J]at j;cases j)];exact j
    .obtain⟨more,j⟩:=B.base.lT q ps e;exact⟨more,by rw[aL (λz=>by rw[z,J]at j;cases j)];exact j⟩
   .rw[aL (aW (aP I.lt le))];exact B.free
   .obtain⟨vv,o,ho,_⟩:=I.cell n c e;rw[aL (Tb _ _ ho)];exact B.ϡ n c e
   .obtain⟨k1,k2,k3⟩:=I.pin p hp;rw[aL (Tb _ _ k1)];exact B.pin p hp
   .by_cases d:q=T
    .subst d;rw[az]at e;cases e;refine⟨by show 2<=sizeLine;decide,[.int (i:Nat) tt,xv],.cons ⟨tt,rfl⟩ (.cons rx .nil),ot,am,an,nt,?_⟩;rw[aS,ev]
    .rw[aL d]at e;refine(B.Β q u e).dO (λ_ _ _ j=>j) (λR j=>?_) λR xs j=>?_
     .rw[aL (λz=>by rw[z,J]at j;cases j)];exact j
     .rw[aL (λz=>by rw[z,J]at j;cases j)];exact j
  refine⟨.ref T,_,I3,rfl,⟨T,x,J,rfl,rfl,λbt q=>?_⟩,⟨S.1,S.2.1⟩,λq d=>?_⟩
  .rw[<-I.ZN s1 q];exact Z
  .have ϗ:q≠T:=by
    simp only[aD,df,or_false]at d;rcases d with rfl|rfl
    .exact Tb _ _ t1
    .exact let ⟨o,e,_⟩:=(j3 a c X.prog X.w).obj _ _ _ F;Tb _ _ e
   rw[aL ϗ];exact(D q d).1
 done:=λX e1 e2 e3 hc i C s σ H E I f t g=>by
  subst e1 e2 e3;obtain⟨⟨y,t1⟩,F⟩:=t;obtain⟨xs,s1,bs⟩:=g;obtain⟨L,r1,q1⟩:=I.Ac s1;have hh:X.A.in1.handled=none:=I.ok.hd hc;have D:∀q∈[e,it],pD X C H q:=f;have W:=WalksT.enumerateD (A:=X.A) (Gc (P:=X.prog) (w:=X.w) (A:=X.A.in1) (l:=a) c (it:=it) hh ai L.toArray) e ne (by simp;exact⟨ne,ae.symm⟩) (by simp);have ei:i=L.toArray.size:=by
   have:=r1.length;simp
   lia
  subst ei;refine W.done s _ _ ⟨⟨y,t1⟩,F,q1⟩ λV tk keep=>⟨rfl,?_⟩;have kp:∀q o,q∉[e,it]->s.heap.get? q=some o->V.get? q=some o:=λq o d e=>keep q o d e;have M:∀q u,H q=some u->q∉[e,it]:=λq u e d=>by rw[(D q d).1]at e;cases e
  refine I.step (g':=s.gens) (d':=s.drawn) (t':=tk) (ch:=[e,it]) (λq d=>⟨(D q d).2.2.2.1,(D q d).2.1,(D q d).2.2.2.2.1,(D q d).2.2.2.2.2⟩) (λq o _ _ d e _=>kp q o d e) (λq o _ _ d e _=>⟨o.slots,kp q o d e⟩) (λ_ _ _ _ n=>n)
   (λq o d e=>⟨o,kp q o d e⟩) (λ_ _ e=>e) (λ_ _ _ e=>e) (λq ps e=>⟨#[],by rw[e];simp⟩) (λm hm=>?_) (λq u e=>?_) I.bare
  .obtain⟨o,es,ep,ho,r⟩:=hm;exact⟨o,es,ep,kp _ o (λd=>(D _ d).2.1 rfl) ho,r⟩
  .refine(I.Β q u e).dO (λR v Zr j=>kp R v ?_ j) (λ_ j=>j) λ_ _ j=>j;rcases Zr with rfl|Zr
   .exact M _ u e
   .exact M _ _ Zr
 self:=λA i s Q E t q=>by
  obtain⟨⟨y,t1⟩,F⟩:=t;exact wpAny_pyIter_enum t1 q
def Mg(K:gx)(c:Bool)(e:TE):TI:=λd H R=>e d H λx b=>∃a,x=.ref a/\(∃f,ϑ K c b a f)/\R (Ite K c a) b
section
variable{X:Cx}{e:Expr}{f:TE}{g d:Pos}
theorem yR{j:List Expr}{x1}{Ge:Pos}(c:Bool)(hg:Gl X "enumerate")(hm:X.mg "enumerate"=none)(he:PE X e f)(h2:starEach [e] X.env=[(false,eval e X.env)]:=by rfl):PI X (.Tuple j x1 Ge) (.Call (.Name "enumerate" g) [e] [] d) (Mg X.K c f):=by
 intro k s A H R I h;refine Call_ (pS I hg hm boot_enumerate (cG ?_ h2 rfl));rw[h2];show wpAny _ _ (spliced ((false,eval e X.env)::backTo d [])) _ _ s;refine gM (eT (he k s A H _ I h) λu m x z n r l=>gV ?_);obtain⟨a,y,⟨D,B⟩,q⟩:=l;subst y;cases r;obtain⟨F,r,l⟩:=n.Ac B;obtain⟨E,o⟩:=rV a c _ _ l;have t:=aH o;refine Nl (j3 a c) l (xA a c) λG p C w=>?_;refine wpAny_pyIter_enum p ?_;refine⟨_,[m.heap.objs.size+1,m.heap.objs.size],_,_,z,rfl,n.kept (t':=m.toks) w,M5 c a _ _ (Nat.succ_ne_self _) (aW (gL t)) (aW t),⟨⟨_,p⟩,C⟩,λb v=>?_,q⟩;have i:m.heap.objs.size<=b:=by
  simp only[aD,df,or_false]at v;rcases v with rfl|rfl
  .exact fY _
  .exact aJ _
 exact n.aaY i (n.Β.fresh i)
end
theorem HS{K:gx}{c:Bool}{a:Addr}{xs:List V}{g:TG}{q:TS}{D:Ends}{b:St}{H:Hp}(f:Nat->St->Hp->Prop)(r:f 0 b H)(v:∀i b H,f i b H->ϑ K c H a xs)(w:∀(i:Nat) (x:V) (b:St) (H:Hp) (p:Addr) (N:St->Hp->Prop),(∀d h,f (i+1) d h->N d h)->xs[i]?=some x->f i b H->H p=none->g (.ref p) b (upd H p (.tup [.int i,x])) λl A=>q { D with nx:=N,ct:=N,bk:=D.nx } l A)(u:∀b H,f xs.length b H->D.nx b H):rX (Ite K c a) D g q b H:=by
 refine⟨λi m b H=>m=xs.length-i/\i<=xs.length/\f i b H,⟨_,rfl,b7 _,r⟩,?_⟩;rintro i m b H ⟨rfl,C,p⟩;have j:=v i b H p;by_cases o:i<xs.length
 .refine .inr ⟨⟨xs,xs[i],j,aA o⟩,λd h=>∃n,n<xs.length-i/\(n=xs.length-(i+1)/\i+1<=xs.length/\f (i+1) d h),λd h z=>z,λx h y=>?_⟩;obtain⟨k,s,B,rfl,rfl,t⟩:=y;exact w i s b H k _ (λd h k=>⟨xs.length-(i+1),by lia,rfl,o,k⟩) (t xs j) p B
 .have e:i=xs.length:=by lia
  subst e;exact .inl ⟨⟨xs,j,rfl⟩,u b H p⟩
end L2
namespace Pb
open L2 PySem
abbrev Stp:=Int×Int×Int
theorem vf{e f:Type}{R:e->f->Prop}{a:e}{b:f}(h:R a b):∀{d:List e}{c:List f},Paired R d c->Paired R (d++[a]) (c++[b])
 | _,_,.nil=>.cons h .nil
 | _,_,.cons x xs=>.cons x (vf h xs)
theorem HH{c g:Type}{R:c->g->Prop}:∀{d:List c}{f:List g}{i:Nat}{x:c},Paired R d f->d[i]?=some x->∃v,f[i]?=some v/\R x v
 | _,_,i,x,.nil,e=>by simp at e
 | _,_,0,x,.cons (a:=p) (b:=r) h hs,e=>by
   have:p=x:=by simpa using e
   subst this;exact⟨r,by simp,h⟩
 | a::l1,_,i+1,x,.cons h hs,e=>by
   have k:l1[i]?=some x:=by simpa using e
   obtain⟨v,j,l⟩:=HH hs k;exact⟨v,by simpa using j,l⟩
def fQ(c:hT)(a b:Int):Int:=(ci c a b).getD 1
def gD(b:hT)(a:du)(s:Stp):List Int:=(a.set s.1.toNat (a.getD s.1.toNat 0-s.2.2*fQ b s.1 s.2.1)).set s.2.1.toNat ((a.set s.1.toNat (a.getD s.1.toNat 0-s.2.2*fQ b s.1 s.2.1)).getD s.2.1.toNat 0+s.2.2)
theorem EE(b:hT)(a:du)(s:Stp):(gD b a s).length=a.length:=by unfold gD;rw[b8,b8]
def p7(m:Int)(a:hT)(s:Stp):Bool:=decide (0<=s.1)&&decide (s.1<m)&&decide (s.2.1∈ie m a s.1)&&decide (1<=s.2.2)
def rZ(m:Int)(a:hT)(b:du)(s:Stp):Bool:=p7 m a s&&decide (s.2.2*fQ a s.1 s.2.1<=b.getD s.1.toNat 0)
theorem sY{m:Int}{a:hT}{s:Stp}(h:p7 m a s=true):(0<=s.1/\s.1<m)/\s.2.1∈ie m a s.1/\1<=s.2.2:=by
 unfold p7 at h;rw[bD,bD,bD]at h;exact⟨⟨bF h.1.1.1,bF h.1.1.2⟩,bF h.1.2,bF h.2⟩
theorem lD{m:Int}{d:hT}(g:Good m d){a b:Int}(h:ZF d a b):∃k,ci d a b=some k/\2<=k/\k<=1000000:=by
 obtain⟨x,e,j⟩:=h;obtain⟨i,l⟩:=bZ e;have ok:=g.ok x e;have f:tI x a b:=j;rw[rf g l f];unfold kK;by_cases c:x.a=a/\x.b=b
 .rw[aj c];exact⟨_,rfl,ok.t0,ok.t1⟩
 .rw[ah c];have n:x.a=b/\x.b=a:=by
   rcases f with w|w
   .exact absurd w c
   .exact⟨w.2,w.1⟩
  rw[aj n];exact⟨_,rfl,ok.u0,ok.u1⟩
theorem M0{m:Int}{a:hT}(g:Good m a){s:Stp}(h:p7 m a s=true):∃k,ci a s.1 s.2.1=some k/\fQ a s.1 s.2.1=k/\(2<=k/\k<=1000000)/\(0<=s.2.1/\s.2.1<m):=by
 obtain⟨d,c,f⟩:=sY h;have b:=(ij g).mp c;obtain⟨k,e,r⟩:=lD g b;exact⟨k,e,by unfold fQ;rw[e];rfl,r,(g.ZG b).2.1⟩
end Pb
namespace Pb
open L2
section
variable{m:Int}{i:hT}{r:Int}{a:fc}{d:fz}{b j:fc}{e:hR}
theorem JV{f h:fc}:∀{l:du},(∀c∈l,f c<=h c)->(l.map f).sum<=(l.map h).sum
 | [],_=>bO _
 | c::l,hl=>by
   rw[aF,aF,aK,aK];have k:=hl c ax;have n:=JV (l:=l) λx g=>hl x (aq _ g)
   lia
theorem pN{f h:fc}{l:du}(g:∀c∈l,f c=h c):(l.map f).sum=(l.map h).sum:=by rw[bQ g]
theorem Kg{f h:fc}{c0:Int}:∀{l:du},l.Nodup->c0∈l->(∀c∈l,c≠c0->f c=h c)->(l.map f).sum=(l.map h).sum+(f c0-h c0)
 | [],_,hm,_=>by cases hm
 | c::l,nd,hm,hl=>by
   obtain⟨k,n⟩:=aV.mp nd;rw[aF,aF,aK,aK];by_cases z:c=c0
   .subst z;rw[pN (f:=f) (h:=h) (l:=l) λx g=>hl x (aq _ g) λw=>k (w▸g)]
    lia
   .have hm':c0∈l:=by
     rcases aD.mp hm with w|w
     .exact absurd w.symm z
     .exact w
    rw[hl c ax z,Kg n hm' λx g=>hl x (aq _ g)]
    lia
structure Z1(m:Int)(r:Int)(a:fc)(b j:fc)(c0 dc dp:Int):Prop where
 Δ:0<=c0/\c0<m
 nr:c0≠r
 own:j c0=b c0+dc
 up:j (a c0)=b (a c0)+dp
 oth:∀v,0<=v->v<m->v≠c0->v≠a c0->j v=b v
theorem Z1.deep(g:Good m i)(R:ε m i r a d){l q t:Int}(C:Z1 m r a b j l q t):∀(n:Nat)(v:Int),m.toNat-d v=n->0<=v->v<m->d l<d v->Α m i r a d j e v=Α m i r a d b e v:=by
 intro n
 induction n using Nat.strongRecOn with
 | _ n ih=>
   intro v y h k o;have x:=R.pos C.Δ.1 C.Δ.2 C.nr;rw[eI g R h k,eI g R h k,C.oth v h k (λz=>by rw[z]at o;lia) (λz=>by rw[z]at o;lia)]
   congr 1
   refine pN λc u=>?_;obtain⟨f,s,p⟩:=(ce g R h k).mp u;have w:=R.pos f.1 f.2 s;have dl:=iJ R f.1 f.2;rw[p]at w;rw[ih (m.toNat-d c) (by lia) c rfl f.1 f.2 (by lia)]
theorem Z1.at(g:Good m i)(R:ε m i r a d){f k l:Int}(C:Z1 m r a b j f k l):Α m i r a d j e f=Α m i r a d b e f+k:=by
 rw[eI g R C.Δ.1 C.Δ.2,eI g R C.Δ.1 C.Δ.2,C.own];have:((cq m i (front r a f) f).map λc=>e c (Α m i r a d j e c)).sum=((cq m i (front r a f) f).map λc=>e c (Α m i r a d b e c)).sum:=by
  refine pN λc n=>?_;obtain⟨h,o,p⟩:=(ce g R C.Δ.1 C.Δ.2).mp n;have q:=R.pos h.1 h.2 o;rw[p]at q;rw[C.deep g R _ c rfl h.1 h.2 (by lia)]
 rw[this]
 lia
theorem Z1.side(g:Good m i)(R:ε m i r a d){l o t:Int}(C:Z1 m r a b j l o t){v:Int}(f:0<=v)(k:v<m)(p:d v=d l)(s:v≠l):Α m i r a d j e v=Α m i r a d b e v:=by
 have x:=R.pos C.Δ.1 C.Δ.2 C.nr;rw[eI g R f k,eI g R f k,C.oth v f k s (λz=>by rw[z]at p;lia)]
 congr 1
 refine pN λc u=>?_;obtain⟨h,q,n⟩:=(ce g R f k).mp u;have w:=R.pos h.1 h.2 q;rw[n]at w;rw[C.deep g R _ c rfl h.1 h.2 (by lia)]
theorem Z1.ahead(g:Good m i)(R:ε m i r a d){c0 p o:Int}(C:Z1 m r a b j c0 p o):Α m i r a d j e (a c0)=Α m i r a d b e (a c0)+(o+e c0 (Α m i r a d b e c0+p)-e c0 (Α m i r a d b e c0)):=by
 have u:=R.up c0 C.Δ.1 C.Δ.2 C.nr;rw[eI g R u.1.1 u.1.2,eI (held:=b) g R u.1.1 u.1.2,C.up];have:=Kg (c0:=c0) (f:=λc=>e c (Α m i r a d j e c)) (h:=λc=>e c (Α m i r a d b e c)) (l:=cq m i (front r a (a c0)) (a c0)) jX ((ce g R u.1.1 u.1.2).mpr ⟨C.Δ,C.nr,rfl⟩) λc q n=>by
  obtain⟨k,s,t⟩:=(ce g R u.1.1 u.1.2).mp q;have v:=R.pos k.1 k.2 s;have w:=R.pos C.Δ.1 C.Δ.2 C.nr;rw[t]at v;show e c _=e c _;rw[C.side g R k.1 k.2 (by lia) n]
 rw[this,C.at g R]
 lia
theorem Z1.le(g:Good m i)(R:ε m i r a d)(G:∀v x y,x<=y->e v x<=e v y){k u A:Int}(C:Z1 m r a b j k u A)(D:A+e k (Α m i r a d b e k+u)<=e k (Α m i r a d b e k)):∀(n:Nat)(v:Int),d k-d v=n->0<=v->v<m->v≠k->Α m i r a d j e v<=Α m i r a d b e v:=by
 intro n
 induction n with
 | zero=>
   intro v B o p s;by_cases z:d v=d k
   .exact Int.le_of_eq (C.side g R o p z s)
   .exact Int.le_of_eq (C.deep g R _ v rfl o p (by lia))
 | succ n ih=>
   intro v B o p s;by_cases z:v=a k
   .rw[z,C.ahead g R]
    lia
   .rw[eI g R o p,eI (held:=b) g R o p,C.oth v o p s z];have:=JV (f:=λc=>e c (Α m i r a d j e c)) (h:=λc=>e c (Α m i r a d b e c)) (l:=cq m i (front r a v) v) λc F=>by
     obtain⟨q,E,t⟩:=(ce g R o p).mp F;have H:=R.pos q.1 q.2 E;rw[t]at H;exact G c _ _ (ih c (by lia) q.1 q.2 λw=>z (by rw[<-w,t]))
    lia
theorem Z1.eq(g:Good m i)(R:ε m i r a d){f q s:Int}(C:Z1 m r a b j f q s)(u:s+e f (Α m i r a d b e f+q)=e f (Α m i r a d b e f)):∀(n:Nat)(v:Int),d f-d v=n->0<=v->v<m->v≠f->Α m i r a d j e v=Α m i r a d b e v:=by
 intro n
 induction n with
 | zero=>
   intro v t h k o;by_cases z:d v=d f
   .exact C.side g R h k z o
   .exact C.deep g R _ v rfl h k (by lia)
 | succ n ih=>
   intro v t h k o;by_cases z:v=a f
   .rw[z,C.ahead g R]
    lia
   .rw[eI g R h k,eI (held:=b) g R h k,C.oth v h k o z]
    congr 1
    refine pN λc y=>?_;obtain⟨l,x,p⟩:=(ce g R h k).mp y;have A:=R.pos l.1 l.2 x;rw[p]at A;rw[ih c (by lia) l.1 l.2 λw=>z (by rw[<-w,p])]
theorem Ak(g:Good m i)(R:ε m i r a d){c:du}(A:(c.length:Int)=m){s:Stp}(is:p7 m i s=true):(s.1≠r/\a s.1=s.2.1/\Z1 m r a (λv=>c.getD v.toNat 0) (λv=>(gD i c s).getD v.toNat 0) s.1 (-(s.2.2*fQ i s.1 s.2.1)) s.2.2)\/(s.2.1≠r/\a s.2.1=s.1/\Z1 m r a (λv=>c.getD v.toNat 0) (λv=>(gD i c s).getD v.toNat 0) s.2.1 s.2.2 (-(s.2.2*fQ i s.1 s.2.1))):=by
 obtain⟨x,w,y⟩:=sY is;have o:=(ij g).mp w;have u:=(g.ZG o).2.1;have z:=(g.ZG o).2.2;have t:(gD i c s).getD s.1.toNat 0=c.getD s.1.toNat 0 + -(s.2.2*fQ i s.1 s.2.1):=by
  unfold gD;rw[qF _ _ _ _ (by rw[b8];lia),ah (by lia),qF _ _ _ _ (by lia),aj rfl]
  lia
 have p:(gD i c s).getD s.2.1.toNat 0=c.getD s.2.1.toNat 0+s.2.2:=by
  unfold gD;rw[qF _ _ _ _ (by rw[b8];lia),aj rfl,qF _ _ _ _ (by lia),ah (by lia)]
 have q:∀v:Int,0<=v->v≠s.1->v≠s.2.1->(gD i c s).getD v.toNat 0=c.getD v.toNat 0:=λv l h f=>by
  unfold gD;rw[qF _ _ _ _ (by rw[b8];lia),ah (by lia),qF _ _ _ _ (by lia),ah (by lia)]
 rcases R.ZG o with⟨h,f⟩|⟨h,f⟩
 .exact .inr ⟨h,f,u,h,p,by rw[f];exact t,λv l _ n k=>q v l (by rw[f]at k;exact k) n⟩
 .exact .inl ⟨h,f,x,h,t,by rw[f];exact p,λv l _ n k=>q v l n (by rw[f]at k;exact k)⟩
end
end Pb
namespace L2
open PySem PySem.Spec PyProof.Rows
theorem WM(a:List V){k:Int}(e:0<=k):xa a (some k) none=a.drop k.toNat:=by
 unfold xa;have b:HT.ZD a.length a.length none=a.length:=rfl;have d:HT.ZD a.length 0 (some k)=min k.toNat a.length:=by
  show(if k<0 then(k+(a.length:Int)).toNat else min k.toNat a.length)=_;rw[ah (by lia)]
 rw[b,d,cw (by rw[eZ];lia)];by_cases c:k.toNat<=a.length
 .rw[Nat.min_eq_left c]
 .rw[Nat.min_eq_right (by lia),lW (aJ _),lW (by lia)]
end L2
namespace Pb
open L2 PySem
theorem Ad{m:Int}{a:hT}{b:du}{s:Stp}(h:rZ m a b s=true):p7 m a s=true/\s.2.2*fQ a s.1 s.2.1<=b.getD s.1.toNat 0:=by
 unfold rZ at h;rw[bD]at h;exact⟨h.1,bF h.2⟩
theorem U7{m:Int}{b:hT}(g:Good m b){a:du}(i:(a.length:Int)=m)(d:∀x∈a,0<=x){s:Stp}(h:rZ m b a s=true):∀x∈gD b a s,0<=x:=by
 obtain⟨is,le⟩:=Ad h;obtain⟨e,j,f⟩:=sY is;have c:∀x∈a.set s.1.toNat (a.getD s.1.toNat 0-s.2.2*fQ b s.1 s.2.1),0<=x:=B3 d (by lia);unfold gD;exact B3 c (by have:=JW c s.2.1.toNat;lia)
section
variable{m:Int}{b:hT}
theorem yF:∀(l:du)(i:Nat)(v:Int),i<l.length->(l.set i v).sum=l.sum-l.getD i 0+v
 | [],i,v,h=>by simp at h
 | a::l,0,v,_=>by simp;lia
 | a::l,i+1,v,h=>by
   have c:=yF l i v (by simpa using h);have e:(a::l).getD (i+1) 0=l.getD i 0:=by simp[List.getD]
   rw[List.set_cons_succ,aK,aK,c,e]
   lia
end
def AtX(c:Bool)(H:Hp)(a:Addr)(b:List V):Prop:=H a=some (if c then .lst b else .tup b)
theorem AtX.sq{K:gx}{c:Bool}{H:Hp}{a:Addr}{b:List V}(h:AtX c H a b):ϑ K c H a b:=by
 cases c
 .exact Κ.of h
 .exact ν.of h
section
variable{m:Int}{d:hT}{r b:Int}{a:fc}{c:fz}
def DH(a:fc)(b:Int):Nat->Int->Bool
 | 0,v=>decide (v=b)
 | n+1,v=>decide (v=b)||DH a b n (a v)
def ben(a:fc)(c:fz)(b v:Int):Bool:=DH a b (c v) v
theorem P1(R:ε m d r a c){v:Int}(e:0<=v)(g:v<m)(f:v≠r):ben a c b v=(decide (v=b)||ben a c b (a v)):=by
 unfold ben;rw[R.pos e g f]
 rfl
def LC(m:Int)(a:fc)(c:fz)(b:Int):List Int:=(bG m.toNat).filter (ben a c b)
theorem K5:(LC m a c b).Nodup:=(hG _).filter _
theorem SR{v:Int}:v∈LC m a c b↔(0<=v/\v<m)/\ben a c b v=true:=by
 unfold LC;rw[bu,dX]
 constructor
 .rintro⟨h1,h2⟩;exact⟨⟨h1.1,by lia⟩,h2⟩
 .rintro⟨h1,h2⟩;exact⟨⟨h1.1,by lia⟩,h2⟩
end
end Pb
namespace L2
theorem gJ{A B:TS}{D:Ends}{b:St}{H:Hp}(h:∀N:St->Hp->Prop,(∀a c,B D a c->N a c)->A { D with nx:=N } b H):K0 A B D b H:=h (B D) λ_ _ z=>z
end L2
namespace L2
open PySem
theorem mq{K:gx}{a:Addr}{xs:List V}{g:TG}{h:TS}{D:Ends}{b:St}{H:Hp}(d:Nat->St->Hp->Prop)(k:d 0 b H)(o:∀i b H,i<=xs.length->d i b H->ν K H a xs)(q:∀(i:Nat) (x:V) (b:St) (H:Hp) (N B:St->Hp->Prop),(∀b H,(g x b H λc f=>h { D with nx:=N,ct:=N,bk:=D.nx } c f)->B b H)->(∀e j,d (i+1) e j->N e j)->xs[i]?=some x->d i b H->B b H)(m:∀(B:St->Hp->Prop) b H,(∀b H,D.nx b H->B b H)->d xs.length b H->B b H):rX (Itl K a) D g h b H:=yo d k o (λi x b H N n l p=>q i x b H N (λb H=>g x b H λc f=>h { D with nx:=N,ct:=N,bk:=D.nx } c f) (λ_ _ z=>z) n l p) λb H p=>m (λb H=>D.nx b H) b H (λ_ _ z=>z) p
theorem Dt{c:TT}{i:TS}{D:Ends}{d:St}{H:Hp}(W:Nat->St->Hp->Prop)(k:Nat)(l:W k d H)(o:∀(n:Nat) (d:St) (H:Hp) (N:St->Hp->Prop) (B:Nat->St->Hp->Prop),(∀n d H,(c d H λb g=>if b=true then ∃N:St->Hp->Prop,(∀a e,N a e->∃f,f<n/\W f a e)/\i { D with nx:=N,ct:=N,bk:=D.nx } d g else D.nx d g)->B n d H)->(∀j a e,j<n->W j a e->N a e)->(∀a e,N a e->∃f,f<n/\W f a e)->W n d H->B n d H):GK c i D d H:=C6 W k l λn d H N m h w=>o n d H N (λn d H=>c d H λb g=>if b=true then ∃N:St->Hp->Prop,(∀a e,N a e->∃f,f<n/\W f a e)/\i { D with nx:=N,ct:=N,bk:=D.nx } d g else D.nx d g) (λ_ _ _ z=>z) m h w
theorem an4{c d b a:Prop}(f:c)(e:d)(h:b)(g:a):c/\d/\b/\a:=⟨f,e,h,g⟩
theorem an6{c d b a f e:Prop}(h:c)(g:d)(j:b)(i:a)(k:f)(l:e):c/\d/\b/\a/\f/\e:=⟨h,g,j,i,k,l⟩
theorem an7{d e b a g f c:Prop}(i:d)(h:e)(k:b)(j:a)(m:g)(n:f)(l:c):d/\e/\b/\a/\g/\f/\c:=⟨i,h,k,j,m,n,l⟩
end L2
namespace Pb
open L2 PySem
section
variable{m:Int}{e:hT}{r b:Int}{a:fc}{d:fz}
theorem Kv:∀(n:Nat)(v:Int),DH a b n v=decide (b∈mT a n v)
 | 0,v=>by
   show decide (v=b)=decide (b∈[v]);exact iV.mpr ⟨λz=>by rw[z];exact ax,λz=>(aO.mp z).symm⟩
 | n+1,v=>by
   show(decide (v=b)||DH a b n (a v))=decide (b∈v::mT a n (a v));rw[Kv n (a v)];by_cases c:v=b
   .rw[bE c,Bool.true_or,bE (by rw[c];exact ax)]
   .rw[cV c,nK];exact iV.mpr ⟨λz=>aq _ z,λz=>by
     rcases aD.mp z with z|z
     .exact absurd z.symm c
     .exact z⟩
end
section
variable{m:Int}{j:hT}{r b:Int}{a:fc}{d:fz}
theorem Tx:∀(k:Nat)(x:Int),up a (k+1) x=up a k (a x)
 | 0,_=>rfl
 | k+1,x=>by show a (up a (k+1) x)=a (up a k (a x));rw[Tx k x]
theorem zq:∀(n k:Nat)(x:Int),k<=n->up a k x∈mT a n x
 | 0,0,x,_=>ax
 | n+1,0,x,_=>ax
 | n+1,k+1,x,h=>by
   rw[Tx];exact aq _ (zq n k (a x) (by lia))
theorem KG{f:Int->List Int}:∀{l:du}{k:Nat}{p:Int},(l.flatMap f)[k]?=some p->∃u∈l,∃e rest,(f u)[e]?=some p/\(l.flatMap f).drop k=(f u).drop e++rest
 | [],k,p,h=>by simp at h
 | u::l,k,p,h=>by
   rw[bI]at h ⊢;by_cases c:k<(f u).length
   .rw[cU c]at h;exact⟨u,ax,k,l.flatMap f,h,List.drop_append_of_le_length (jd c)⟩
   .rw[cM (by lia)]at h;obtain⟨w,n,e,rest,g,i⟩:=KG h;refine⟨w,aq _ n,e,rest,g,?_⟩;rw[<-i,List.drop_append,List.drop_eq_nil_of_le (by lia),fC]
theorem R3(g:Good m j)(R:ε m j r a d):∀(n:Nat)(v:Int),m.toNat-1-d v=n->0<=v->v<m->∀(k:Nat)(p:Int),(cT m j r a d v)[k]?=some p->∃rest,(cT m j r a d v).drop k=cT m j r a d p++rest:=by
 intro n
 induction n with
 | zero=>
   intro v o f i k p h;have e:cT m j r a d v=[v]:=by unfold cT;rw[o];rfl
   cases k with
   | zero=>
     have:p=v:=(by rw[e]at h;exact(bq h).symm);rw[this];exact⟨[],by rw[b4];rfl⟩
   | succ k=>rw[e]at h;simp at h
 | succ n ih=>
   intro v o f i k p h;have e:=gw g R f i;cases k with
   | zero=>
     have:p=v:=(by rw[e]at h;exact(bq h).symm);rw[this];exact⟨[],by rw[b4];rfl⟩
   | succ k=>
     rw[e,iQ]at h;obtain⟨u,w,y,rest,x,s⟩:=KG h;obtain⟨c,t,up⟩:=(ce g R f i).mp w;have z:=R.pos c.1 c.2 t;rw[up]at z;have dl:=iJ R c.1 c.2;obtain⟨l,q⟩:=ih u (by lia) c.1 c.2 y p x;exact⟨l++rest,by rw[e,nA,s,q,c7]⟩
theorem vM(g:Good m j)(R:ε m j r a d){v:Int}(c:0<=v)(e:v<m):v∈cT m j r a d v:=by
 rw[gw g R c e];exact ax
theorem yN(g:Good m j)(R:ε m j r a d){p:Int}(f:0<=p)(l:p<m)(x:Int):x∈cT m j r a d p↔(0<=x/\x<m)/\ben a d p x=true:=by
 constructor
 .intro h;obtain⟨c,k,v,t⟩:=(pF g R _ p f l).2 x h;refine⟨c,?_⟩;unfold ben;rw[Kv];refine bE ?_;rw[<-t];exact zq _ _ _ (by lia)
 .rintro⟨c,h⟩;generalize o:d x=n
  induction n generalizing x with
  | zero=>
    by_cases z:x=r
    .subst z;have:p=x:=by
      unfold ben at h;rw[R.root]at h;exact(bF h).symm
     rw[this];exact vM g R c.1 c.2
    .have:=R.pos c.1 c.2 z
     lia
  | succ n ih=>
    have z:x≠r:=λz=>by rw[z,R.root]at o;lia
    have u:=R.up x c.1 c.2 z;rw[P1 R c.1 c.2 z]at h;by_cases y:x=p
    .rw[y];exact vM g R f l
    .rw[cV y,nK]at h;have q:=ih (a x) u.1 h (by lia);obtain⟨k,s⟩:=bZ q;obtain⟨rest,e⟩:=R3 g R _ p rfl f l k _ s;refine fT (i:=k) ?_;rw[e,gw g R u.1.1 u.1.2];refine bB _ (aq _ (c6.mpr ⟨x,(ce g R u.1.1 u.1.2).mpr ⟨c,z,rfl⟩,vM g R c.1 c.2⟩))
theorem QH(g:Good m j)(R:ε m j r a d){p:Int}(c:0<=p)(e:p<m):(cT m j r a d p).Perm (LC m a d p):=hW (pF g R _ p c e).1 K5 λx=>by rw[yN g R c e,SR]
end
end Pb
namespace L2
open PySem
def Yy(_ j:Int):Prop:=0<j/\j.natAbs.log2<9000
theorem F1{X:Cx}:aC X (binaryOp .FloorDiv) (rI Yy λi j=>.int (i/j)):=opI λi j _ _ _ _ _ a q=>by
 have b:(0:Int)<j:=a.1;exact kE (by lia) (by rw[ic i (by lia)];exact q) (.inl (kL a.2))
end L2
namespace Pb
open PySem L2
def Z2(b:hT)(a:fc)(v x:Int):Int:=x*(ci b (a v) v).getD 1
end Pb
set_option exponentiation.threshold 5000
namespace Pb
open L2 PySem
section
variable{m:Int}{q:hT}{r:Int}{d:fc}{o:fz}
def foU(C:hR)(m:Int)(q:hT)(r:Int)(d:fc)(p:fc)(A:hR):Nat->Int->Int
 | 0,v=>p v
 | n+1,v=>((cq m q (front r d v) v).map λc=>A c (foU C m q r d p A n c)).foldl C (p v)
def fo(C:hR)(m:Int)(q:hT)(r:Int)(d:fc)(o:fz)(p:fc)(A:hR)(v:Int):Int:=foU C m q r d p A (m.toNat-1-o v) v
variable{C:hR}{p:fc}{A:hR}
theorem uZ(g:Good m q)(R:ε m q r d o){v:Int}(i:0<=v)(h:v<m):fo C m q r d o p A v=((cq m q (front r d v) v).map λc=>A c (fo C m q r d o p A c)).foldl C (p v):=by
 have f:∀u∈cq m q (front r d v) v,o u=o v+1/\o u+1<=m.toNat:=λu a=>by
  obtain⟨b,j,k⟩:=(ce g R i h).mp a;have:=R.pos b.1 b.2 j;rw[k]at this;exact⟨this,iJ R b.1 b.2⟩
 unfold fo;cases e:m.toNat-1-o v with
 | zero=>
   have:cq m q (front r d v) v=[]:=gI.mpr λu a=>by
    have:=f u a
    lia
   rw[this]
   rfl
 | succ n=>
   show List.foldl C (p v) _=_;rw[bQ λu a=>show A u (foU C m q r d p A n u)=A u (foU C m q r d p A (m.toNat-1-o u) u) by rw[show m.toNat-1-o u=n by have:=f u a;lia]]
def AL(C:hR):Prop:=∀a b c,C (C a b) c=C (C a c) b
theorem OM(b:AL C){l c:du}(h:l.Perm c):∀a,l.foldl C a=c.foldl C a:=by
 induction h with
 | nil=>exact λ_=>rfl
 | cons x _ ih=>exact λa=>ih _
 | swap x y l=>intro a;show List.foldl C (C (C a y) x) l=List.foldl C (C (C a x) y) l;rw[b]
 | trans _ _ h1 h2=>exact λa=>(h1 a).trans (h2 a)
theorem J0(b:AL C):∀(l:du)(a x:Int),l.foldl C (C a x)=C (l.foldl C a) x
 | [],a,x=>rfl
 | y::l,a,x=>by show l.foldl C (C (C a x) y)=C (l.foldl C (C a y)) x;rw[b,J0 b l]
def yH(C:hR)(d:fc)(A:hR)(a:du)(v:Int):List Int:=a.set (d v).toNat (C (a.getD (d v).toNat 0) (A v (a.getD v.toNat 0)))
structure Bv(C:hR)(m:Int)(q:hT)(r:Int)(d:fc)(o:fz)(p:fc)(A:hR)(t cs:du):Prop where
 len:(cs.length:Int)=m
 val:∀v,0<=v->v<m->cs.getD v.toNat 0=((t.filter λc=>decide (d c=v)).map λc=>A c (fo C m q r d o p A c)).foldl C (p v)
theorem Bv.nil{a:du}(h:(a.length:Int)=m)(e:∀v,0<=v->v<m->a.getD v.toNat 0=p v):Bv C m q r d o p A [] a:=⟨h,λv c b=>e v c b⟩
theorem Bv.full(c:AL C)(g:Good m q)(R:ε m q r d o){t e:du}(s:Bv C m q r d o p A t e)(h:t.Nodup)(i:∀x∈t,(0<=x/\x<m)/\x≠r){v:Int}(b:0<=v)(a:v<m)(f:∀k,0<=k->k<m->k≠r->d k=v->k∈t):e.getD v.toNat 0=fo C m q r d o p A v:=by
 rw[s.val v b a,uZ g R b a,OM c ((zj g R h i b a f).map _)]
theorem Bv.step(b:AL C)(g:Good m q)(R:ε m q r d o){t a:du}(s:Bv C m q r d o p A t a){v:Int}(i:0<=v)(h:v<m)(hr:v≠r)(e:a.getD v.toNat 0=fo C m q r d o p A v):Bv C m q r d o p A (v::t) (yH C d A a v) where
 len:=by unfold yH;rw[b8];exact s.len
 val:=λu u0 u1=>by
  have k:=(R.up v i h hr).1;have j:=s.len;have f:=s.val u u0 u1;unfold yH;rw[e];by_cases c:d v=u
  .have hl:u.toNat<a.length:=(by lia);rw[eG (by simpa using c),aF,gG,J0 b,<-f,c];simp[List.getD,hl]
  .rw[eF (by simpa using c),<-f];have:(d v).toNat≠u.toNat:=(by lia);simp[List.getD,cP this]
theorem Order.cut(R:ε m q r d o){t:du}(O:Order m r d t){i:Nat}{v:Int}(a:t.reverse[i]?=some v):((0<=v/\v<m)/\v≠r)/\t.drop (t.length-(i+1))=v::t.drop (t.length-i)/\(t.drop (t.length-i)).Nodup/\(∀x∈t.drop (t.length-i),(0<=x/\x<m)/\x≠r)/\∀k,0<=k->k<m->k≠r->d k=v->k∈t.drop (t.length-i):=by
 have F:i<t.length:=by
  have:=(aw.mp a).1
  rwa [aZ]at this
 rw[dg F]at a;generalize H:t.length-1-i=j at a;have D:t.length-i=j+1:=by lia
 have h:t.length-(i+1)=j:=by lia
 rw[D,h];have e:j<t.length:=by lia
 have G:v∈t:=aX a;have y:=O.places v G;have l:t.drop j=v::t.drop (j+1):=by
  rw[iG e];rw[aA e]at a;cases a
  rfl
 have f:t=t.take j++v::t.drop (j+1):=by rw[<-l,dN]
 have c:=(aV.mp O.nd).2;have b:=c;rw[f]at b;have E:v∉t.take j:=λz=>(da.mp b).2.2 v z v ax rfl;refine⟨y,l,c.sublist (List.drop_sublist _ _),λx B=>O.places x (fT B),λk n u s g=>?_⟩;rcases O.all k n u with z|z
 .exact absurd z s
 .rw[f]at z;rcases bd.mp z with z|z
  .have af:=O.af;rw[f]at af;rcases af.up k z with w|w
   .rw[g]at w;exact absurd (aO.mp w) y.2
   .rw[g]at w;exact absurd w E
  .rcases aD.mp z with z|z
   .subst z;exact absurd g (R.ne n u s)
   .exact z
theorem Order.age(b:AL C)(g:Good m q)(R:ε m q r d o){t c:du}(O:Order m r d t){i:Nat}{v:Int}(s:Bv C m q r d o p A (t.drop (t.length-i)) c)(l:t.reverse[i]?=some v):((0<=v/\v<m)/\v≠r)/\c.getD v.toNat 0=fo C m q r d o p A v/\Bv C m q r d o p A (t.drop (t.length-(i+1))) (yH C d A c v):=by
 obtain⟨a,h,j,k,f⟩:=O.cut R l;have e:=s.full b g R j k a.1.1 a.1.2 f;exact⟨a,e,by rw[h];exact s.step b g R a.1.1 a.1.2 a.2 e⟩
def foL(C:hR)(m:Int)(q:hT)(r:Int)(d:fc)(o:fz)(p:fc)(A:hR):List Int:=(bG m.toNat).map (fo C m q r d o p A)
theorem pE{v:Int}(a:0<=v)(b:v<m):(foL C m q r d o p A).getD v.toNat 0=fo C m q r d o p A v:=by
 unfold foL;rw[List.getD,aG,fq (by lia),bW a]
 rfl
theorem uV:(foL C m q r d o p A).length=m.toNat:=by unfold foL;rw[ag,bR]
theorem Order.doneF(b:AL C)(g:Good m q)(R:ε m q r d o){t a:du}(O:Order m r d t)(s:Bv C m q r d o p A t a):a=foL C m q r d o p A:=by
 have n:=s.len;refine dJ λi=>?_;by_cases h:i<m.toNat
 .have hc:i<a.length:=by lia
  have e:=s.full b g R (aV.mp O.nd).2 O.places (v:=(i:Int)) (by lia) (by lia) λk j c f l=>(O.all k j c).resolve_left f;unfold foL;rw[aG,fq h];rw[cu,List.getD,aA hc]at e;rw[aA hc];exact congrArg some e
 .rw[bn (by lia),bn (by rw[uV];lia)]
def mx(i j:Int):Int:=if j>i then j else i
theorem Kk:AL mx:=λa b c=>by
 have h:∀x y,mx x y=max x y:=λx y=>by unfold mx;lia
 rw[h,h,h,h]
 lia
def bor(q:hT)(d:fc)(v x:Int):Int:=x*(ci q v (d v)).getD 1
abbrev Ξ(m:Int)(q:hT)(r:Int)(d:fc)(o:fz):Int->Int:=fo mx m q r d o (λ_=>1) (bor q d)
abbrev jO(m:Int)(q:hT)(r:Int)(d:fc)(o:fz):List Int:=foL mx m q r d o (λ_=>1) (bor q d)
theorem CQ{B:Int}:∀(l:du)(a:Int),a<=B->(∀x∈l,x<=B)->a<=l.foldl mx a/\l.foldl mx a<=B/\∀x∈l,x<=l.foldl mx a
 | [],a,h,_=>⟨bO _,h,λx b=>by cases b⟩
 | y::l,a,h,hl=>by
   have j:=hl y ax;have c:a<=mx a y/\y<=mx a y/\mx a y<=B:=by unfold mx;split<;>lia
   obtain⟨f,i,g⟩:=CQ l (mx a y) c.2.2 λx b=>hl x (aq _ b);refine⟨dh c.1 f,i,λx b=>?_⟩;rcases aD.mp b with e|e
   .rw[e];exact dh c.2.1 f
   .exact g x e
theorem Cz(g:Good m q)(R:ε m q r d o):∀(n:Nat)(v:Int),0<=v->v<m->1<=foU mx m q r d (λ_=>1) (bor q d) n v/\foU mx m q r d (λ_=>1) (bor q d) n v<=1000000^n
 | 0,v,_,_=>⟨bO _,bO _⟩
 | n+1,v,h0,h1=>by
   have z:(1:Int)<=1000000^n:=oM (by decide);have e:(1000000:Int)^(n+1)=1000000^n*1000000:=Int.pow_succ ..;show 1<=List.foldl mx 1 _/\List.foldl mx 1 _<=_;obtain⟨h,t,_⟩:=CQ (B:=1000000^(n+1)) ((cq m q (front r d v) v).map λc=>bor q d c (foU mx m q r d (λ_=>1) (bor q d) n c)) 1 (by lia) λx b=>by
    obtain⟨c,s,rfl⟩:=aR.mp b;obtain⟨a,i,u⟩:=(ce g R h0 h1).mp s;obtain⟨k,j,y,l⟩:=lV g R a.1 a.2 i;obtain⟨w,f⟩:=Cz g R n c a.1 a.2;unfold bor;rw[j,e];show _*k<=_;exact ft f l (by lia) (by lia)
   exact⟨h,t⟩
theorem xJ(g:Good m q)(R:ε m q r d o){v:Int}(e:0<=v)(c:v<m):1<=Ξ m q r d o v/\Ξ m q r d o v<=2^480:=by
 obtain⟨a,b⟩:=Cz g R (m.toNat-1-o v) v e c;refine⟨a,dh b ?_⟩;have Ο:=g.Ο;have:(1000000:Int)^(m.toNat-1-o v)<=1000000^24:=by
  have f:m.toNat-1-o v<=24:=by lia
  have h:=Int.ofNat_le.mpr (cN (show 0<1000000 by decide) f);rw[Int.natCast_pow,Int.natCast_pow]at h;exact h
 exact dh this (by decide +kernel)
theorem EK(g:Good m q)(R:ε m q r d o):∀x∈jO m q r d o,x.natAbs<2^4000:=λx b=>by
 obtain⟨v,i,rfl⟩:=aR.mp b;obtain⟨e,j⟩:=dX.mp i;obtain⟨a,f⟩:=xJ g R e (show v<m by lia);have c:((fo mx m q r d o (λ_=>1) (bor q d) v).natAbs:Int)<=2^480:=by rw[Int.natAbs_of_nonneg (dh (by decide) a)];exact f
 have h:(fo mx m q r d o (λ_=>1) (bor q d) v).natAbs<=2^480:=by exact_mod_cast c
 exact bK h (fU (by decide) (by decide))
theorem LS{w:Int}(c:-(10^60)<=w)(b:w<=10^60):(w-1).natAbs<2^4000:=by
 have a:(w-1).natAbs<=10^60+1:=by lia
 exact bK a (aP (show 10^60+1<2^200 by decide +kernel) (cN (by decide) (by decide)))
def slk(q:hT)(d:fc)(a:du)(v:Int):Int:=a.getD v.toNat 0*((ci q v (d v)).getD 1-1)
def bnd(m:Int)(q:hT)(r:Int)(d:fc)(a:du)(w:Int):Int:=a.getD r.toNat 0*(w-1)+(((bG m.toNat).filter λv=>decide (v≠r)).map (slk q d a)).sum
theorem Order.sums{t:du}(O:Order m r d t)(f:fc):(t.map f).sum=(((bG m.toNat).filter λv=>decide (v≠r)).map f).sum:=by
 refine qH ((hW (aV.mp O.nd).2 ((hG _).filter _) λx=>?_).map f);rw[bu,dX,bJ];refine⟨λh=>⟨⟨(O.Δ x h).1,?_⟩,O.ne h⟩,λh=>(O.all x h.1.1 ?_).resolve_left h.2⟩
 .have:=(O.Δ x h).2
  lia
 .have:=h.1.2
  lia
theorem Q2{f:fc}{l:du}{i:Nat}{v:Int}(h:l[i]?=some v):((l.take (i+1)).map f).sum=((l.take i).map f).sum+f v:=by
 rw[bp,h,jW,aE,hJ];simp
theorem UK{cs:du}{i:Nat}(h:i<cs.length):cs.getD i 0∈cs:=by
 rw[List.getD,aA h];exact cZ h
end
section
variable{m:Int}{j:hT}{r:Int}{f:fc}{n:fz}
def tup(j:hT)(f:fc)(v:Int):Int:=(ci j v (f v)).getD 1
theorem CB(g:Good m j)(R:ε m j r f n){v:Int}(d:0<=v)(a:v<m)(e:v≠r):2<=tup j f v/\tup j f v<=1000000:=by
 obtain⟨k,b,h,c⟩:=lV g R d a e;unfold tup;rw[b];exact⟨h,c⟩
theorem D9:∀(l:du)(a:Int),l.foldl mx a=a\/l.foldl mx a∈l
 | [],a=>.inl rfl
 | y::l,a=>by
   show l.foldl mx (mx a y)=a\/l.foldl mx (mx a y)∈y::l;rcases D9 l (mx a y)with h|h
   .rw[h];unfold mx;by_cases c:y>a
    .rw[aj c];exact .inr ax
    .rw[ah c];exact .inl rfl
   .exact .inr (aq _ h)
theorem MP(g:Good m j)(R:ε m j r f n){v:Int}(o:0<=v)(s:v<m)(C:cq m j (front r f v) v≠[]):∃c∈cq m j (front r f v) v,Ξ m j r f n c*tup j f c=Ξ m j r f n v:=by
 have e:Ξ m j r f n v=((cq m j (front r f v) v).map λc=>bor j f c (Ξ m j r f n c)).foldl mx 1:=uZ g R o s;have a:=D9 ((cq m j (front r f v) v).map λc=>bor j f c (Ξ m j r f n c)) 1;rw[<-e]at a;rcases a with h|h
 .exfalso
  obtain⟨c,l,z⟩:=List.exists_cons_of_ne_nil C;have i:c∈cq m j (front r f v) v:=by rw[z];exact ax
  obtain⟨b,D,E⟩:=(ce g R o s).mp i;have q:=CB g R b.1 b.2 D;have p:=xJ g R b.1 b.2;have u:∀x∈(cq m j (front r f v) v).map λc=>bor j f c (Ξ m j r f n c),x<=2^480*1000000:=λx t=>by
   obtain⟨d,y,rfl⟩:=aR.mp t;obtain⟨k,A,G⟩:=(ce g R o s).mp y;have q:=CB g R k.1 k.2 A;have p:=xJ g R k.1 k.2;show _*tup j f d<=_;exact ft p.2 q.2 (by lia) (by decide +kernel)
  obtain⟨_,_,w⟩:=CQ (B:=2^480*1000000) ((cq m j (front r f v) v).map λc=>bor j f c (Ξ m j r f n c)) 1 (by decide +kernel) u;have:Ξ m j r f n c*tup j f c<=_:=w _ (aR.mpr ⟨c,i,rfl⟩);rw[<-e,h]at this;have F:(1:Int)*2<=Ξ m j r f n c*tup j f c:=ft p.1 q.1 (by decide) (by lia)
  lia
 .obtain⟨c,i,ec⟩:=aR.mp h;exact⟨c,i,ec⟩
def chV(o:Option Int):V:=match o with|none=>.ς|some b=>.int b
def chL(m:Int)(p:Int->Option Int):List V:=(bG m.toNat).map λv=>chV (p v)
theorem UN{p:Int->Option Int}{v:Int}(a:0<=v)(b:v<m):gT (chL m p) v=some (chV (p v)):=by
 refine gn a ?_;unfold chL;rw[aG,fq (by lia),bW a]
 rfl
theorem Uf{p:Int->Option Int}{v b:Int}(d:0<=v)(a:v<m):(chL m p).set v.toNat (.int b)=chL m λx=>if x=v then some b else p x:=by
 refine dJ λi=>?_;unfold chL;by_cases c:i<m.toNat
 .rw[aG,fq c];by_cases z:v.toNat=i
  .rw[<-z,dG (by rw[ag,bR];lia)];show _=some (chV (if((v.toNat:Nat):Int)=v then some b else _));rw[aj (by lia)]
   rfl
  .rw[cP z,aG,fq c];show some (chV (p _))=some (chV (if((i:Nat):Int)=v then some b else _));rw[ah (by lia)]
 .rw[bn (by rw[b8,ag,bR];lia),bn (by rw[ag,bR];lia)]
def Zt(m:Int)(j:hT)(r:Int)(f:fc)(n:fz)(t:du)(v:Int):Option Int:=(t.filter λb=>decide (f b=v/\Ξ m j r f n b*tup j f b=Ξ m j r f n v)).getLast?
theorem MN{t:du}{v:Int}(h:Ξ m j r f n v*tup j f v=Ξ m j r f n (f v)):Zt m j r f n (t++[v])=λx=>if x=f v then some v else Zt m j r f n t x:=by
 funext x
 unfold Zt;rw[c9];by_cases c:x=f v
 .subst c;rw[aj rfl,eG (by simpa using h),gH,jw]
  rfl
 .rw[ah c,eF (by simp;intro z;exact absurd z.symm c),gH,b4]
theorem OL{t:du}{v:Int}(h:¬Ξ m j r f n v*tup j f v=Ξ m j r f n (f v)):Zt m j r f n (t++[v])=Zt m j r f n t:=by
 funext x
 unfold Zt;rw[c9,eF (by simp;intro z;rw[<-z];exact h),gH,b4]
variable{p:Int->Option Int}{w:Int}{q:fc}
end
end Pb
namespace L2
open PySem PySem.Spec PyProof.Rows PySem.W
section
variable{n:Nat}
variable(a:0<n)
include a
end
end L2
namespace Pb
open L2 PySem
section
variable{m:Int}{d:hT}{r:Int}{par:fc}{f:fz}
theorem Ae(g:Good m d)(v x y:Int)(h:x<=y):Τ d par v x<=Τ d par v y:=by
 have i:∀a b:Int,0<(ci d a b).getD 1:=λa b=>by
  cases e:ci d a b with
  | none=>decide
  | some k=>
    obtain⟨p,l,q,_⟩:=lD g (HB.mp (show(ci d a b).isSome=true by rw[e];rfl));rw[e]at l;cases l;show 0<k
    lia
 have n:=i v (par v);have o:=i (par v) v;unfold Τ;by_cases c:0<=x
 .rw[aj c,aj (by lia)];exact Int.ediv_le_ediv n h
 .rw[ah c];by_cases j:0<=y
  .rw[aj j];have s:0<=y/(ci d v (par v)).getD 1:=fL j (by lia);have t:x*(ci d (par v) v).getD 1<=0:=gg (by lia) (by lia)
   lia
  .rw[ah j];exact bH h (by lia)
theorem F2{x n k a:Int}(y:1<=n)(c:2<=k)(e:2<=a):(n+(if 0<=x + -(n*k)then(x + -(n*k))/k else(x + -(n*k))*a)<=if 0<=x then x/k else x*a)/\(-(n*k)+(if 0<=x+n then(x+n)/a else(x+n)*k)<=if 0<=x then x/a else x*k):=by
 have w:n*2<=n*k:=bg c (by lia);have j:n*2<=n*a:=bg e (by lia)
 constructor
 .by_cases c1:0<=x + -(n*k)
  .rw[aj c1,aj (by lia),<-gY,jf _ _ (by lia)]
   lia
  .rw[ah c1];by_cases b:0<=x
   .rw[aj b];have v:=jB x k;have t:=bX x (show 0<k by lia);have o:=b5 x (show k≠0 by lia);have z:x/k<n:=by
     rw[Int.ediv_lt_iff_lt_mul (by lia)]
     lia
    have h:k*(x/k-n)=k*(x/k)-n*k:=(by rw[gX,dF k n]);have u:x + -(n*k)<=k*(x/k-n+1)-1:=by
     have:k*(x/k-n+1)=k*(x/k-n)+k:=(by rw[db,eU])
     lia
    have p:k*(x/k-n+1)<=2*(x/k-n+1):=by
     have:=Int.mul_le_mul_of_nonpos_right c (show x/k-n+1<=0 by lia)
     lia
    have i:x + -(n*k)<=(x/k-n):=(by lia);have l:(x + -(n*k))*a<=(x/k-n)*a:=bH i (by lia);have q:(x/k-n)*a<=(x/k-n)*1:=jJ (show x/k-n<=0 by lia) (show 1<=a by lia)
    lia
   .rw[ah b];have h:(x + -(n*k))*a=x*a + -(n*k)*a:=cR ..;have B:-(n*k)*a<=-(n*k)*1:=jJ (show -(n*k)<=0 by lia) (show 1<=a by lia)
    lia
 .by_cases c1:0<=x
  .rw[aj c1,aj (by lia)];have g:(x+n)/a<=(x+n*a)/a:=Int.ediv_le_ediv (by lia) (by lia);rw[jf _ _ (by lia)]at g
   lia
  .rw[ah c1];by_cases b:0<=x+n
   .rw[aj b];have g:(x+n)/a<=x+n:=lA _ b;have s:(-x)*2<=(-x)*k:=bg c (by lia);have C:(n+x)*2<=(n+x)*k:=bg c (by lia);have A:(n+x)*k=n*k+x*k:=cR ..
    lia
   .rw[ah b,cR]
    lia
theorem M3(g:Good m d)(R:ε m d r par f)(y:0<=r)(x:r<m){a b:du}(J:(a.length:Int)=m){s:Stp}(is:p7 m d s=true):Α m d r par f (λv=>(dA m (gD d a s) b).getD v.toNat 0) (Τ d par) r<=Α m d r par f (λv=>(dA m a b).getD v.toNat 0) (Τ d par) r:=by
 obtain⟨I,H,w⟩:=sY is;have q:=(ij g).mp H;have F:=(g.ZG q).2.1;obtain⟨k,p,A,K⟩:=lD g q;obtain⟨L,i,h,D⟩:=lD g q.symm;have u:fQ d s.1 s.2.1=k:=by unfold fQ;rw[p];rfl
 have e:∀(t:du)(v:Int),0<=v->v<m->(dA m t b).getD v.toNat 0=t.getD v.toNat 0-b.getD v.toNat 0:=λt v j n=>by
  unfold dA;rw[List.getD,aG,eA (by lia)]
  rfl
 have B:∀{c l o:Int},0<=par c/\par c<m->Z1 m r par (λv=>a.getD v.toNat 0) (λv=>(gD d a s).getD v.toNat 0) c l o->Z1 m r par (λv=>(dA m a b).getD v.toNat 0) (λv=>(dA m (gD d a s) b).getD v.toNat 0) c l o:=λ{c l o} pr C=>by
  refine⟨C.Δ,C.nr,?_,?_,λv j n E G=>?_⟩
  .show(dA m (gD d a s) b).getD c.toNat 0=(dA m a b).getD c.toNat 0+l;rw[e _ c C.Δ.1 C.Δ.2,e _ c C.Δ.1 C.Δ.2];have:=C.own
   lia
  .show(dA m (gD d a s) b).getD (par c).toNat 0=(dA m a b).getD (par c).toNat 0+o;rw[e _ _ pr.1 pr.2,e _ _ pr.1 pr.2];have:=C.up
   lia
  .show(dA m (gD d a s) b).getD v.toNat 0=(dA m a b).getD v.toNat 0;rw[e _ v j n,e _ v j n];have:=C.oth v j n E G
   lia
 rcases Ak g R J is with⟨h1,h2,C⟩|⟨h1,h2,C⟩
 .refine(B (by rw[h2];exact F) C).le g R (Ae g) ?_ _ r rfl y x λz=>h1 z.symm;unfold Τ;rw[h2,p,i,u];exact(F2 w A h).1
 .refine(B (by rw[h2];exact I) C).le g R (Ae g) ?_ _ r rfl y x λz=>h1 z.symm;unfold Τ;rw[h2,p,i,u];exact(F2 w A h).2
theorem vt{zs ys:du}(i:Nat):(dA m zs ys).getD i 0=if i<m.toNat then zs.getD i 0-ys.getD i 0 else 0:=by
 unfold dA;by_cases c:i<m.toNat
 .rw[aj c,List.getD,aG,eA c]
  rfl
 .rw[ah c,List.getD,aG,bn (by rw[cj];lia)]
  rfl
end
inductive Zk(m:Int)(rs:hT)(xs:du):List Int->Prop
 | start:Zk m rs xs xs
 | step {z:du} {a b:Int}:Zk m rs xs z->rZ m rs z (a,b,1)=true->Zk m rs xs (gD rs z (a,b,1))
theorem Br:∀{z:du},(∀x∈z,0<=x)->0<=z.sum
 | [],_=>bO 0
 | x::z,h=>by
   have b:=h x (.head _);have c:=Br λy a=>h y (.tail _ a);rw[aK]
   lia
section
variable{m:Int}{b:hT}{a:du}
theorem Zk.len{z:du}(h:Zk m b a z):z.length=a.length:=by
 induction h with
 | start=>rfl
 | step _ _ ih=>rw[EE];exact ih
variable{r:Int}{c:fc}{d:fz}
end
end Pb
namespace L2
open PySem PySem.Spec PyProof.Rows
def FF(_ j:Int):Prop:=j≠0/\j.natAbs.log2<9000
theorem Es{X:Cx}:aC X (binaryOp .FloorDiv) (rI FF λi j=>.int (i.fdiv j)):=opI λi j _ _ _ _ _ a q=>kE a.1 q (.inl (kL a.2))
theorem AU{j:Int}{n:Nat}(b:j≠0)(h:j.natAbs<2^n)(a:n<=9000):j.natAbs.log2<9000:=aP ((nP (by lia)).mpr h) a
end L2
namespace Pb
theorem WT(a b:Int):Int.gcd b (a.fmod b)=Int.gcd a b:=by
 rw[Int.fmod_def,Int.gcd_sub_mul_left_right,Int.gcd_comm]
theorem NG{a b:Int}(h:b≠0):(a.fmod b).natAbs<b.natAbs:=by
 have c:=b5 a h;have d:=Int.emod_lt a h;rw[Int.fmod_eq_emod];split
 .lia
 .rename_i z
  have:a%b≠0:=λe=>z (.inr (Int.dvd_of_emod_eq_zero e))
  lia
structure Frc(t b p q:Int):Prop where
 pos:0<q
 one:p.gcd q=1
 eq:p*b=t*q
theorem Vu{t b c:Int}(h:b≠0)(d:c.natAbs=t.gcd b)(i:0<c↔0<b):Frc t b (t.fdiv c) (b.fdiv c):=by
 have j:=fJ t h;have a:c≠0:=by lia
 obtain⟨x,f⟩:c ∣ t:=Int.natAbs_dvd.mp (by rw[d];exact Int.gcd_dvd_left ..);obtain⟨y,g⟩:c ∣ b:=Int.natAbs_dvd.mp (by rw[d];exact Int.gcd_dvd_right ..);have e:c.natAbs*x.gcd y=c.natAbs*1:=by rw[<-Int.gcd_mul_left,<-f,<-g,<-d,Nat.mul_one]
 subst f g;rw[lf _ a,lf _ a];refine⟨?_,Nat.eq_of_mul_eq_mul_left (by lia) e,?_⟩
 .rcases Int.lt_or_gt_of_ne a with z|z
  .have:c*y<=0:=(by lia);rcases Int.lt_trichotomy y 0 with w|w|w
   .have:=Int.mul_pos_of_neg_of_neg z w;lia
   .subst w;simp at h
   .exact w
  .exact kZ (i.mp z) z
 .rw[Int.mul_left_comm,cX]
theorem yM{p q p' b:Int}(a:p.gcd q=1)(e:p*b=p'*q):q.natAbs ∣ b.natAbs:=by
 have h:Nat.Coprime q.natAbs p.natAbs:=by
  show Nat.gcd _ _=1;rw[Nat.gcd_comm];exact a
 refine h.dvd_of_dvd_mul_left (m:=p.natAbs) ?_;rw[<-iK,e,iK];exact Nat.dvd_mul_left ..
theorem Wh{p q b a:Int}(f:0<q)(d:p.gcd q=1)(j:0<a)(c:b.gcd a=1)(e:p*a=b*q):p=b/\q=a:=by
 have h:=yM d e;have g:=yM c e.symm;have:=Nat.dvd_antisymm h g;have i:q=a:=by lia
 subst i;exact⟨kt (cH f) e,rfl⟩
theorem WN(i:Int):(if i<0 then -i else i)=(i.natAbs:Int):=by split<;>lia
theorem uO{t b p q:Int}(h:Frc t b p q)(a:b≠0):p.natAbs<=t.natAbs/\q.natAbs<=b.natAbs:=by
 refine⟨?_,Nat.le_of_dvd (by lia) (yM h.one h.eq)⟩;by_cases c:t=0
 .have e:=h.eq;rw[c,ff]at e;rcases Int.mul_eq_zero.mp e with z|z
  .rw[z];exact b7 _
  .exact absurd z a
 .refine Nat.le_of_dvd (by lia) ?_;refine yM (p:=q) (p':=b) (by rw[Int.gcd_comm];exact h.one) ?_;rw[dF,<-h.eq,dF]
theorem Ww{t b c a p q:Int}(h:Frc t b p q)(e:t*a=c*b)(d:b≠0):Frc c a p q:=by
 refine⟨h.pos,h.one,kt d ?_⟩
 calc (p*a)*b=(p*b)*a:=by ac_rfl
  _=(t*a)*q:=by rw[h.eq];ac_rfl
  _=(c*q)*b:=by rw[e];ac_rfl
def tq(a:List (Int×Int))(b:Int×Int):Int×Int:=a.foldl (λz f=>(z.1*f.2+f.1*z.2,z.2*f.2)) b
theorem GC{B:Int}:∀{fs:List (Int×Int)}{S:Int}{tb:Int×Int},(∀f∈fs,f.2 ∣ B)->S*tb.2=tb.1*B->(S+(fs.map λf=>f.1*(B/f.2)).sum)*(tq fs tb).2=(tq fs tb).1*B
 | [],S,tb,_,e=>by
   show(S+0)*tb.2=tb.1*B;rw[dE];exact e
 | f::fs,S,tb,h,e=>by
   have b:=GC (fs:=fs) (S:=S+f.1*(B/f.2)) (tb:=(tb.1*f.2+f.1*tb.2,tb.2*f.2)) (λg a=>h g (.tail _ a)) (by
    show(S+f.1*(B/f.2))*(tb.2*f.2)=(tb.1*f.2+f.1*tb.2)*B;have d:B/f.2*f.2=B:=Int.ediv_mul_cancel (h f (.head _))
    calc (S+f.1*(B/f.2))*(tb.2*f.2)=(S*tb.2)*f.2+f.1*tb.2*(B/f.2*f.2):=by rw[cR];congr 1<;>ac_rfl
     _=(tb.1*f.2+f.1*tb.2)*B:=by rw[e,d,cR];congr 1;ac_rfl)
   rw[aF,aK,<-Int.add_assoc];exact b
theorem AR:∀{fs:List (Int×Int)}{tb:Int×Int},(∀f∈fs,0<f.2)->0<tb.2->0<(tq fs tb).2
 | [],_,_,h=>h
 | f::fs,tb,h,h2=>AR (fs:=fs) (tb:=(tb.1*f.2+f.1*tb.2,tb.2*f.2)) (λg a=>h g (.tail _ a)) (Int.mul_pos h2 (h f (.head _)))
theorem Qv{b q:Int}(f:0<b)(c:0<q):0<b*(q/(b.gcd q:Int))/\q ∣ b*(q/(b.gcd q:Int)):=by
 obtain⟨x,g⟩:=Int.gcd_dvd_left b q;obtain⟨y,a⟩:=Int.gcd_dvd_right b q;have d:(0:Int)<b.gcd q:=by have:=fJ b (cH c);lia
 have e:q/(b.gcd q:Int)=y:=by
  conv=>lhs;arg 1;rw[a]
  exact Int.mul_ediv_cancel_left _ (cH d)
 rw[e];have h:0<y:=kZ (by rw[<-a];exact c) d;refine⟨Int.mul_pos f h,x,?_⟩
 calc b*y=(b.gcd q*x)*y:=by rw[<-g]
  _=(b.gcd q*y)*x:=by ac_rfl
  _=q*x:=by rw[<-a]
end Pb
namespace L2
open PySem Pb
abbrev ϕ(H:Hp):List Addr->List (Int×Int)->Prop:=Paired λq f=>H q=some (.tup [.int f.1,.int f.2])
theorem ϕ.same{H a:Hp}{c:g9}{b:List (Int×Int)}(e:δ H a)(h:ϕ H c b):ϕ a c b:=Paired.imp' (λq v x=>e q _ x) h
def FrB(n:Nat)(f:Int×Int):Prop:=0<f.2/\f.1.natAbs<2^n/\f.2.natAbs<2^n
def dFr(f:Int×Int):PyData:=.tuple [.int f.1,.int f.2]
theorem T2{K:gx}{H:Hp}{q:Addr}{f:Int×Int}(h:H q=some (.tup [.int f.1,.int f.2])):iF K H (.ref q) (dFr f):=.tup (Κ.of h) (.cons (.int _) (.cons (.int _) .nil))
theorem Am{K:gx}{H:Hp}:∀{b:g9}{a:List (Int×Int)},ϕ H b a->Ρ K H (b.map V.ref) (a.map dFr)
 | _,_,.nil=>.nil
 | _,_,.cons x xs=>.cons (T2 x) (Am xs)
theorem XN(f:Int×Int):PyData.eqv (dFr f) (dFr f)=true:=by simp[dFr,PyData.eqv,PyData.eqvAll]
theorem Kr:∀a:List (Int×Int),PyData.eqvAll (a.map dFr) (a.map dFr)=true
 | []=>by simp[PyData.eqvAll]
 | f::a=>by
   have b:=XN f;have c:=Kr a;rw[aF];simp only[PyData.eqvAll,b,c,Bool.and_self]
theorem D7:∀a:List (Int×Int),PyData.depthAll (a.map dFr)<=1
 | []=>by simp[PyData.depthAll]
 | f::a=>by
   have b:=D7 a;rw[aF];simp only[PyData.depthAll,dFr,PyData.depth];simp
   lia
end L2
namespace L2
open PySem PySem.Spec PyProof.Rows Pb
theorem xM{n:Nat}:∀{fs:List (Int×Int)}{tb:Int×Int}{b:Nat},(∀f∈fs,FrB n f)->tb.1.natAbs<2^b->tb.2.natAbs<2^b->(tq fs tb).1.natAbs<2^(b+fs.length*(n+1))/\(tq fs tb).2.natAbs<2^(b+fs.length*(n+1))
 | [],tb,b,_,h1,h2=>by
   rw[dU,Nat.zero_mul,Nat.add_zero];exact⟨h1,h2⟩
 | f::fs,tb,b,h,h1,h2=>by
   obtain⟨k,c,a⟩:=h f (.head _);have i:(tb.1*f.2+f.1*tb.2).natAbs<2^(b+n+1):=AN (qJ h1 a) (by rw[dF];exact qJ h2 c);have j:(tb.2*f.2).natAbs<2^(b+n+1):=oF (qJ h2 a) (by lia);have e:=xM (fs:=fs) (tb:=(tb.1*f.2+f.1*tb.2,tb.2*f.2)) (b:=b+n+1) (λg d=>h g (.tail _ d)) i j;rw[ba,show b+(fs.length+1)*(n+1)=b+n+1+fs.length*(n+1) by rw[m7];lia];exact e
end L2
namespace L2
open PySem
abbrev X9(K:gx)(H:Hp):List Addr->List (Int×Int)->Prop:=Paired λq f=>Κ K H q [.int f.1,.int f.2]
theorem ϕ.k{K:gx}{H:Hp}{b:g9}{a:List (Int×Int)}(h:ϕ H b a):X9 K H b a:=Paired.imp' (λq v x=>Κ.of x) h
def acM(K:gx)(a:Addr)(c:List V):Prop:=∃(o:Obj)(b:Array Value)(n:Nat),K.lookup a=some o/\o.cls=.type "tuple"/\o.data=.seq b n/\b.size<=sizeLine/\Vals c b.toList
theorem Yp{K:gx}{a:Addr}{b:Option Addr}{i j:Int}{t u:Tok}{n:Nat}{c:Array (Option Value)}(h:K.lookup a=some ⟨.type "tuple",b,.seq #[.int i t,.int j u] n,c⟩):acM K a [.int i,.int j]:=⟨_,_,_,h,rfl,rfl,(by show 2<=sizeLine;decide),.cons ⟨_,rfl⟩ (.cons ⟨_,rfl⟩ .nil)⟩
theorem acM.sq{K:gx}{H:Hp}{a:Addr}{b:List V}(h:acM K a b):Κ K H a b:=.inr h
end L2
namespace Pb
open L2 PySem
theorem Ha{P:Int->Prop}(f:fz):∀(n:Nat)(v:Int),f v=n->P v->∃v,P v/\∀u,P u->f v<=f u:=by
 intro n
 induction n using Nat.strongRecOn with
 | _ n ih=>
   intro v d b;by_cases c:∃u,P u/\f u<f v
   .obtain⟨u,h1,h2⟩:=c;exact ih (f u) (by lia) u rfl h1
   .exact⟨v,b,λu a=>Nat.le_of_not_lt λh=>c ⟨u,a,h⟩⟩
theorem HP:∀{l:du},(∀x∈l,x<=0)->l.sum<=0
 | [],_=>bO 0
 | x::l,h=>by
   have b:=h x (.head _);have c:=HP λy a=>h y (.tail _ a);rw[aK]
   lia
theorem EG:∀{l:du}{y:Int},(∀x∈l,x<=0)->y∈l->l.sum<=y
 | x::l,y,h,a=>by
   have b:=h x (.head _);have c:=HP λy a=>h y (.tail _ a);rw[aK];rcases aD.mp a with e|e
   .lia
   .have:=EG (λy a=>h y (.tail _ a)) e
    lia
theorem zB:∀{l:du},(∀x∈l,x=0)->l.sum=0
 | [],_=>rfl
 | x::l,h=>by rw[aK,h x (.head _),zB λy a=>h y (.tail _ a)];rfl
section
variable{m:Int}{i:hT}{r:Int}{d:fc}{f:fz}
abbrev ώ(m:Int)(i:hT)(r:Int)(d:fc)(f:fz)(a z:du)(v:Int):Int:=Α m i r d f (λv=>(dA m z a).getD v.toNat 0) (Τ i d) v
theorem Cg(g:Good m i)(R:ε m i r d f){ys z:du}{v:Int}(a:0<=v)(b:v<m):ώ m i r d f ys z v=z.getD v.toNat 0-ys.getD v.toNat 0+((cq m i (front r d v) v).map λc=>Τ i d c (ώ m i r d f ys z c)).sum:=by
 show Α m i r d f _ _ v=_;rw[eI g R a b];show(dA m z ys).getD v.toNat 0+_=_;rw[vt,aj (by lia)]
theorem FJ{a b:du}{s:Stp}{c n k:Int}(g:0<=d c/\d c<m)(C:Z1 m r d (λv=>a.getD v.toNat 0) (λv=>(gD i a s).getD v.toNat 0) c n k):Z1 m r d (λv=>(dA m a b).getD v.toNat 0) (λv=>(dA m (gD i a s) b).getD v.toNat 0) c n k:=by
 have e:∀(l:du)(v:Int),0<=v->v<m->(dA m l b).getD v.toNat 0=l.getD v.toNat 0-b.getD v.toNat 0:=λl v h j=>by
  rw[vt,aj (by lia)]
 refine⟨C.Δ,C.nr,?_,?_,λv h j o p=>?_⟩
 .show(dA m (gD i a s) b).getD c.toNat 0=(dA m a b).getD c.toNat 0+n;rw[e _ c C.Δ.1 C.Δ.2,e _ c C.Δ.1 C.Δ.2];have:=C.own
  lia
 .show(dA m (gD i a s) b).getD (d c).toNat 0=(dA m a b).getD (d c).toNat 0+k;rw[e _ _ g.1 g.2,e _ _ g.1 g.2];have:=C.up
  lia
 .show(dA m (gD i a s) b).getD v.toNat 0=(dA m a b).getD v.toNat 0;rw[e _ v h j,e _ v h j];have:=C.oth v h j o p
  lia
theorem Oq(g:Good m i)(R:ε m i r d f)(X:0<=r)(V:r<m){z ys:du}(zl:(z.length:Int)=m)(y0:∀y∈ys,0<=y)(s0:0<=ώ m i r d f ys z r):((∀v,0<=v->v<m->ys.getD v.toNat 0<=z.getD v.toNat 0)/\z.getD r.toNat 0-ys.getD r.toNat 0=ώ m i r d f ys z r)\/∃a b,rZ m i z (a,b,1)=true/\ώ m i r d f ys (gD i z (a,b,1)) r=ώ m i r d f ys z r:=by
 have yn:∀v:Int,0<=ys.getD v.toNat 0:=λv=>JW y0 _;have N:∀v,0<=v->v<m->v≠r->∃k p,ci i v (d v)=some k/\ci i (d v) v=some p/\2<=k/\2<=p/\(0<=d v/\d v<m)/\ZF i v (d v)/\f (d v)+1=f v:=λv j n F=>by
  obtain⟨u1,T,u3⟩:=R.up v j n F;obtain⟨k,u,O,_⟩:=lD g T;obtain⟨p,s,A,_⟩:=lD g T.symm;exact⟨k,p,u,s,O,A,u1,T,u3⟩
 by_cases cA:∃v,(0<=v/\v<m/\v≠r)/\(ci i v (d v)).getD 1<=ώ m i r d f ys z v
 .-- Zq aiq place adR has abh to hand on
  obtain⟨Y,H⟩:=cA;obtain⟨v,⟨⟨j,n,B⟩,F⟩,mx⟩:=Ha (P:=λv=>(0<=v/\v<m/\v≠r)/\(ci i v (d v)).getD 1<=ώ m i r d f ys z v) (λv=>m.toNat-f v) _ Y rfl H;obtain⟨k,p,u,s,O,A,o,Q,dp⟩:=N v j n B;rw[u]at F;have F:k<=ώ m i r d f ys z v:=F;have np:∀x∈(cq m i (front r d v) v).map λc=>Τ i d c (ώ m i r d f ys z c),x<=0:=λx K=>by
   obtain⟨c,M,rfl⟩:=aR.mp K;obtain⟨t,I,S⟩:=(ce g R j n).mp M;have dk:=R.pos t.1 t.2 I;have dl:=iJ R t.1 t.2;rw[S]at dk;obtain⟨q,q',eq,U,q0,ao,_⟩:=N c t.1 t.2 I;have W:¬q<=ώ m i r d f ys z c:=λh=>by
    have:=mx c ⟨⟨t.1,t.2,I⟩,by rw[eq];exact h⟩
    lia
   unfold Τ;rw[eq,U];show(if 0<=ώ m i r d f ys z c then ώ m i r d f ys z c/q else ώ m i r d f ys z c*q')<=0;generalize ώ m i r d f ys z c=G at W ⊢;by_cases D:0<=G
   .rw[aj D,gR D (by lia)];exact bO _
   .rw[ah D];exact gg (by lia) (by lia)
  have e:=Cg g R (ys:=ys) (z:=z) j n;have sp:=HP np;have yv:=yn v;have L:fQ i v (d v)=k:=by unfold fQ;rw[u];rfl
  have is:p7 m i (v,d v,1)=true:=by
   unfold p7;have Z:=(ij g).mpr Q;simp only[bD,bJ];exact⟨⟨⟨j,n⟩,Z⟩,by decide⟩
  refine .inr ⟨v,d v,?_,?_⟩
  .unfold rZ;rw[is,jc,bJ];show 1*fQ i v (d v)<=z.getD v.toNat 0;rw[L]
   lia
  .rcases Ak g R zl is with⟨J,E,C⟩|⟨J,E,C⟩
   .refine(FJ o C).eq g R ?_ _ r rfl X V λw=>B w.symm;show 1+Τ i d v (ώ m i r d f ys z v + -(1*fQ i v (d v)))=Τ i d v (ώ m i r d f ys z v);rw[L];unfold Τ;rw[u];generalize ώ m i r d f ys z v=G at F ⊢;rw[aj (by lia),aj (by lia)];show 1+(G + -(1*k))/k=G/k;rw[<-gY,jf _ _ (by lia)]
    lia
   .have d2:=R.pos o.1 o.2 J;simp only at E;rw[E]at d2
    lia
 .have up:∀v,0<=v->v<m->v≠r->Τ i d v (ώ m i r d f ys z v)<=0/\(0<=ώ m i r d f ys z v->Τ i d v (ώ m i r d f ys z v)=0):=λv j n B=>by
   obtain⟨k,p,u,s,O,A,o,Q,dp⟩:=N v j n B;have W:¬k<=ώ m i r d f ys z v:=λh=>cA ⟨v,⟨j,n,B⟩,by rw[u];exact h⟩;unfold Τ;rw[u,s];show(if 0<=ώ m i r d f ys z v then ώ m i r d f ys z v/k else ώ m i r d f ys z v*p)<=0/\(0<=ώ m i r d f ys z v->(if 0<=ώ m i r d f ys z v then ώ m i r d f ys z v/k else ώ m i r d f ys z v*p)=0);generalize ώ m i r d f ys z v=G at W ⊢;by_cases D:0<=G
   .rw[aj D,gR D (by lia)];exact⟨bO _,λ_=>rfl⟩
   .rw[ah D];exact⟨gg (by lia) (by lia),λh=>absurd h D⟩
  by_cases cB:∃v,(0<=v/\v<m/\v≠r)/\ώ m i r d f ys z v<0
  .-- Zq air place adR anF abh
   obtain⟨Y,H⟩:=cB;obtain⟨v,⟨⟨j,n,B⟩,F⟩,mn⟩:=Ha (P:=λv=>(0<=v/\v<m/\v≠r)/\ώ m i r d f ys z v<0) f _ Y rfl H;obtain⟨k,p,u,s,O,A,o,Q,dp⟩:=N v j n B;have pg:0<=ώ m i r d f ys z (d v):=by
    by_cases c:d v=r
    .rw[c];exact s0
    .refine Int.le_of_not_gt λh=>?_;have:=mn (d v) ⟨⟨o.1,o.2,c⟩,h⟩
     lia
   have e:=Cg g R (ys:=ys) (z:=z) o.1 o.2;have sp:=EG (l:=(cq m i (front r d (d v)) (d v)).map λc=>Τ i d c (ώ m i r d f ys z c)) (y:=Τ i d v (ώ m i r d f ys z v)) (λx K=>by
    obtain⟨c,M,rfl⟩:=aR.mp K;obtain⟨t,I,S⟩:=(ce g R o.1 o.2).mp M;exact(up c t.1 t.2 I).1) (aR.mpr ⟨v,(ce g R o.1 o.2).mpr ⟨⟨j,n⟩,B,rfl⟩,rfl⟩)
   have hh:Τ i d v (ώ m i r d f ys z v)=ώ m i r d f ys z v*p:=by
    unfold Τ;rw[s,ah (by lia)]
    rfl
   have hk:ώ m i r d f ys z v*p<=(-1)*p:=bH (by lia) (by lia);have yv:=yn (d v);have L:fQ i (d v) v=p:=(by unfold fQ;rw[s];rfl);have is:p7 m i (d v,v,1)=true:=by
    unfold p7;have Z:=(ij g).mpr Q.symm;simp only[bD,bJ];exact⟨⟨⟨o.1,o.2⟩,Z⟩,by decide⟩
   refine .inr ⟨d v,v,?_,?_⟩
   .unfold rZ;rw[is,jc,bJ];show 1*fQ i (d v) v<=z.getD (d v).toNat 0;rw[L]
    lia
   .rcases Ak g R zl is with⟨J,E,C⟩|⟨J,E,C⟩
    .have d2:=R.pos o.1 o.2 J;simp only at E;rw[E]at d2
     lia
    .refine(FJ o C).eq g R ?_ _ r rfl X V λw=>B w.symm;show -(1*fQ i (d v) v)+Τ i d v (ώ m i r d f ys z v+1)=Τ i d v (ώ m i r d f ys z v);rw[L,hh];unfold Τ;rw[u,s];generalize ώ m i r d f ys z v=G at F ⊢;show -(1*p)+(if 0<=G+1 then(G+1)/k else(G+1)*p)=G*p;by_cases c:0<=G+1
     .have:G=-1:=(by lia);subst this;rw[aj c];show -(1*p)+0/k=-1*p;rw[Int.zero_ediv]
      lia
     .rw[ah c,cR]
      lia
  .have nn:∀v,0<=v->v<m->0<=ώ m i r d f ys z v:=λv j n=>by
    by_cases c:v=r
    .rw[c];exact s0
    .exact Int.le_of_not_gt λh=>cB ⟨v,⟨j,n,c⟩,h⟩
   have ev:∀v,0<=v->v<m->z.getD v.toNat 0-ys.getD v.toNat 0=ώ m i r d f ys z v:=λv j n=>by
    have e:=Cg g R (ys:=ys) (z:=z) j n;rw[zB λx K=>?_]at e
    .lia
    .obtain⟨c,M,rfl⟩:=aR.mp K;obtain⟨t,I,S⟩:=(ce g R j n).mp M;exact(up c t.1 t.2 I).2 (nn c t.1 t.2)
   refine .inl ⟨λv j n=>?_,ev r X V⟩;have J:=ev v j n;have E:=nn v j n
   lia
theorem Zk.pre{e z:du}{a b:Int}(c:rZ m i e (a,b,1)=true)(h:Zk m i (gD i e (a,b,1)) z):Zk m i e z:=by
 induction h with
 | start=>exact .step .start c
 | step _ c2 ih=>exact .step ih c2
theorem Op(g:Good m i){z:du}(s:(z.length:Int)=m){a b:Int}(c:rZ m i z (a,b,1)=true):(gD i z (a,b,1)).sum<z.sum:=by
 obtain⟨is,j⟩:=Ad c;obtain⟨l,h,_⟩:=sY is;obtain⟨k,n,e,q,p⟩:=M0 g is;have o:=g.ZG ((ij g).mp h);simp only at l h n e p j o;unfold gD;show((z.set a.toNat (z.getD a.toNat 0-1*fQ i a b)).set b.toNat ((z.set a.toNat (z.getD a.toNat 0-1*fQ i a b)).getD b.toNat 0+1)).sum<z.sum;rw[yF _ _ _ (by rw[b8];lia),yF _ _ _ (by lia),e]
 lia
theorem TU(g:Good m i)(R:ε m i r d f)(s:0<=r)(q:r<m){h:du}(u:∀y∈h,0<=y):∀(n:Nat)(z:du),z.sum.toNat=n->(z.length:Int)=m->(∀x∈z,0<=x)->0<=ώ m i r d f h z r->∃j,Zk m i z j/\(∀v,0<=v->v<m->h.getD v.toNat 0<=j.getD v.toNat 0)/\j.getD r.toNat 0-h.getD r.toNat 0=ώ m i r d f h z r:=by
 intro n
 induction n using Nat.strongRecOn with
 | _ n ih=>
   intro z B k t p;rcases Oq g R s q k u p with⟨o,l⟩|⟨a,b,c,e⟩
   .exact⟨z,.start,o,l⟩
   .have z0':=U7 g k t c;have lt:=Op g k c;have A:=Br z0';obtain⟨j,o,l,w⟩:=ih _ (by lia) (gD i z (a,b,1)) rfl (by rw[EE];exact k) z0' (by rw[e];exact p);exact⟨j,o.pre c,l,by rw[w,e]⟩
theorem Zk.aex(g:Good m i)(R:ε m i r d f)(j:0<=r)(b:r<m){a ys:du}(e:(a.length:Int)=m){z:du}(h:Zk m i a z):ώ m i r d f ys z r<=ώ m i r d f ys a r:=by
 induction h with
 | start=>exact bO _
 | step hz c ih=>exact dh (M3 g R j b (by rw[hz.len];exact e) (Ad c).1) ih
theorem Ol(g:Good m i)(v x:Int)(h:0<=x):0<=Τ i d v x:=by
 have:=Ae (par:=d) g v 0 x h;have e:Τ i d v 0=0:=by unfold Τ;rw[aj (bO _)];exact Int.zero_ediv _
 lia
theorem GP{a:fc}{b:hR}(e:∀v,0<=a v)(g:∀v x,0<=x->0<=b v x):∀(n:Nat)(v:Int),0<=xL m i r d a b n v
 | 0,v=>e v
 | n+1,v=>by
   show 0<=a v+((cq m i (front r d v) v).map λc=>b c (xL m i r d a b n c)).sum;have k:=e v;have l:0<=((cq m i (front r d v) v).map λc=>b c (xL m i r d a b n c)).sum:=Br λx h=>by
    obtain⟨c,j,rfl⟩:=aR.mp h;exact g c _ (GP e g n c)
   lia
theorem VE(g:Good m i)(R:ε m i r d f)(j:0<=r)(e:r<m){a z:du}(h:∀v,0<=v->v<m->a.getD v.toNat 0<=z.getD v.toNat 0):z.getD r.toNat 0-a.getD r.toNat 0<=ώ m i r d f a z r:=by
 have k:∀v:Int,0<=(dA m z a).getD v.toNat 0:=λv=>by
  rw[vt];by_cases c:v.toNat<m.toNat
  .rw[aj c];have:=h (v.toNat:Int) (by lia) (by lia);rw[cu]at this
   lia
  .rw[ah c];exact bO _
 rw[Cg g R j e];have:0<=((cq m i (front r d r) r).map λc=>Τ i d c (ώ m i r d f a z c)).sum:=Br λx b=>by
  obtain⟨c,l,rfl⟩:=aR.mp b;exact Ol g c _ (GP k (Ol g) _ _)
 lia
end
def oN{a:Type}(l:List a)(f:a->Rat):Rat:=l.foldr (λx s=>f x+s) 0
section
variable{a b:Type}
theorem iu(x:a)(l:List a)(f:a->Rat):oN (x::l) f=f x+oN l f:=rfl
theorem KR{l:List a}{f h:a->Rat}(e:∀x∈l,f x=h x):oN l f=oN l h:=by
 induction l with
 | nil=>rfl
 | cons x l ih=>rw[iu,iu,e x (.head _),ih λy c=>e y (.tail _ c)]
theorem O2(l:List a)(k:a->b)(f:b->Rat):oN (l.map k) f=oN l (λx=>f (k x)):=by
 induction l with
 | nil=>rfl
 | cons x l ih=>rw[aF,iu,iu,ih]
theorem OJ{l c:List a}(h:l.Perm c)(f:a->Rat):oN l f=oN c f:=by
 induction h with
 | nil=>rfl
 | cons x _ ih=>rw[iu,iu,ih]
 | swap x y l=>rw[iu,iu,iu,iu];grind
 | trans _ _ h1 h2=>rw[h1,h2]
end
section
variable{m:Int}{i:hT}{r:Int}{j:fc}{k:fz}
def evp(i:hT)(u x:Int):Rat:=((fQ i u x:Int)-1:Rat)/(fQ i u x*fQ i x u-1)
def sep(i:hT)(u x:Int):Rat:=((fQ i x u:Int)-1:Rat)/(fQ i x u*fQ i u x-1)
def shr(m:Int)(i:hT)(F:Int->Int->Rat)(u:Int):Rat:=1-oN (ie m i u) (F u)
theorem pG{a:Int}(b:a≠0):(a:Rat)≠0:=λz=>b (Rat.intCast_inj.mp (z.trans rfl))
theorem zV:∀{fs:List (Int×Int)}{tb:Int×Int},(∀f∈fs,f.2≠0)->tb.2≠0->(((tq fs tb).1:Int):Rat)/(tq fs tb).2=(tb.1:Rat)/tb.2+oN fs (λf=>(f.1:Rat)/f.2)
 | [],tb,_,_=>(Rat.add_zero _).symm
 | f::fs,tb,h,h2=>by
   have a:=h f (.head _);have c:=zV (fs:=fs) (tb:=(tb.1*f.2+f.1*tb.2,tb.2*f.2)) (λg b=>h g (.tail _ b)) (Int.mul_ne_zero h2 a);rw[iu];have d:=pG a;have e:=pG h2;refine c.trans ?_;show((tb.1*f.2+f.1*tb.2:Int):Rat)/((tb.2*f.2:Int):Rat)+_=_;rw[Rat.intCast_add,Rat.intCast_mul,Rat.intCast_mul,Rat.intCast_mul]
   grind
theorem sk{t b p q:Int}(h:Frc t b p q)(a:b≠0):(p:Rat)/q=(t:Rat)/b:=by
 have c:=pG a;have d:=pG (cH h.pos);have e:(p:Rat)*b=t*q:=by rw[<-Rat.intCast_mul,<-Rat.intCast_mul,h.eq]
 grind
theorem X2{a b c d:Int}(f:b≠0)(g:d≠0)(h:(a:Rat)/b=(c:Rat)/d):a*d=c*b:=by
 have l:=pG f;have n:=pG g;have e:(a:Rat)*d=c*b:=by grind
 rw[<-Rat.intCast_mul,<-Rat.intCast_mul]at e;exact Rat.intCast_inj.mp e
end
theorem tM{a:Type}(l:List a)(x:a)(f:a->Rat):oN (l++[x]) f=oN l f+f x:=by
 induction l with
 | nil=>show f x+0=0+f x;grind
 | cons y l ih=>rw[List.cons_append,iu,iu,ih];grind
structure Shs(m:Int)(rs:hT)(F:Int->Int->Rat)(fs:List (Int×Int)):Prop where
 len:(fs.length:Int)=m
 one:∀f∈fs,0<f.2/\f.1.gcd f.2=1
 val:∀(i:Nat) f,fs[i]?=some f->(f.1:Rat)/f.2=shr m rs F i
theorem Shs.eq{m:Int}{g:hT}{F:Int->Int->Rat}{b a:List (Int×Int)}(h:Shs m g F b)(d:Shs m g F a):b=a:=by
 refine dJ λi=>?_;by_cases c:i<b.length
 .have c':i<a.length:=by have:=h.len;have:=d.len;lia
  have e:=aA c;have f:=aA c';obtain⟨j,l⟩:=h.one _ (cZ c);obtain⟨k,p⟩:=d.one _ (cZ c');have:=X2 (cH j) (cH k) ((h.val i _ e).trans (d.val i _ f).symm);obtain⟨o,n⟩:=Wh j l k p this;rw[e,f,show b[i]=a[i]from Prod.ext o n]
 .have:=h.len;have:=d.len;rw[bn (by lia),bn (by lia)]
end Pb
namespace Pb
open L2 PySem PySem.W NumText
theorem _root_.List.τ{a b:Type}{f:a->b}{l:List a}{i:Nat}{y:b}(h:(l.map f)[i]?=some y):∃x,l[i]?=some x/\y=f x:=by
 rw[aG]at h;cases e:l[i]? with
 | none=>rw[e]at h;cases h
 | some x=>rw[e]at h;exact⟨x,rfl,(bq h).symm⟩
end Pb
namespace Pb
open L2 PySem
section
variable{m:Int}{c:hT}{r:Int}{a:fc}{b:fz}{d:fc}
theorem Lx:∀(e:du),(List.range e.length).map (λi=>e.getD i 0)=e:=λe=>by
 refine dJ λi=>?_;rw[aG];by_cases h:i<e.length
 .rw[eA h,aA h];show some (e.getD i 0)=_;rw[List.getD,aA h]
  rfl
 .rw[bn (by rw[cj];lia),bn (by lia)]
  rfl
theorem yj{e:du}{n:Nat}(h:e.length=n):((bG n).map λv=>e.getD v.toNat 0).sum=e.sum:=by
 unfold bG;rw[ee,<-h];exact congrArg List.sum (Lx e)
theorem DT{f:du}(h:∀x∈f,0<=x)(i:Nat):0<=f.getD i 0:=by
 rw[List.getD];cases e:f[i]? with
 | none=>exact bO _
 | some y=>exact h y (aX e)
theorem Ki(R:ε m c r a b):∀(n:Nat)(v:Int),b v=n->0<=v->v<m->DH a r n v=true
 | 0,v,e,h0,h1=>by
   refine bE (Classical.byContradiction λh=>?_);have:=R.pos h0 h1 h
   lia
 | n+1,v,e,h0,h1=>by
   show(decide (v=r)||DH a r n (a v))=true;by_cases h:v=r
   .rw[bE h];rfl
   .have u:=R.up v h0 h1 h;rw[Ki R n (a v) (by lia) u.1.1 u.1.2,kP]
theorem NO(g:Good m c)(R:ε m c r a b)(f:0<=r)(e:r<m):∃t,cT m c r a b r=r::t/\Order m r a t:=B9 g R f e (pF g R _ r f e).1 λv=>by
 rw[yN g R f e];exact⟨λh=>h.1,λh=>⟨h,Ki R _ v rfl h.1 h.2⟩⟩
end
section
variable{m:Int}{a:hT}{r:Int}{b:fc}{c:fz}{f:fc}{d e:du}
theorem J5(g:Good m a)(R:ε m a r b c)(s:0<=r)(q:r<m){k:Int}{h:fc}{l:fz}(n:ε m a k h l)(i:0<=k)(j:k<m)(o:(d.length:Int)=m)(v:∀x∈d,0<=x)(t:∀y∈e,0<=y)(w:0<=ώ m a r b c e d r):0<=ώ m a k h l e d k:=by
 obtain⟨z,u,p,_⟩:=TU g R s q t _ d rfl o v w;have C:=VE g n i j p;have B:=u.aex (ys:=e) g n i j o;have A:=p k i j
 lia
end
end Pb
namespace L2
open PySem
theorem Ek{K:gx}{c:Bool}{a p:Addr}{xs:List V}{Q:VK}{g:TG}{w:TT}{A:TE}{o:St}{z:Hp}(k:Nat->List V->St->Hp->Prop)(C:k 0 [] o z)(G:∀i d f H,k i d f H->ϑ K c H a xs)(I:∀(i:Nat) (x:V) (d:List V) (f:St) (H:Hp) (q:Addr) (N:List V->St->Hp->Prop),(∀n h l,k (i+1) n h l->N n h l)->xs[i]?=some x->k i d f H->H q=none->g (.ref q) f (upd H q (.tup [.int i,x])) λj J=>w j J λb v=>
 if b=true then A j v λy u=>u p=some (.lst d)/\d.length<sizeLine/\N (d++[y]) j (upd u p (.lst (d++[y])))else N d j v)(F:∀d f H,k xs.length d f H->Q (.ref p) H):uH (Ite K c a) p Q g w A o z:=by
 refine⟨λi m d f H=>m=xs.length-i/\i<=xs.length/\k i d f H,⟨_,rfl,b7 _,C⟩,?_⟩;rintro i m d f H ⟨rfl,O,pv⟩;have s:=G i d f H pv;by_cases B:i<xs.length
 .refine .inr ⟨⟨xs,xs[i],s,aA B⟩,λx l y=>?_⟩;obtain⟨M,D,L,rfl,rfl,E⟩:=y;exact I i D d f H M (λn h l=>∃t,t<xs.length-i/\(t=xs.length-(i+1)/\i+1<=xs.length/\k (i+1) n h l)) (λn h l r=>⟨xs.length-(i+1),by lia,rfl,B,r⟩) (E xs s) pv L
 .have e:i=xs.length:=by lia
  subst e;exact .inl ⟨⟨xs,s,rfl⟩,F d f H pv⟩
def Z3(o:Addr)(H a:Hp):Prop:=∀b x,H b=some x->b≠o->a b=some x
theorem Z3.refl{o:Addr}{H:Hp}:Z3 o H H:=λ_ _ h _=>h
theorem Z3.then{o:Addr}{H d e:Hp}(a:Z3 o H d)(b:δ d e):Z3 o H e:=λc x h n=>b c x (a c x h n)
theorem Z3.put{o:Addr}{H b:Hp}(a:Z3 o H b)(x:HO):Z3 o H (upd b o x):=λc y h n=>by rw[aL n];exact a c y h n
theorem Z3.Ac{K:gx}{H b:Hp}{o C d:Addr}{f:List (Str×V)}{c:Bool}{a:Addr}{g:List V}(e:Z3 o H b)(k:H o=some (.ins C d f))(h:ϑ K c H a g):ϑ K c b a g:=by
 have n:∀{y:HO},H a=some y->y≠.ins C d f->a≠o:=λi j z=>by rw[z,k]at i;cases i;exact j rfl
 cases c
 .rcases h with(h|⟨o',h⟩)|h
  .exact .inl (.inl (e _ _ h (n h (by intro z;cases z))))
  .exact .inl (.inr ⟨o',e _ _ h (n h (by intro z;cases z))⟩)
  .exact .inr h
 .rcases h with(h|⟨o',h⟩)|h
  .exact .inl (.inl (e _ _ h (n h (by intro z;cases z))))
  .exact .inl (.inr ⟨o',e _ _ h (n h (by intro z;cases z))⟩)
  .exact .inr h
end L2
namespace Pb
open PySem L2
def m8(a b:du):List Int:=List.zipWith (·+·) a b
def zrs(m:Int):List Int:=List.replicate m.toNat 0
def rM(m:Int)(a:List (List Int)):List Int:=a.foldl m8 (zrs m)
def mX(b l:du):List Int:=if b.sum<l.sum then l else b
theorem Hy{b l:du}(h:b.sum<l.sum):mX b l=l:=aj h
theorem GG{b l:du}(h:¬b.sum<l.sum):mX b l=b:=ah h
def Ϡ(b:hT)(a:fc)(v:Int):Int:=(ci b v (a v)).getD 1
def Ϻ(b:hT)(a:fc)(v:Int):Int:=(ci b (a v) v).getD 1
abbrev kd(m:Int)(b:hT)(r:Int)(a:fc)(v:Int):List Int:=cq m b (front r a v) v
def ϭ(m:Int)(b:hT)(r:Int)(a:fc)(c:Int->List Int)(v:Int)(x:V):List Int:=rM m (((kd m b r a v).filter λk=>decide (V.int k≠x)).map c)
def oO(b:du)(v d:Int):List Int:=b.set v.toNat (b.getD v.toNat 0+d)
def byK(m:Int)(c:hT)(r:Int)(a:fc)(e:fc)(f:Int->List Int)(d:Int->Int->List Int)(v b k:Int):List Int:=m8 (d k (Ϡ c a k*(b-e k*Ϻ c a k+1)-1)) (ϭ m c r a f v (.int k))
def pi(m:Int)(b:hT)(r:Int)(a:fc)(c:fc)(d:Int->List Int)(e:Int->Int->List Int)(v y:Int):List Int:=((kd m b r a v).map (byK m b r a c d e v (c v+y))).foldl mX (oO (ϭ m b r a d v .ς) v (c v+y))
def ld(m:Int)(b:hT)(r:Int)(a:fc)(c:fc):Nat->Bool->Int->Int->List Int
 | 0,_,_,_=>[]
 | n+1,true,v,y=>pi m b r a c (λk=>ld m b r a c n false k 0) (λk z=>ld m b r a c n true k z) v y
 | n+1,false,v,_=>if 0<c v then ϭ m b r a (λk=>ld m b r a c n false k 0) v .ς else pi m b r a c (λk=>ld m b r a c n false k 0) (λk z=>ld m b r a c n true k z) v (Ϡ b a v-1)
def ϲ(m:Int)(c:hT)(r:Int)(a:fc)(b:fz)(d:fc)(v y:Int):List Int:=ld m c r a d (m.toNat-b v) true v y
def Υ(m:Int)(c:hT)(r:Int)(a:fc)(b:fz)(d:fc)(v:Int):List Int:=ld m c r a d (m.toNat-b v) false v 0
def pX(m:Int)(a:du):Int:=((bG m.toNat).filter λv=>decide (0<a.getD v.toNat 0)).headD 0
theorem C4{m:Int}{b:du}(u:(b.length:Int)=m)(j:∀x∈b,0<=x)(h:b.sum≠0):∃d,((bG m.toNat).filter λv=>decide (0<b.getD v.toNat 0))=pX m b::d/\(0<=pX m b/\pX m b<m)/\0<b.getD (pX m b).toNat 0:=by
 have g:∃x∈b,0<x:=by
  refine Classical.byContradiction λn=>h ?_;have:∀l:List Int,(∀x∈l,x=0)->l.sum=0:=by
   intro l
   induction l with
   | nil=>intro _;rfl
   | cons a l ih=>intro q;rw[aK,q a ax,ih λx c=>q x (aq _ c)];rfl
  refine this b λx c=>?_;have t:=j x c;have s:¬0<x:=λz=>n ⟨x,c,z⟩
  lia
 obtain⟨x,c,k⟩:=g;obtain⟨i,p,rfl⟩:=mz.mp c;have f:(i:Int)∈(bG m.toNat).filter λv=>decide (0<b.getD v.toNat 0):=by
  refine bu.mpr ⟨aX (fq (show i<m.toNat by lia)),bE ?_⟩;rw[show((i:Int)).toNat=i from rfl,bj,aA p];exact k
 unfold pX;cases e:(bG m.toNat).filter λv=>decide (0<b.getD v.toNat 0)with
 | nil=>rw[e]at f;cases f
 | cons a d=>
   have o:a∈(bG m.toNat).filter λv=>decide (0<b.getD v.toNat 0):=by rw[e];exact ax
   have w:=bu.mp o;have r:=dX.mp w.1;exact⟨d,rfl,⟨r.1,by have:=r.2;show a<m;lia⟩,bF w.2⟩
theorem UT(m:Int):(zrs m).sum=0:=by
 unfold zrs
 induction m.toNat with
 | zero=>rfl
 | succ n ih=>rw[cW,aK,ih];rfl
theorem GH:∀{l:du},(∀x∈l,0<=x)->0<=l.sum
 | [],_=>by decide
 | a::l,h=>by
   have c:=h a ax;have d:=GH λx b=>h x (aq _ b);rw[aK]
   lia
theorem Oc:∀{l:du},(∀x∈l,0<=x)->∀{x:Int},x∈l->x<=l.sum
 | a::l,h,x,hx=>by
   have b:=h a ax;have c:=GH λx hx=>h x (aq _ hx);rw[aK];rcases aD.mp hx with rfl|hx
   .lia
   .have:=Oc (λx hx=>h x (aq _ hx)) hx
    lia
theorem HF{d c:Type}{R:d->c->Prop}:∀{l:List d}{f:List c},Paired R l f->∀{i:Nat}{b:c},f[i]?=some b->∃a,l[i]?=some a/\R a b
 | _,_,.nil,i,b,e=>by simp at e
 | _,_,.cons (a:=a) (b:=b') h _,0,b,e=>by
   rw[List.getElem?_cons_zero]at e;cases e;exact⟨a,rfl,h⟩
 | _,_,.cons h hs,i+1,b,e=>by
   rw[iQ]at e;obtain⟨a,g,j⟩:=HF hs e;exact⟨a,by rw[iQ];exact g,j⟩
theorem u4{c d:Type}{R S:c->d->Prop}:∀{l:List c}{e:List d},(∀a b,a∈l->R a b->S a b)->Paired R l e->Paired S l e
 | _,_,_,.nil=>.nil
 | _,_,f,.cons h hs=>.cons (f _ _ ax h) (u4 (λa b g=>f a b (aq _ g)) hs)
theorem DK{c d:Type}{R:c->d->Prop}:∀{l:List c}{e:List d},Paired R l e->∀{a:c},a∈l->∃b,R a b
 | _,_,.nil,a,h=>by cases h
 | _,_,.cons (b:=b) h hs,a,ha=>by
   rcases aD.mp ha with rfl|ha
   .exact⟨b,h⟩
   .exact DK hs ha
theorem sJ{c d:Type}{R:c->d->Prop}{a:c}{b:d}(e:R a b):∀{l:List c}{f:List d},Paired R l f->Paired R (l++[a]) (f++[b])
 | _,_,.nil=>.cons e .nil
 | _,_,.cons x xs=>.cons x (sJ e xs)
theorem xc{b:Type}{a:List b}{i:Int}(h:0<=i):gT a i=a[i.toNat]?:=by
 cases e:a[i.toNat]? with
 | some v=>exact gn h e
 | none=>
   have:=List.getElem?_eq_none_iff.mp e;unfold gT ixN;rw[aj h,ah (by lia)]
   rfl
theorem EC{m v:Int}(a:0<=v)(b:v<m):(bG m.toNat)[v.toNat]?=some v:=by
 rw[fq (by lia)];exact congrArg some (bW a)
theorem Di{m v:Int}(a:fc)(b:0<=v)(c:v<m):gT (((bG m.toNat).map a).map V.int) v=some (.int (a v)):=gn b (by
 rw[aG,aG,EC b c]
 rfl)
theorem Up(m:Int):(zrs m).map V.int=List.replicate m.toNat (V.int 0):=by unfold zrs;rw[iz]
theorem Mv{m:Int}{a:List (List Int)}{l:du}:rM m (a++[l])=m8 (rM m a) l:=by unfold rM;rw[List.foldl_append];rfl
section
variable{m:Int}{j:hT}{r:Int}{f:fc}{i:fz}{o:fc}
theorem xw{b a:Int->List Int}{v:Int}{x:V}(h:∀k∈kd m j r f v,b k=a k):ϭ m j r f b v x=ϭ m j r f a v x:=by
 unfold ϭ;rw[bQ λk c=>h k (bu.mp c).1]
theorem zm{d a:Int->List Int}{c b:Int->Int->List Int}{v y:Int}(h:∀k∈kd m j r f v,d k=a k)(g:∀k∈kd m j r f v,∀z,c k z=b k z):pi m j r f o d c v y=pi m j r f o a b v y:=by
 unfold pi byK;rw[xw (x:=.ς) h,bQ λk e=>by rw[g k e,xw (x:=.int k) h]]
theorem fK(g:Good m j)(R:ε m j r f i){v:Int}(c:0<=v)(a:v<m){k:Int}(b:k∈kd m j r f v):((0<=k/\k<m)/\k≠r/\f k=v)/\m.toNat-i v=m.toNat-i k+1/\1<=m.toNat-i k:=by
 have w:=(ce g R c a).mp b;have:=R.pos w.1.1 w.1.2 w.2.1;have d:=iJ R w.1.1 w.1.2;rw[w.2.2]at this;exact⟨w,by lia,by lia⟩
theorem GB(R:ε m j r f i){v:Int}(b:0<=v)(a:v<m):∃n,m.toNat-i v=n+1:=⟨m.toNat-i v-1,by have:=iJ R b a;lia⟩
theorem tG(g:Good m j)(R:ε m j r f i){v y:Int}(c:0<=v)(b:v<m):ϲ m j r f i o v y=pi m j r f o (Υ m j r f i o) (ϲ m j r f i o) v y:=by
 obtain⟨n,e⟩:=GB R c b;have d:∀k∈kd m j r f v,m.toNat-i k=n:=λk a=>by have:=(fK g R c b a).2.1;lia
 unfold ϲ;rw[e];show pi m j r f o _ _ v y=_;exact zm (λk a=>by show _=ld m j r f o (m.toNat-i k) false k 0;rw[d k a]) (λk a z=>by show _=ld m j r f o (m.toNat-i k) true k z;rw[d k a])
theorem vS(g:Good m j)(R:ε m j r f i){v:Int}(d:0<=v)(b:v<m):Υ m j r f i o v=if 0<o v then ϭ m j r f (Υ m j r f i o) v .ς else ϲ m j r f i o v (Ϡ j f v-1):=by
 obtain⟨n,e⟩:=GB R d b;have h:∀k∈kd m j r f v,m.toNat-i k=n:=λk a=>by have:=(fK g R d b a).2.1;lia
 rw[tG g R d b];unfold Υ;rw[e];show(if 0<o v then ϭ m j r f _ v .ς else pi m j r f o _ _ v _)=_;by_cases c:0<o v
 .rw[aj c,aj c];exact xw λk a=>by rw[h k a]
 .rw[ah c,ah c];exact zm (λk a=>by show _=ld m j r f o (m.toNat-i k) false k 0;rw[h k a]) (λk a z=>by show _=ld m j r f o (m.toNat-i k) true k z;rw[h k a])
theorem sW{a b:du}{n:Nat}(c:a.length=n)(d:b.length=n):(m8 a b).length=n:=by unfold m8;rw[List.length_zipWith];lia
theorem xi{m:Int}:∀(b:List (List Int))(a:du),a.length=m.toNat->(∀l∈b,l.length=m.toNat)->(b.foldl m8 a).length=m.toNat
 | [],a,h,_=>h
 | l::b,a,h,hl=>xi b (m8 a l) (sW h (hl l ax)) λx c=>hl x (aq _ c)
theorem yE(m:Int):(zrs m).length=m.toNat:=cD
theorem uN{a:Int->List Int}{v:Int}{x:V}(h:∀k∈kd m j r f v,(a k).length=m.toNat):(ϭ m j r f a v x).length=m.toNat:=by
 unfold ϭ rM;refine xi _ _ (yE m) λl c=>?_;obtain⟨k,b,rfl⟩:=aR.mp c;exact h k (bu.mp b).1
theorem En{P:List Int->Prop}:∀(a:List (List Int))(b:du),P b->(∀l∈a,P l)->P (a.foldl mX b)
 | [],b,h,_=>h
 | l::a,b,h,hl=>En a (mX b l) (by
   unfold mX;split
   .exact hl l ax
   .exact h) λx c=>hl x (aq _ c)
theorem HQ{b:du}{v d:Int}:(oO b v d).length=b.length:=by unfold oO;rw[b8]
theorem Os{b:Int->List Int}{a:Int->Int->List Int}{v y:Int}(h:∀k∈kd m j r f v,(b k).length=m.toNat)(e:∀k∈kd m j r f v,∀z,(a k z).length=m.toNat):(pi m j r f o b a v y).length=m.toNat:=by
 unfold pi;refine En (P:=λl=>l.length=m.toNat) _ _ (by rw[HQ];exact uN h) λl d=>?_;obtain⟨k,c,rfl⟩:=aR.mp d;exact sW (e k c _) (uN h)
theorem G3(g:Good m j)(R:ε m j r f i):∀(n:Nat)(v:Int),0<=v->v<m->m.toNat-i v=n->(Υ m j r f i o v).length=m.toNat/\∀y,(ϲ m j r f i o v y).length=m.toNat
 | 0,v,h0,h1,e=>by have:=iJ R h0 h1;lia
 | n+1,v,h0,h1,e=>by
   have c:∀k∈kd m j r f v,_:=λk b=>by
    have w:=fK g R h0 h1 b;exact G3 g R n k w.1.1.1 w.1.1.2 (by lia)
   have a:∀y,(ϲ m j r f i o v y).length=m.toNat:=λy=>by
    rw[tG g R h0 h1];exact Os (λk b=>(c k b).1) λk b=>(c k b).2
   refine⟨?_,a⟩;rw[vS g R h0 h1];split
   .exact uN λk b=>(c k b).1
   .exact a _
theorem uJ(g:Good m j)(R:ε m j r f i){v:Int}(b:0<=v)(a:v<m):(Υ m j r f i o v).length=m.toNat:=(G3 g R _ v b a rfl).1
theorem Kq(g:Good m j)(R:ε m j r f i){v y:Int}(b:0<=v)(a:v<m):(ϲ m j r f i o v y).length=m.toNat:=(G3 g R _ v b a rfl).2 y
end
theorem zX:∀{xs ys:du},xs.length=ys.length->(m8 xs ys).sum=xs.sum+ys.sum
 | [],[],_=>rfl
 | a::xs,b::ys,h=>by
   have c:=zX (xs:=xs) (ys:=ys) (by simpa using h);unfold m8 at c ⊢;rw[lH,aK,aK,aK,c]
   lia
theorem El{n:Nat}:∀(b:List (List Int))(a:du),a.length=n->(∀l∈b,l.length=n)->(b.foldl m8 a).sum=a.sum+(b.map List.sum).sum
 | [],a,_,_=>by simp
 | l::b,a,ha,hl=>by
   have c:=hl l ax;rw[gG,El b _ (sW ha c) λx d=>hl x (aq _ d),zX (ha.trans c.symm),aF,aK]
   lia
theorem Ij(l:du):(l.filter λk=>decide (V.int k≠V.ς))=l:=nD.mpr λk _=>by simp
theorem HU{f:fc}:∀{l:du},l.Nodup->∀{k:Int},k∈l->((l.filter λj=>decide (V.int j≠V.int k)).map f).sum=(l.map f).sum-f k
 | a::l,nd,k,hk=>by
   obtain⟨b,c⟩:=aV.mp nd;by_cases e:a=k
   .subst e;rw[eF (by simp),aF,aK];rw[nD.mpr λj d=>by
     have:j≠a:=λz=>b (z▸d)
     simpa using this]
    lia
   .rw[eG (by simpa using e),aF,aK,aF,aK,HU c ((aD.mp hk).resolve_left (Ne.symm e))]
    lia
theorem Sa{b:du}{v d:Int}(h:v.toNat<b.length):(oO b v d).sum=b.sum+d:=by
 unfold oO;rw[yF _ _ _ h]
 lia
theorem Vc{b l:du}:b.sum<=(mX b l).sum/\l.sum<=(mX b l).sum:=by
 by_cases h:b.sum<l.sum
 .rw[Hy h];lia
 .rw[GG h];lia
theorem HN:∀(c:List (List Int))(b:du),b.sum<=(c.foldl mX b).sum/\∀l∈c,l.sum<=(c.foldl mX b).sum
 | [],b=>⟨bO _,λl h=>by cases h⟩
 | a::c,b=>by
   obtain⟨d,e⟩:=HN c (mX b a);have g:=Vc (b:=b) (l:=a);refine⟨dh g.1 d,λl hl=>?_⟩;rcases aD.mp hl with rfl|hl
   .exact dh g.2 d
   .exact e l hl
theorem An:∀(c:List (List Int))(b:du),c.foldl mX b=b\/c.foldl mX b∈c
 | [],b=>.inl rfl
 | a::c,b=>by
   rw[gG];rcases An c (mX b a)with h|h
   .rw[h];by_cases z:b.sum<a.sum
    .rw[Hy z];exact .inr ax
    .rw[GG z];exact .inl rfl
   .exact .inr (aq _ h)
theorem CJ{f e:fc}{D F:Int}:∀{l:du},(∀c∈l,f c*D<=e c*F)->(l.map f).sum*D<=(l.map e).sum*F
 | [],_=>by simp
 | a::l,h=>by
   have d:=h a ax;have g:=CJ (l:=l) λc b=>h c (aq _ b);rw[aF,aF,aK,aK,cR,cR]
   lia
theorem si{f:fc}{l:du}(h:∀c∈l,0<=f c):0<=(l.map f).sum:=GH λx b=>by
 obtain⟨c,a,rfl⟩:=aR.mp b;exact h c a
theorem wq{f:fc}{l:du}(h:∀c∈l,0<=f c){c:Int}(a:c∈l):f c<=(l.map f).sum:=Oc (λx b=>by
 obtain⟨c,a,rfl⟩:=aR.mp b;exact h c a) (aR.mpr ⟨c,a,rfl⟩)
theorem Av{f h:fc}:∀{l:du},(l.map λc=>f c+h c).sum=(l.map f).sum+(l.map h).sum
 | []=>by simp
 | a::l=>by rw[aF,aF,aF,aK,aK,aK,Av];lia
theorem tm{f h:fc}:∀{l:du},(l.map λc=>f c-h c).sum=(l.map f).sum-(l.map h).sum
 | []=>by simp
 | a::l=>by rw[aF,aF,aF,aK,aK,aK,tm];lia
section
variable{m:Int}{o:hT}{r:Int}{j:fc}{p:fz}{nd:fc}
theorem og(g:Good m o)(R:ε m o r j p){v:Int}(d:0<=v)(c:v<m)(e:v≠r):2<=Ϡ o j v/\2<=Ϻ o j v:=by
 obtain⟨i,f,a,_⟩:=lV g R d c e;obtain⟨k,h,b,_⟩:=yQ g R d c e;unfold Ϡ Ϻ;rw[f,h];exact⟨a,b⟩
def idS(m:Int)(o:hT)(r:Int)(j:fc)(p:fz)(nd:fc)(v:Int):Int:=((kd m o r j v).map λc=>(Υ m o r j p nd c).sum).sum
def gS(m:Int)(o:hT)(r:Int)(j:fc)(p:fz)(nd:fc)(v D:Int):Int:=(ϲ m o r j p nd v (D-nd v)).sum-idS m o r j p nd v
def gK(m:Int)(o:hT)(r:Int)(j:fc)(p:fz)(nd:fc)(k D:Int):Int:=(ϲ m o r j p nd k (Ϡ o j k*(D-nd k*Ϻ o j k+1)-1)).sum-(Υ m o r j p nd k).sum
theorem Dn(g:Good m o)(R:ε m o r j p){v:Int}(b:0<=v)(a:v<m)(x:V):(ϭ m o r j (Υ m o r j p nd) v x).sum=(((kd m o r j v).filter λk=>decide (V.int k≠x)).map λc=>(Υ m o r j p nd c).sum).sum:=by
 unfold ϭ rM;rw[El _ _ (yE m) λl d=>?_,UT,dC,ee]
 .rfl
 .obtain⟨k,hk,rfl⟩:=aR.mp d;have w:=fK g R b a (bu.mp hk).1;exact uJ g R w.1.1.1 w.1.1.2
theorem HZ(g:Good m o)(R:ε m o r j p){v:Int}(c:0<=v)(a:v<m)(x:V):(ϭ m o r j (Υ m o r j p nd) v x).length=m.toNat:=uN λk b=>by
 have w:=fK g R c a b;exact uJ g R w.1.1.1 w.1.1.2
theorem KB(g:Good m o)(R:ε m o r j p){v:Int}(b:0<=v)(a:v<m){k:Int}(c:k∈kd m o r j v)(D:Int):(byK m o r j nd (Υ m o r j p nd) (ϲ m o r j p nd) v D k).sum=idS m o r j p nd v+gK m o r j p nd k D:=by
 have w:=fK g R b a c;unfold byK gK;rw[zX ((Kq g R w.1.1.1 w.1.1.2).trans (HZ g R b a _).symm),Dn g R b a,HU (show(kd m o r j v).Nodup from jX) c];unfold idS
 lia
theorem Cq(g:Good m o)(R:ε m o r j p){v:Int}(c:0<=v)(a:v<m)(D:Int):D<=gS m o r j p nd v D/\(∀k∈kd m o r j v,gK m o r j p nd k D<=gS m o r j p nd v D)/\(gS m o r j p nd v D=D\/∃k∈kd m o r j v,gS m o r j p nd v D=gK m o r j p nd k D):=by
 have e:nd v+(D-nd v)=D:=by lia
 have d:(oO (ϭ m o r j (Υ m o r j p nd) v .ς) v D).sum=idS m o r j p nd v+D:=by
  rw[Sa (by rw[HZ g R c a];lia),Dn g R c a,Ij]
  rfl
 unfold gS;rw[tG g R c a];unfold pi;rw[e];obtain⟨i,f⟩:=HN ((kd m o r j v).map (byK m o r j nd (Υ m o r j p nd) (ϲ m o r j p nd) v D)) (oO (ϭ m o r j (Υ m o r j p nd) v .ς) v D);refine⟨by lia,λk b=>?_,?_⟩
 .have:=f _ (aR.mpr ⟨k,b,rfl⟩);rw[KB g R c a b]at this
  lia
 .rcases An ((kd m o r j v).map (byK m o r j nd (Υ m o r j p nd) (ϲ m o r j p nd) v D)) (oO (ϭ m o r j (Υ m o r j p nd) v .ς) v D)with h|h
  .rw[h,d];exact .inl (by lia)
  .obtain⟨k,b,e⟩:=aR.mp h;rw[<-e,KB g R c a b];exact .inr ⟨k,b,by lia⟩
theorem xq{k y:Int}:(ϲ m o r j p nd k y).sum=idS m o r j p nd k+gS m o r j p nd k (y+nd k):=by
 unfold gS;rw[show y+nd k-nd k=y by lia]
 lia
theorem uY(g:Good m o)(R:ε m o r j p){k:Int}(b:0<=k)(a:k<m):(Υ m o r j p nd k).sum=idS m o r j p nd k+if 0<nd k then 0 else gS m o r j p nd k (Ϡ o j k-1+nd k):=by
 rw[vS g R b a];split
 .rw[Dn g R b a,Ij];unfold idS
  lia
 .exact xq
structure Nds(m:Int)(o:hT)(r:Int)(j:fc)(w nd:fc):Prop where
 st:∀v,0<=v->v<m->nd v=w v+((kd m o r j v).map λc=>nd c*Ϻ o j c).sum
 nn:∀v,0<=v->v<m->0<=nd v
 w0:∀v,0<=v->v<m->0<=w v
variable{w:fc}
theorem dn0(g:Good m o)(R:ε m o r j p)(N:Nds m o r j w nd){v:Int}(d:0<=v)(a:v<m):∀c∈kd m o r j v,0<=nd c*Ϻ o j c:=λc b=>by
 have q:=(fK g R d a b).1;have t:=og g R q.1.1 q.1.2 q.2.1;exact dW (N.nn c q.1.1 q.1.2) (by lia)
theorem yd(g:Good m o)(R:ε m o r j p)(N:Nds m o r j w nd){v:Int}(b:0<=v)(a:v<m){c:Int}(d:c∈kd m o r j v):w v+nd c*Ϻ o j c<=nd v:=by
 rw[N.st v b a];have:=wq (dn0 g R N b a) d
 lia
theorem Dr(g:Good m o)(R:ε m o r j p)(N:Nds m o r j w nd){v:Int}(b:0<=v)(a:v<m)(z:nd v<=0){c:Int}(d:c∈kd m o r j v):nd c=0:=by
 have h:=yd g R N b a d;have q:=(fK g R b a d).1;have t:=og g R q.1.1 q.1.2 q.2.1;have n:=N.nn c q.1.1 q.1.2;have w0:=N.w0 v b a;have:=bg t.2 n
 lia
theorem KJ(g:Good m o)(R:ε m o r j p){v:Int}(n:0<=v)(s:v<m):1<=Ξ m o r j p v/\(∀c∈kd m o r j v,Ξ m o r j p c*Ϡ o j c<=Ξ m o r j p v)/\(Ξ m o r j p v=1\/∃c∈kd m o r j v,Ξ m o r j p v=Ξ m o r j p c*Ϡ o j c):=by
 have e:Ξ m o r j p v=((kd m o r j v).map λc=>Ξ m o r j p c*Ϡ o j c).foldl mx 1:=uZ g R n s;have q:∀(l:du)(a:Int),a<=l.foldl mx a/\(∀x∈l,x<=l.foldl mx a)/\(l.foldl mx a=a\/l.foldl mx a∈l):=by
  intro l
  induction l with
  | nil=>intro a;exact⟨bO _,λx h=>(by cases h),.inl rfl⟩
  | cons b l ih=>
    intro a;obtain⟨y,t,i3⟩:=ih (mx a b);have u:a<=mx a b/\b<=mx a b/\(mx a b=a\/mx a b=b):=(by unfold mx;split<;>lia);rw[gG];refine⟨by lia,λx hx=>?_,?_⟩
    .rcases aD.mp hx with rfl|hx
     .lia
     .exact t x hx
    .rcases i3 with i3|i3
     .rw[i3];rcases u.2.2 with h|h
      .exact .inl h
      .rw[h];exact .inr ax
     .exact .inr (aq _ i3)
 obtain⟨i,k,f⟩:=q ((kd m o r j v).map λc=>Ξ m o r j p c*Ϡ o j c) 1;rw[<-e]at i k f;refine⟨i,λc d=>k _ (aR.mpr ⟨c,d,rfl⟩),f.imp id λh=>?_⟩;obtain⟨c,d,e⟩:=aR.mp h;exact⟨c,d,e.symm⟩
theorem CT(g:Good m o)(R:ε m o r j p)(N:Nds m o r j w nd):∀(n:Nat)(v:Int),0<=v->v<m->m.toNat-p v=n->(∀k∈kd m o r j v,nd k=0)->∀D,0<=D->gS m o r j p nd v D=Ξ m o r j p v*D
 | 0,v,h0,h1,e,_,_,_=>by have:=iJ R h0 h1;lia
 | n+1,v,h0,h1,e,z,D,D0=>by
   have d:∀k∈kd m o r j v,gK m o r j p nd k D=Ξ m o r j p k*Ϡ o j k*D:=λk a=>by
    obtain⟨q,C,_⟩:=fK g R h0 h1 a;have y:=z k a;have t:=og g R q.1.1 q.1.2 q.2.1;have b:=CT g R N n k q.1.1 q.1.2 (by lia) (λc x=>Dr g R N q.1.1 q.1.2 (by lia) x);have u:0<=Ϡ o j k*(D+1)-1:=by
     have:=bg (show 1<=D+1 by lia) (show 0<=Ϡ o j k by lia)
     lia
    unfold gK;rw[xq,uY g R q.1.1 q.1.2,y,ah (by decide),ff,Int.sub_zero,dE,dE,b _ u,b _ (by lia)];rw[gX,gX,db,db,eU,cX]
    lia
   obtain⟨B,f,A⟩:=Cq (nd:=nd) g R h0 h1 D;obtain⟨l,s,i⟩:=KJ g R h0 h1;have le:gS m o r j p nd v D<=Ξ m o r j p v*D:=by
    rcases A with h|⟨k,a,h⟩
    .rw[h];have:=bH l D0
     lia
    .rw[h,d k a];exact bH (s k a) D0
   have ge:Ξ m o r j p v*D<=gS m o r j p nd v D:=by
    rcases i with h|⟨k,a,h⟩
    .rw[h];lia
    .rw[h,<-d k a];exact f k a
   lia
theorem ar1{st n u d D e:Int}(q:2<=u)(h:2<=d)(L:1<=n)(a:e=(if 0<=st then st/u else st*d)+n*d)(y:0<=st+n)(E:e<=D)(M:n*d<=D):st+n<=u*(D-n*d+1)-1+n/\n<=u*(D-n*d+1)-1+n/\(st+n)*D<=e*(u*(D-n*d+1)-1+n):=by
 have t:=bg h (show 0<=n by lia);obtain⟨C,x⟩:∃C,D-n*d=C:=⟨_,rfl⟩;have B:0<=C:=by lia
 have b:D=C+n*d:=by lia
 rw[x];have K:=bH q B;have f:u*(C+1)=u*C+u:=by rw[db,eU]
 rw[f];by_cases s:0<=st
 .rw[aj s]at a;have i:=fL s (show 0<=u by lia);have l:=jB st u;have P:=bX st (show 0<u by lia);generalize st/u=c at a i l;have k:c<=C:=by lia
  have z:=bg k (show 0<=u by lia);refine⟨by lia,by lia,?_⟩;have A:(st+n)*D<=(u*c+(u-1+n))*D:=bH (by lia) (by lia);have O:0<=(C-c)*(u*(n*d)-(u-1+n)):=by
   refine dW (by lia) ?_;have g:=bg t (show 0<=u by lia);have J:0<=(u-1)*(n-1):=dW (by lia) (by lia);have F:(u-1)*(n-1)=u*n-u-n+1:=(by grind);have Q:u*(n*2)=2*(u*n):=(by grind);have G:0<=u*n:=dW (by lia) (by lia)
   lia
  have N:(u*c+(u-1+n))*(C+n*d)+(C-c)*(u*(n*d)-(u-1+n))=(c+n*d)*(u*C+(u-1+n)):=by grind
  rw[a,show u*C+u-1+n=u*C+(u-1+n) by lia];rw[b]at A ⊢
  lia
 .rw[ah s]at a;refine⟨by lia,by lia,?_⟩;have v:e=(st+n)*d:=by rw[a,cR]
  have g:C+n*d<=d*(u*C+u-1+n):=by
   have H:d*(u*C+u-1+n)=d*(u*C+u-1)+n*d:=(by grind);have I:=bH h (show 0<=u*C+u-1 by lia)
   lia
  rw[v,b,cX];exact bg g y
theorem ar2{f D D' k e F:Int}(a:0<D')(c:0<=D)(g:0<=F)(b:f*D'<=k*F)(d:k*D<=e*D'):f*D<=e*F:=by
 have i:=bH b c;have l:=bH d g;have q:f*D'*D=f*D*D':=by grind
 have n:k*F*D=k*D*F:=by grind
 have h:e*D'*F=e*F*D':=by grind
 exact ig (show f*D*D'<=e*F*D' by lia) a
structure Lay(m:Int)(o:hT)(r:Int)(j:fc)(w x st bl:fc):Prop where
 x0:∀v,0<=v->v<m->0<=x v
 st:∀v,0<=v->v<m->st v=x v-w v+((kd m o r j v).map λc=>Τ o j c (st c)).sum
 bl:∀v,0<=v->v<m->bl v=x v+((kd m o r j v).map bl).sum
variable{x st bl:fc}
theorem uR(v z:Int):Τ o j v z=if 0<=z then z/Ϡ o j v else z*Ϻ o j v:=rfl
theorem Bh(g:Good m o)(R:ε m o r j p)(N:Nds m o r j w nd)(L:Lay m o r j w x st bl):∀(n:Nat)(v:Int),0<=v->v<m->m.toNat-p v=n->st v+nd v=x v+((kd m o r j v).map λc=>Τ o j c (st c)+nd c*Ϻ o j c).sum/\0<=st v+nd v/\∀c∈kd m o r j v,0<=Τ o j c (st c)+nd c*Ϻ o j c
 | 0,v,h0,h1,e=>by have:=iJ R h0 h1;lia
 | n+1,v,h0,h1,e=>by
   have f:st v+nd v=x v+((kd m o r j v).map λc=>Τ o j c (st c)+nd c*Ϻ o j c).sum:=by
    rw[Av,L.st v h0 h1,N.st v h0 h1]
    lia
   have a:∀c∈kd m o r j v,0<=Τ o j c (st c)+nd c*Ϻ o j c:=λc b=>by
    obtain⟨q,i,_⟩:=fK g R h0 h1 b;have t:=og g R q.1.1 q.1.2 q.2.1;have h:=(Bh g R N L n c q.1.1 q.1.2 (by lia)).2.1;have d:=dn0 g R N h0 h1 c b;rw[uR];split
    .rename_i z
     have:=fL z (show 0<=Ϡ o j c by lia)
     lia
    .rw[<-cR];exact dW h (by lia)
   refine⟨f,?_,a⟩;rw[f];have:=si a;have:=L.x0 v h0 h1
   lia
theorem GQ(g:Good m o)(R:ε m o r j p)(N:Nds m o r j w nd)(L:Lay m o r j w x st bl){k:Int}(a:0<=k)(b:k<m)(u:k≠r)(z:nd k=0)(s:∀D,st k+nd k<=D->(∀c∈kd m o r j k,nd c*Ϻ o j c<=D)->1<=D->(bl k-idS m o r j p nd k)*D<=(st k+nd k)*gS m o r j p nd k D):bl k-(Υ m o r j p nd k).sum<=Ξ m o r j p k*Ϡ o j k*Τ o j k (st k)/\0<=Τ o j k (st k):=by
 have t:=og g R a b u;have d:=(Bh g R N L _ k a b rfl).2.1;rw[z,dE]at d;have G:=CT g R N _ k a b rfl (λc e=>Dr g R N a b (by lia) e);have v:=(KJ g R a b).1;have q:=s (st k+1) (by lia) (λc e=>by
  have:=yd g R N a b e;have:=N.w0 k a b
  lia) (by lia)
 rw[G _ (by lia),z,dE,<-cX]at q;have n:=ig q (by lia);rw[uY g R a b,ah (by lia),z,dE,G _ (by lia),uR,aj d];have f:=fL d (show 0<=Ϡ o j k by lia);have i:=jB (st k) (Ϡ o j k);have y:=bX (st k) (show 0<Ϡ o j k by lia);refine⟨?_,f⟩;generalize st k/Ϡ o j k=c at f i ⊢;have h:st k<=Ϡ o j k*c+(Ϡ o j k-1):=by lia
 have l:=bg h (show 0<=Ξ m o r j p k by lia);rw[db,<-cX]at l;rw[dF (st k)]at n
 lia
theorem Dy(g:Good m o)(R:ε m o r j p)(N:Nds m o r j w nd)(L:Lay m o r j w x st bl):∀(n:Nat)(v:Int),0<=v->v<m->m.toNat-p v=n->∀D,st v+nd v<=D->(∀c∈kd m o r j v,nd c*Ϻ o j c<=D)->1<=D->(bl v-idS m o r j p nd v)*D<=(st v+nd v)*gS m o r j p nd v D
 | 0,v,h0,b,e,_,_,_,_=>by have:=iJ R h0 b;lia
 | n+1,v,h0,b,e,D,hD,hk,D1=>by
   obtain⟨C,Q,s⟩:=Bh g R N L _ v h0 b rfl;obtain⟨A,B,_⟩:=Cq (nd:=nd) g R h0 b D;have x0:=L.x0 v h0 b;have K:∀k∈kd m o r j v,(bl k-(Υ m o r j p nd k).sum)*D<=(Τ o j k (st k)+nd k*Ϻ o j k)*gS m o r j p nd v D:=λk a=>by
    obtain⟨q,O,_⟩:=fK g R h0 b a;have y:=Dy g R N L n k q.1.1 q.1.2 (by lia);have t:=og g R q.1.1 q.1.2 q.2.1;have I:=s k a;have h:Τ o j k (st k)+nd k*Ϻ o j k<=D:=by
     have:=wq s a
     lia
    have up:=B k a;have f:(bl k-(Υ m o r j p nd k).sum)*D<=(Τ o j k (st k)+nd k*Ϻ o j k)*gK m o r j p nd k D:=by
     by_cases z:nd k=0
     .obtain⟨z1,z2⟩:=GQ g R N L q.1.1 q.1.2 q.2.1 z y;have H:0<=Ϡ o j k*(D+1)-1:=by
       have:=bg (show 1<=D+1 by lia) (show 0<=Ϡ o j k by lia)
       lia
      have G:=CT g R N _ k q.1.1 q.1.2 rfl (λc l=>Dr g R N q.1.1 q.1.2 (by lia) l);have i:gK m o r j p nd k D=Ξ m o r j p k*Ϡ o j k*D:=by
       unfold gK;rw[xq,uY g R q.1.1 q.1.2,z,ah (by decide),ff,Int.sub_zero,dE,dE,G _ H,G _ (by lia)];rw[gX,gX,db,db,eU,cX]
       lia
      rw[i,z,ff,dE];have:=bH z1 (show 0<=D by lia);have r:Τ o j k (st k)*(Ξ m o r j p k*Ϡ o j k*D)=Ξ m o r j p k*Ϡ o j k*Τ o j k (st k)*D:=(by grind);rw[r];exact this
     .have n1:=N.nn k q.1.1 q.1.2;have M:=(Bh g R N L _ k q.1.1 q.1.2 rfl).2.1;obtain⟨u,F,d⟩:=ar1 (st:=st k) (n:=nd k) (D:=D) t.1 t.2 (by lia) rfl M (by rw[<-uR];exact h) (hk k a);rw[<-uR]at d;have i:gK m o r j p nd k D=gS m o r j p nd k (Ϡ o j k*(D-nd k*Ϻ o j k+1)-1+nd k):=by
       unfold gK;rw[xq,uY g R q.1.1 q.1.2,aj (by lia)]
       lia
      have J:(Υ m o r j p nd k).sum=idS m o r j p nd k:=by
       rw[uY g R q.1.1 q.1.2,aj (by lia)]
       lia
      rw[i,J];generalize Ϡ o j k*(D-nd k*Ϻ o j k+1)-1+nd k=D' at u F d ⊢;refine ar2 (D':=D') (k:=st k+nd k) (by lia) (by lia) ?_ (y D' u (λc l=>?_) (by lia)) d
      .have:=(Cq (nd:=nd) g R q.1.1 q.1.2 D').1
       lia
      .have:=yd g R N q.1.1 q.1.2 l;have:=N.w0 k q.1.1 q.1.2
       lia
    exact dh f (bg up I)
   have E:bl v-idS m o r j p nd v=x v+((kd m o r j v).map λk=>bl k-(Υ m o r j p nd k).sum).sum:=by
    rw[tm,L.bl v h0 b];unfold idS
    lia
   have b:=CJ K;have P:=bg A x0;rw[E,C,cR,cR]
   lia
theorem Oa(g:Good m o)(R:ε m o r j p)(N:Nds m o r j w nd)(L:Lay m o r j w x st bl)(b:0<=r)(a:r<m)(G:1<=w r)(F:st r<=-1):bl r<=(ϲ m o r j p nd r (-1)).sum:=by
 obtain⟨E,I,i⟩:=Bh g R N L _ r b a rfl;have y:(ϲ m o r j p nd r (-1)).sum=idS m o r j p nd r+gS m o r j p nd r (nd r-1):=by
  rw[xq,show(-1:Int)+nd r=nd r-1 by lia]
 have s:∀c∈kd m o r j r,nd c*Ϻ o j c<=nd r-1:=λc d=>by
  have:=yd g R N b a d
  lia
 have x0:=L.x0 r b a;have D:=(Cq (nd:=nd) g R b a (nd r-1)).1;rw[y];by_cases A:1<=nd r-1
 .have q:=Dy g R N L _ r b a rfl (nd r-1) (by lia) s A;have h:(st r+nd r)*gS m o r j p nd r (nd r-1)<=gS m o r j p nd r (nd r-1)*(nd r-1):=by
   rw[dF];exact bg (by lia) (by lia)
  have:=ig (dh q h) (by lia)
  lia
 .have s0:=si i;have v:∀c∈kd m o r j r,bl c-(Υ m o r j p nd c).sum<=0:=λc d=>by
   obtain⟨q,h,_⟩:=fK g R b a d;have t:=og g R q.1.1 q.1.2 q.2.1;have H:=s c d;have n:=N.nn c q.1.1 q.1.2;have z:nd c=0:=by
    have:=bg t.2 n
    lia
   obtain⟨e,C⟩:=GQ g R N L q.1.1 q.1.2 q.2.1 z (Dy g R N L _ c q.1.1 q.1.2 rfl);have:=wq i d;simp only[z,ff,dE]at this;have B:Τ o j c (st c)=0:=(by lia);rw[B,kY]at e;exact e
  have u:bl r-idS m o r j p nd r=x r+((kd m o r j r).map λk=>bl k-(Υ m o r j p nd k).sum).sum:=by
   rw[tm,L.bl r b a];unfold idS
   lia
  have:=si (l:=kd m o r j r) (f:=λc=>(Υ m o r j p nd c).sum-bl c) λc d=>by have:=v c d;lia
  rw[tm]at this;rw[tm]at u
  lia
theorem Kb(g:Good m o)(R:ε m o r j p)(x:fc):∀(n:Nat)(v:Int),0<=v->v<m->m.toNat-p v=n->Α m o r j p x (λ_ z=>z) v=((cT m o r j p v).map x).sum
 | 0,v,h0,h1,e=>by have:=iJ R h0 h1;lia
 | n+1,v,h0,h1,e=>by
   rw[eI g R h0 h1,gw g R h0 h1,aF,aK];have:∀l:List Int,(∀c∈l,c∈kd m o r j v)->(l.map λc=>Α m o r j p x (λ_ z=>z) c).sum=((l.flatMap (cT m o r j p)).map x).sum:=by
    intro l
    induction l with
    | nil=>intro _;rfl
    | cons a l ih=>
      intro h;obtain⟨q,d,_⟩:=fK g R h0 h1 (h a ax);rw[aF,aK,bI,aE,hJ,ih λc b=>h c (aq _ b),Kb g R x n a q.1.1 q.1.2 (by lia)]
   rw[this _ λc b=>b]
theorem U6(g:Good m o)(R:ε m o r j p)(a:0<=r)(b:r<m)(x:fc):Α m o r j p x (λ_ z=>z) r=((bG m.toNat).map x).sum:=by
 rw[Kb g R x _ r a b rfl];obtain⟨t,e,O⟩:=NO g R a b;rw[e];refine qH ((hW O.nd (hG _) λv=>?_).map x);rw[aD,dX];refine⟨λh=>?_,λh=>O.all v h.1 (by have:=h.2;lia)⟩;rcases h with h|h
 .rw[h];exact⟨a,by lia⟩
 .have:=O.Δ v h
  lia
theorem J6(g:Good m o)(R:ε m o r j p){x:fc}{d:hR}(i:∀v,0<=v->v<m->0<=x v)(h:∀v z,0<=v->v<m->v≠r->0<=z->0<=d v z):∀(n:Nat)(v:Int),0<=v->v<m->m.toNat-p v=n->0<=Α m o r j p x d v
 | 0,v,h0,h1,e=>by have:=iJ R h0 h1;lia
 | n+1,v,h0,h1,e=>by
   rw[eI g R h0 h1];have a:=i v h0 h1;have b:=si (l:=kd m o r j v) (f:=λc=>d c (Α m o r j p x d c)) λc k=>by
    obtain⟨q,s,_⟩:=fK g R h0 h1 k;exact h c _ q.1.1 q.1.2 q.2.1 (J6 g R i h n c q.1.1 q.1.2 (by lia))
   exact Int.add_nonneg a b
abbrev qU(m:Int)(o:hT)(r:Int)(j:fc)(p:fz)(a:du):Int->Int:=Α m o r j p (λv=>a.getD v.toNat 0) (Z2 o j)
theorem zW{a:du}(b:∀x∈a,0<=x)(i:Nat):0<=a.getD i 0:=by
 rw[bj];cases e:a[i]? with
 | none=>exact bO _
 | some y=>exact b y (aX e)
theorem Od(g:Good m o)(R:ε m o r j p){ys:du}(h:∀y∈ys,0<=y):Nds m o r j (λv=>ys.getD v.toNat 0) (qU m o r j p ys) where
 st:=λv f e=>eI g R f e
 nn:=λv f e=>J6 g R (λv _ _=>zW h _) (λv z a b c d=>by
  have t:=og g R a b c;unfold Z2;exact dW d (show 0<=Ϻ o j v by lia)) _ v f e rfl
 w0:=λv _ _=>zW h _
theorem Xo(g:Good m o)(R:ε m o r j p){a ys:du}(x0:∀x∈a,0<=x):Lay m o r j (λv=>ys.getD v.toNat 0) (λv=>a.getD v.toNat 0) (Α m o r j p (λv=>(dA m a ys).getD v.toNat 0) (Τ o j)) (Α m o r j p (λv=>a.getD v.toNat 0) (λ_ z=>z)) where
 x0:=λv _ _=>zW x0 _
 st:=λv c b=>by
  have:=vt (m:=m) (zs:=a) (ys:=ys) v.toNat;rw[aj (by lia)]at this;rw[eI g R c b,this]
 bl:=λv c b=>eI g R c b
theorem EL(g:Good m o)(R:ε m o r j p)(c:0<=r)(b:r<m){a ys:du}(i:(a.length:Int)=m)(d:∀x∈a,0<=x)(e:∀y∈ys,0<=y)(f:0<ys.getD r.toNat 0)(h:(ϲ m o r j p (qU m o r j p ys) r (-1)).sum+1<=a.sum):0<=Α m o r j p (λv=>(dA m a ys).getD v.toNat 0) (Τ o j) r:=by
 refine Classical.byContradiction λn=>?_;have q:=Oa g R (Od g R e) (Xo g R (ys:=ys) d) c b f (by lia);rw[U6 g R c b,yj (by lia)]at q
 lia
end
theorem Er{f:Int->List Int}:∀{l:du},(l.flatMap f).Nodup->∀{a b u:Int},a∈l->b∈l->u∈f a->u∈f b->a=b
 | c::l,nd,a,b,u,ha,hb,ua,ub=>by
   rw[bI]at nd;obtain⟨g,e,d⟩:=da.mp nd;rcases aD.mp ha with ha|ha<;>rcases aD.mp hb with hb|hb
   .rw[ha,hb]
   .rw[ha]at ua;exact absurd rfl (d u ua u (c6.mpr ⟨b,hb,ub⟩))
   .rw[hb]at ub;exact absurd rfl (d u ub u (c6.mpr ⟨a,ha,ua⟩))
   .exact Er e ha hb ua ub
theorem nQ:∀{xs ys:du},xs.length=ys.length->∀(i:Nat),(m8 xs ys).getD i 0=xs.getD i 0+ys.getD i 0
 | [],[],_,i=>by simp[m8]
 | a::xs,b::ys,h,0=>by simp[m8]
 | a::xs,b::ys,h,i+1=>by
   have c:=nQ (xs:=xs) (ys:=ys) (by simpa using h) i;unfold m8 at c ⊢;rw[lH,jQ,jQ,jQ,c]
theorem Eg{n:Nat}(i:Nat):∀(b:List (List Int))(a:du),a.length=n->(∀l∈b,l.length=n)->(b.foldl m8 a).getD i 0=a.getD i 0+(b.map λl=>l.getD i 0).sum
 | [],a,_,_=>by simp
 | l::b,a,ha,hl=>by
   have c:=hl l ax;rw[gG,Eg i b _ (sW ha c) λx d=>hl x (aq _ d),nQ (ha.trans c.symm),aF,aK]
   lia
theorem Rc(m:Int)(i:Nat):(zrs m).getD i 0=0:=by
 rw[bj];cases e:(zrs m)[i]? with
 | none=>rfl
 | some y=>exact(j5.mp (aX e)).2
theorem vH{f:fc}:∀{l:du},(∀c∈l,f c=0)->(l.map f).sum=0
 | [],_=>rfl
 | a::l,h=>by rw[aF,aK,h a ax,vH λc b=>h c (aq _ b)];rfl
theorem vP{f:fc}:∀{l:du},l.Nodup->∀{c:Int},c∈l->(∀j∈l,j≠c->f j=0)->(l.map f).sum=f c
 | a::l,nd,c,hc,h=>by
   obtain⟨d,g⟩:=aV.mp nd;rw[aF,aK];by_cases e:a=c
   .subst e;rw[vH λj b=>h j (aq _ b) λz=>d (z▸b)]
    lia
   .rw[h a ax e,vP g ((aD.mp hc).resolve_left (Ne.symm e)) λj b=>h j (aq _ b)]
    lia
theorem tQ{b:du}{v d:Int}(h:v.toNat<b.length)(i:Nat):(oO b v d).getD i 0=b.getD i 0+if i=v.toNat then d else 0:=by
 unfold oO;by_cases e:i=v.toNat
 .subst e;rw[aj rfl,bj,dG h]
  rfl
 .rw[ah e,bj,cP (Ne.symm e),<-bj]
  lia
section
variable{m:Int}{p:hT}{r:Int}{d:fc}{o:fz}{B w:fc}
theorem Nw(g:Good m p)(R:ε m p r d o){v:Int}(b:0<=v)(a:v<m):(cT m p r d o v).Nodup:=(QH g R b a).nodup_iff.mpr ((hG _).filter _)
theorem yC(g:Good m p)(R:ε m p r d o){v:Int}(b:0<=v)(a:v<m){u:Int}:u∈cT m p r d o v↔u=v\/∃c∈kd m p r d v,u∈cT m p r d o c:=by
 rw[gw g R b a,aD,c6]
theorem KC(g:Good m p)(R:ε m p r d o){v:Int}(f:0<=v)(e:v<m):(∀c∈kd m p r d v,v∉cT m p r d o c)/\∀{a b u:Int},a∈kd m p r d v->b∈kd m p r d v->u∈cT m p r d o a->u∈cT m p r d o b->a=b:=by
 have n:=Nw g R f e;rw[gw g R f e]at n;obtain⟨k,s⟩:=aV.mp n;exact⟨λc j z=>k (c6.mpr ⟨c,j,z⟩),λi q l h=>Er s i q l h⟩
theorem C5(g:Good m p)(R:ε m p r d o){a i:fc}{b:hR}:∀(n:Nat)(v:Int),0<=v->v<m->m.toNat-o v=n->(∀u∈cT m p r d o v,a u=i u)->Α m p r d o a b v=Α m p r d o i b v
 | 0,v,h0,h1,e,_=>by have:=iJ R h0 h1;lia
 | n+1,v,h0,h1,e,h=>by
   rw[eI g R h0 h1,eI g R h0 h1,h v (vM g R h0 h1)];rw[bQ λc f=>?_];obtain⟨q,k,_⟩:=fK g R h0 h1 f;rw[C5 g R n c q.1.1 q.1.2 (by lia) λu j=>h u ((yC g R h0 h1).mpr (.inr ⟨c,f,j⟩))]
structure Ld(m:Int)(p:hT)(r:Int)(d:fc)(o:fz)(w:fc)(X:du)(v y:Int):Prop where
 len:X.length=m.toNat
 nn:∀i,0<=X.getD i 0
 off:∀u,0<=u->u∉cT m p r d o v->X.getD u.toNat 0=0
 st:Α m p r d o (λu=>X.getD u.toNat 0-w u) (Τ p d) v=y
theorem AA(g:Good m p)(R:ε m p r d o){v:Int}(b:0<=v)(a:v<m)(x:V)(i:Nat):(ϭ m p r d (Υ m p r d o B) v x).getD i 0=(((kd m p r d v).filter λk=>decide (V.int k≠x)).map λc=>(Υ m p r d o B c).getD i 0).sum:=by
 unfold ϭ rM;rw[Eg i _ _ (yE m) λl e=>?_,Rc,dC,ee]
 .rfl
 .obtain⟨k,hk,rfl⟩:=aR.mp e;have w:=fK g R b a (bu.mp hk).1;exact uJ g R w.1.1.1 w.1.1.2
theorem B6(g:Good m p)(R:ε m p r d o){v:Int}(h:0<=v)(l:v<m)(x:V)(n:∀c∈kd m p r d v,∃y,Ld m p r d o w (Υ m p r d o B c) c y):(∀i,0<=(ϭ m p r d (Υ m p r d o B) v x).getD i 0)/\(∀u,0<=u->(∀c∈kd m p r d v,u∉cT m p r d o c)->(ϭ m p r d (Υ m p r d o B) v x).getD u.toNat 0=0)/\∀c∈kd m p r d v,∀u,0<=u->u∈cT m p r d o c->(ϭ m p r d (Υ m p r d o B) v x).getD u.toNat 0=if V.int c≠x then(Υ m p r d o B c).getD u.toNat 0 else 0:=by
 refine⟨λi=>?_,λu s q=>?_,λc a u s q=>?_⟩
 .rw[AA g R h l];refine si λc a=>?_;obtain⟨y,L⟩:=n c (bu.mp a).1;exact L.nn i
 .rw[AA g R h l];refine vH λc a=>?_;have a:=(bu.mp a).1;obtain⟨y,L⟩:=n c a;exact L.off u s (q c a)
 .rw[AA g R h l];have f:∀j∈(kd m p r d v).filter (λk=>decide (V.int k≠x)),j≠c->(Υ m p r d o B j).getD u.toNat 0=0:=λj b t=>by
   have b:=(bu.mp b).1;obtain⟨y,L⟩:=n j b;exact L.off u s λz=>t ((KC g R h l).2 b a z q)
  by_cases e:V.int c≠x
  .rw[aj e];exact vP (jX.filter _) (bu.mpr ⟨a,bE e⟩) f
  .rw[ah e];exact vH λj b=>f j b λz=>e (by
    rw[<-z];exact bF (bu.mp b).2)
theorem AK(g:Good m p)(R:ε m p r d o)(N:Nds m p r d w B){c:Int}(b:0<=c)(a:c<m)(e:c≠r):Τ p d c (if 0<B c then -B c else Ϡ p d c-1)=-(B c*Ϻ p d c):=by
 have t:=og g R b a e;have n:=N.nn c b a;rw[uR];by_cases z:0<B c
 .rw[aj z,ah (by lia),gY]
 .rw[ah z,aj (by lia),show B c=0 by lia,ff];exact gR (by lia) (by lia)
theorem Kn{f:fc}:∀{l:du},(l.map λc=>-f c).sum=-(l.map f).sum
 | []=>rfl
 | a::l=>by rw[aF,aF,aK,aK,Kn];lia
theorem Hg(g:Good m p)(R:ε m p r d o)(N:Nds m p r d w B):∀(n:Nat)(v:Int),0<=v->v<m->m.toNat-o v=n->(v≠r->Ld m p r d o w (Υ m p r d o B v) v (if 0<B v then -B v else Ϡ p d v-1))/\∀y,-1<=y->(y=-1->1<=w v)->Ld m p r d o w (ϲ m p r d o B v y) v y
 | 0,v,h0,h1,e=>by have:=iJ R h0 h1;lia
 | n+1,v,h0,h1,e=>by
   have f:∀c∈kd m p r d v,(c≠r/\(0<=c/\c<m))/\Ld m p r d o w (Υ m p r d o B c) c (if 0<B c then -B c else Ϡ p d c-1)/\∀y,0<=y->Ld m p r d o w (ϲ m p r d o B c y) c y:=λc a=>by
    obtain⟨q,q2,_⟩:=fK g R h0 h1 a;have U:=Hg g R N n c q.1.1 q.1.2 (by lia);exact⟨⟨q.2.1,q.1⟩,U.1 q.2.1,λy y0=>U.2 y (by lia) λz=>by lia⟩
   have P:∀c∈kd m p r d v,∃y,Ld m p r d o w (Υ m p r d o B c) c y:=λc a=>⟨_,(f c a).2.1⟩;have ben:∀c∈kd m p r d v,∀u∈cT m p r d o c,0<=u:=λc a u b=>((yN g R (f c a).1.2.1 (f c a).1.2.2 u).mp b).1.1;have K:=KC g R h0 h1;have F:∀(X:du)(z y:Int)(a:fc),X.length=m.toNat->(∀i,0<=X.getD i 0)->(∀u,0<=u->u∉cT m p r d o v->X.getD u.toNat 0=0)->X.getD v.toNat 0=z->(∀c∈kd m p r d v,∃Y s,Ld m p r d o w Y c s/\Τ p d c s=a c/\∀u∈cT m p r d o c,X.getD u.toNat 0=Y.getD u.toNat 0)->z-w v+((kd m p r d v).map a).sum=y->Ld m p r d o w X v y:=λX z y a xl xn xo xz xk hy=>by
    refine⟨xl,xn,xo,?_⟩;rw[eI g R h0 h1,xz,<-hy,bQ λc G=>?_];obtain⟨Y,s,L,S,e2⟩:=xk c G;rw[<-S,<-L.st,C5 g R _ c (f c G).1.2.1 (f c G).1.2.2 rfl λu b=>by rw[e2 u b]]
   have J:∀{x:V}{u:Int},0<=u->u∉cT m p r d o v->(ϭ m p r d (Υ m p r d o B) v x).getD u.toNat 0=0:=λl b=>(B6 g R h0 h1 _ P).2.1 _ l λc a z=>b ((yC g R h0 h1).mpr (.inr ⟨c,a,z⟩));have I:((kd m p r d v).map λc=>-(B c*Ϻ p d c)).sum=w v-B v:=by
    rw[Kn,N.st v h0 h1]
    lia
   have A:∀y,-1<=y->(y=-1->1<=w v)->Ld m p r d o w (ϲ m p r d o B v y) v y:=λy y0 y1=>by
    have w0:=N.w0 v h0 h1;have n0:=N.nn v h0 h1;have Z:0<=B v+y:=by
     have:=si (dn0 g R N h0 h1);have:=N.st v h0 h1
     lia
    rw[tG g R h0 h1];unfold pi;rcases An ((kd m p r d v).map (byK m p r d B (Υ m p r d o B) (ϲ m p r d o B) v (B v+y))) (oO (ϭ m p r d (Υ m p r d o B) v .ς) v (B v+y))with h|h
    .rw[h];have Q:=HZ (nd:=B) g R h0 h1 .ς;have C:=B6 g R h0 h1 .ς P;have O:v.toNat<(ϭ m p r d (Υ m p r d o B) v .ς).length:=(by lia);refine F _ (B v+y) y (λc=>-(B c*Ϻ p d c)) (by rw[HQ];exact Q) (λi=>?_) (λu l b=>?_) ?_ (λc a=>⟨_,_,(f c a).2.1,AK g R N (f c a).1.2.1 (f c a).1.2.2 (f c a).1.1,λu b=>?_⟩) (by rw[I];lia)
     .rw[tQ O];have:=C.1 i;split<;>lia
     .have nv:u≠v:=λz=>b ((yC g R h0 h1).mpr (.inl z));rw[tQ O,J l b,ah (by lia)]
      rfl
     .rw[tQ O,aj rfl,C.2.1 v h0 K.1]
      lia
     .have l:=ben c a u b;have nv:u≠v:=λz=>K.1 c a (z▸b);rw[tQ O,ah (by lia),C.2.2 c a u l b,aj (by intro z;cases z)]
      lia
    .obtain⟨k,hk,e⟩:=aR.mp h;rw[<-e];obtain⟨⟨kr,k0,k1⟩,_,kg⟩:=f k hk;have t:=og g R k0 k1 kr;have kn:=yd g R N h0 h1 hk;have ai:=dn0 g R N h0 h1 k hk;obtain⟨D,T⟩:∃D,B v+y-B k*Ϻ p d k=D:=⟨_,rfl⟩;have aT:0<=D:=(by lia);have W:0<=Ϡ p d k*(D+1)-1:=by
      have:=bg (show 1<=D+1 by lia) (show 0<=Ϡ p d k by lia)
      lia
     have H:=kg _ W;have Q:=HZ (nd:=B) g R h0 h1 (.int k);have C:=B6 g R h0 h1 (.int k) P;unfold byK;rw[T];have M:=H.len.trans Q.symm;refine F _ 0 y (λc=>if c=k then D else -(B c*Ϻ p d c)) (sW H.len Q) (λi=>?_) (λu l b=>?_) ?_ (λc a=>?_) ?_
     .rw[nQ M];have:=C.1 i;have:=H.nn i
      lia
     .rw[nQ M,J l b,H.off u l λz=>b ((yC g R h0 h1).mpr (.inr ⟨k,hk,z⟩))]
      rfl
     .rw[nQ M,C.2.1 v h0 K.1,H.off v h0 (K.1 k hk)]
      rfl
     .by_cases E:c=k
      .subst E;refine⟨_,_,H,?_,λu b=>?_⟩
       .rw[aj rfl,uR,aj W];have:Ϡ p d c*(D+1)-1=(Ϡ p d c-1)+Ϡ p d c*D:=(by rw[db,eU];lia);rw[this,Int.add_mul_ediv_left _ _ (by lia),gR (by lia) (by lia)]
        lia
       .rw[nQ M,C.2.2 c a u (ben c a u b) b,ah (λz=>z rfl)]
        lia
      .refine⟨_,_,(f c a).2.1,?_,λu b=>?_⟩
       .rw[ah E];exact AK g R N (f c a).1.2.1 (f c a).1.2.2 (f c a).1.1
       .have l:=ben c a u b;rw[nQ M,C.2.2 c a u l b,aj (by intro z;cases z;exact E rfl),H.off u l λz=>E (K.2 a hk b z)]
        lia
     .have S:((kd m p r d v).map λc=>if c=k then D else -(B c*Ϻ p d c)).sum=((kd m p r d v).map λc=>-(B c*Ϻ p d c)).sum+((kd m p r d v).map λc=>if c=k then D+B k*Ϻ p d k else 0).sum:=by
       rw[<-Av];rw[bQ λc a=>?_];by_cases E:c=k
       .rw[aj E,aj E,E];lia
       .rw[ah E,ah E];lia
      rw[S,I,vP (show(kd m p r d v).Nodup from jX) hk λj _ nj=>ah nj,aj rfl]
      lia
   refine⟨λvr=>?_,A⟩;have t:=og g R h0 h1 vr;rw[vS g R h0 h1];by_cases z:0<B v
   .rw[aj z,aj z];have C:=B6 g R h0 h1 .ς P;refine F _ 0 _ (λc=>-(B c*Ϻ p d c)) (HZ g R h0 h1 _) C.1 (λu l b=>J l b) (C.2.1 v h0 K.1) (λc a=>⟨_,_,(f c a).2.1,AK g R N (f c a).1.2.1 (f c a).1.2.2 (f c a).1.1,λu b=>?_⟩) (by rw[I];lia);rw[C.2.2 c a u (ben c a u b) b,aj (by intro z;cases z)]
   .rw[ah z,ah z];exact A _ (by lia) λq=>by lia
theorem Ax(g:Good m p)(R:ε m p r d o){b ys:du}{a:hR}{v:Int}(e:0<=v)(c:v<m):Α m p r d o (λv=>(dA m b ys).getD v.toNat 0) a v=Α m p r d o (λu=>b.getD u.toNat 0-ys.getD u.toNat 0) a v:=C5 g R _ v e c rfl λu f=>by
 have h:=((yN g R e c u).mp f).1;have:=vt (m:=m) (zs:=b) (ys:=ys) u.toNat;rw[aj (by lia)]at this;exact this
theorem aag(g:Good m p)(R:ε m p r d o)(c:0<=r)(b:r<m){a:du}(h:∀y∈a,0<=y)(j:0<a.getD r.toNat 0){X:du}(f:X=ϲ m p r d o (qU m p r d o a) r (-1)):(X.length:Int)=m/\(∀x∈X,0<=x)/\ώ m p r d o a X r=-1:=by
 have L:=(Hg g R (Od g R h) _ r c b rfl).2 (-1) (by lia) λ_=>j;rw[<-f]at L;have l:=L.len;refine⟨by lia,λx e=>?_,?_⟩
 .obtain⟨i,hi,rfl⟩:=mz.mp e;have:=L.nn i
  rwa [bj,aA hi]at this
 .show Α m p r d o (λv=>(dA m X a).getD v.toNat 0) (Τ p d) r=-1;rw[Ax g R c b];exact L.st
end
theorem B4{g e:Type}{R:g->e->Prop}:∀{l:List g}{f:List e}{b:e},Paired R l (f++[b])->∃d a,l=d++[a]/\Paired R d f/\R a b
 | _,[],b,.cons (a:=a) h .nil=>⟨[],a,rfl,.nil,h⟩
 | _,c::f,b,.cons (a:=a) h hs=>by
   obtain⟨d,x,rfl,i,j⟩:=B4 hs;exact⟨a::d,x,rfl,.cons h i,j⟩
theorem UC{a:Type}(l:List a)(x:a):gT (l++[x]) (-1)=some x:=by
 unfold gT ixN;rw[ah (by decide),aN,ba,dU,aj (by lia)];show(l++[x])[(-1+((l.length+(0+1):Nat):Int)).toNat]?=some x;rw[show(-1+((l.length+(0+1):Nat):Int)).toNat=l.length by lia,cM (aJ _),d9]
 rfl
end Pb
namespace Pb
open L2 PySem PySem.W NumText
def ch:Nat->Nat->Nat
 | _,0=>1
 | 0,_+1=>0
 | n+1,k+1=>ch n k+ch n (k+1)
theorem pJ(n:Nat):ch n 0=1:=by cases n<;>rfl
theorem vy:∀n k:Nat,(ch n (k+1):Int)*((k:Int)+1)=(ch n k:Int)*((n:Int)-(k:Int))
 | 0,0=>by simp[ch]
 | 0,k+1=>by simp[ch]
 | n+1,0=>by
   have h:=vy n 0;rw[pJ]at h ⊢;show((ch n 0+ch n 1:Nat):Int)*_=_;rw[pJ];have h:((ch n 1:Nat):Int)*(((0:Nat):Int)+1)=((1:Nat):Int)*((n:Int)-((0:Nat):Int)):=h;simp only[ir,Int.natCast_one]at h ⊢
   lia
 | n+1,k+1=>by
   have d:=vy n k;have e:=vy n (k+1);show((ch n (k+1)+ch n (k+1+1):Nat):Int)*_=((ch n k+ch n (k+1):Nat):Int)*_;generalize ch n (k+1+1)=c at d e;generalize ch n (k+1)=b at d e;generalize ch n k=a at d e;simp only[ir,Int.natCast_one]at d e ⊢;have f:((b:Int)+(c:Int))*((k:Int)+1+1)=(c:Int)*((k:Int)+1+1)+(b:Int)*((k:Int)+1)+(b:Int):=by
    rw[cR,db (b:Int) ((k:Int)+1) 1]
    lia
   have g:((a:Int)+(b:Int))*((n:Int)+1-((k:Int)+1))=(a:Int)*((n:Int)-(k:Int))+(b:Int)*((n:Int)-((k:Int)+1))+(b:Int):=by
    rw[show(n:Int)+1-((k:Int)+1)=(n:Int)-(k:Int) by lia,cR,show(n:Int)-(k:Int)=((n:Int)-((k:Int)+1))+1 by lia,db (b:Int) _ 1]
    lia
   rw[f,g,d,e]
   lia
def Le:List Int->Nat->Nat->Int
 | [],_,_=>0
 | d::r,n,k=>d*(ch n k:Int)+Le r n (k+1)
theorem zY:∀(r:du)(k:Nat),Le r 0 (k+1)=0
 | [],_=>rfl
 | d::r,k=>by
   show d*((ch 0 (k+1):Nat):Int)+Le r 0 (k+1+1)=0;rw[zY r (k+1)];show d*((0:Nat):Int)+0=0;simp
theorem FO:∀(r:du)(n k:Nat),Le r (n+1) (k+1)=Le r n (k+1)+Le r n k
 | [],_,_=>rfl
 | d::r,n,k=>by
   show d*((ch n k+ch n (k+1):Nat):Int)+Le r (n+1) (k+1+1)=(d*(ch n (k+1):Int)+Le r n (k+1+1))+(d*(ch n k:Int)+Le r n (k+1));rw[FO r n (k+1),ir,db]
   lia
def dl(f:Nat->Int):Nat->Int:=λn=>f (n+1)-f n
def Pd:Nat->(Nat->Int)->Prop
 | 0,f=>∀n,f n=f 0
 | d+1,f=>Pd d (dl f)
def dfs:Nat->(Nat->Int)->List Int
 | 0,_=>[]
 | N+1,f=>f 0::dfs N (dl f)
theorem CW:∀(N:Nat)(f:Nat->Int),(dfs N f).length=N
 | 0,_=>rfl
 | N+1,f=>by
   show(dfs N (dl f)).length+1=_;rw[CW N]
theorem Pd.zero{f:Nat->Int}(h:∀n,f n=0):∀d,Pd d f
 | 0=>λn=>by rw[h n,h 0]
 | d+1=>Pd.zero (f:=dl f) (λn=>by show f (n+1)-f n=0;rw[h,h];rfl) d
theorem Pd.up:∀{d:Nat}{f:Nat->Int},Pd d f->Pd (d+1) f
 | 0,f,h=>λn=>by
   show f (n+1)-f n=f (0+1)-f 0;rw[h (n+1),h n,h (0+1)]
 | d+1,f,h=>Pd.up (d:=d) (f:=dl f) h
theorem Pd.le{d e:Nat}{f:Nat->Int}(h:Pd d f)(l:d<=e):Pd e f:=by
 induction l with
 | refl=>exact h
 | step _ ih=>exact ih.up
theorem Pd.add:∀{d:Nat}{f g:Nat->Int},Pd d f->Pd d g->Pd d (λn=>f n+g n)
 | 0,f,g,h,k=>λn=>by
   show f n+g n=f 0+g 0;rw[h n,k n]
 | d+1,f,g,h,k=>by
   have:=Pd.add (d:=d) (f:=dl f) (g:=dl g) h k;have e:dl (λn=>f n+g n)=λn=>dl f n+dl g n:=by
    funext n
    show f (n+1)+g (n+1)-(f n+g n)=(f (n+1)-f n)+(g (n+1)-g n)
    lia
   show Pd d (dl (λn=>f n+g n));rw[e];exact this
theorem Pd.smul(c:Int):∀{d:Nat}{f:Nat->Int},Pd d f->Pd d (λn=>c*f n)
 | 0,f,h=>λn=>by
   show c*f n=c*f 0;rw[h n]
 | d+1,f,h=>by
   have:=Pd.smul c (d:=d) (f:=dl f) h;have e:dl (λn=>c*f n)=λn=>c*dl f n:=by
    funext n
    show c*f (n+1)-c*f n=c*(f (n+1)-f n);rw[gX]
   show Pd d (dl (λn=>c*f n));rw[e];exact this
theorem Pd.shift(b:Nat):∀{d:Nat}{f:Nat->Int},Pd d f->Pd d (λn=>f (n+b))
 | 0,f,h=>λn=>by
   show f (n+b)=f (0+b);rw[h (n+b),h (0+b)]
 | d+1,f,h=>by
   have:=Pd.shift b (d:=d) (f:=dl f) h;have e:dl (λn=>f (n+b))=λn=>dl f (n+b):=by
    funext n
    show f (n+1+b)-f (n+b)=f (n+b+1)-f (n+b);rw[show n+1+b=n+b+1 by lia]
   show Pd d (dl (λn=>f (n+b)));rw[e];exact this
def ϊ:Nat->(Nat->Int)->Int
 | 0,_=>0
 | k+1,f=>ϊ k f+f k
theorem Pd.sum{d:Nat}{f:Nat->Nat->Int}(h:∀i,Pd d (f i)):∀k,Pd d (λn=>ϊ k λi=>f i n)
 | 0=>Pd.zero (λ_=>rfl) d
 | k+1=>(Pd.sum h k).add (h k)
theorem J7(f:Nat->Int)(b:Nat):∀a:Nat,f (b+a)-f b=ϊ a λi=>dl f (b+i)
 | 0=>by
   show f b-f b=0
   lia
 | a+1=>by
   have:=J7 f b a;show f (b+(a+1))-f b=(ϊ a λi=>dl f (b+i))+dl f (b+a);rw[<-this];show f (b+(a+1))-f b=f (b+a)-f b+(f (b+a+1)-f (b+a));rw[show b+(a+1)=b+a+1 by lia]
   lia
theorem Pd.lin(a:Nat):∀{d:Nat}{f:Nat->Int},Pd d f->∀b,Pd d (λn=>f (a*n+b))
 | 0,f,h,b=>λn=>by
   show f (a*n+b)=f (a*0+b);rw[h (a*n+b),h (a*0+b)]
 | d+1,f,h,b=>by
   have e:dl (λn=>f (a*n+b))=λn=>ϊ a λi=>(λi n=>dl f (a*n+(b+i))) i n:=by
    funext n
    show f (a*(n+1)+b)-f (a*n+b)=_;rw[show a*(n+1)+b=(a*n+b)+a by rw[nV];lia,J7 f (a*n+b) a]
    congr 1
    funext i
    show dl f (a*n+b+i)=dl f (a*n+(b+i));rw[Nat.add_assoc]
   show Pd d (dl (λn=>f (a*n+b)));rw[e];exact Pd.sum (λi=>Pd.lin a (d:=d) (f:=dl f) h (b+i)) a
def bV(f g:Nat->Int)(n:Nat):Int:=ϊ (n+1) λk=>f k*g (n-k)
theorem jG{f g:Nat->Int}:∀{k:Nat},(∀i,i<k->f i=g i)->ϊ k f=ϊ k g
 | 0,_=>rfl
 | k+1,h=>by
   show ϊ k f+f k=ϊ k g+g k;rw[jG λi a=>h i (by lia),h k (by lia)]
theorem JZ(f g:Nat->Int):∀k,ϊ k (λi=>f i-g i)=ϊ k f-ϊ k g
 | 0=>rfl
 | k+1=>by
   show ϊ k (λi=>f i-g i)+(f k-g k)=ϊ k f+f k-(ϊ k g+g k);rw[JZ f g k]
   lia
theorem MZ(f g:Nat->Int):dl (bV f g)=λn=>f (n+1)*g 0+bV f (dl g) n:=by
 funext n
 show(ϊ (n+1) λk=>f k*g (n+1-k))+f (n+1)*g (n+1-(n+1))-ϊ (n+1) (λk=>f k*g (n-k))=f (n+1)*g 0+ϊ (n+1) λk=>f k*dl g (n-k);have e:(ϊ (n+1) λk=>f k*dl g (n-k))=ϊ (n+1) λk=>f k*g (n+1-k)-f k*g (n-k):=jG λi a=>by
  show f i*(g (n-i+1)-g (n-i))=_;rw[gX,show n-i+1=n+1-i by lia]
 rw[e,JZ,d9]
 lia
theorem Pd.bV{f:Nat->Int}{d:Nat}(a:Pd d f):∀{e:Nat}{g:Nat->Int},Pd e g->Pd (d+e+1) (bV f g)
 | 0,g,hg=>by
   show Pd d (dl (Pb.bV f g));rw[MZ];refine Pd.add ?_ (Pd.zero (λn=>?_) d)
   .have:=(a.shift 1).smul (g 0);have e:(λn=>g 0*f (n+1))=λn=>f (n+1)*g 0:=by
     funext n
     exact dF ..
    rw[e]at this;exact this
   .have z:∀m,dl g m=0:=λm=>by
     show g (m+1)-g m=0;rw[hg (m+1),hg m]
     lia
    have:=jG (k:=n+1) (f:=λk=>f k*dl g (n-k)) (g:=λ_=>0) λi _=>by rw[z];simp
    show ϊ (n+1) (λk=>f k*dl g (n-k))=0;rw[this];clear this
    induction n+1 with
    | zero=>rfl
    | succ k ih=>show ϊ k (λ_=>0)+0=0;rw[ih];rfl
 | e+1,g,hg=>by
   show Pd (d+e+1) (dl (Pb.bV f g));rw[MZ];refine Pd.add ?_ (Pd.bV a (e:=e) (g:=dl g) hg);have:=((a.shift 1).smul (g 0)).le (show d<=d+e+1 by lia);have e:(λn=>g 0*f (n+1))=λn=>f (n+1)*g 0:=by
    funext n
    exact dF ..
   rw[e]at this;exact this
theorem Ih:∀(N:Nat){d:Nat}{f:Nat->Int},Pd d f->d<N->∀n,Le (dfs N f) n 0=f n
 | 0,_,_,_,h,_=>absurd h (Nat.not_lt_zero _)
 | N+1,d,f,hf,_,n=>by
   have a:∀n,Le (dfs N (dl f)) n 0=dl f n:=by
    intro n;cases d with
    | zero=>
      have z:∀m,dl f m=0:=λm=>by
       show f (m+1)-f m=0;rw[hf (m+1),hf m]
       lia
      cases N with
      | zero=>rw[z];rfl
      | succ N=>exact Ih (N+1) (Pd.zero z 0) (by lia) n
    | succ d=>exact Ih N (d:=d) (f:=dl f) hf (by lia) n
   show f 0*(ch n 0:Int)+Le (dfs N (dl f)) n (0+1)=f n;rw[pJ]
   induction n with
   | zero=>
     rw[zY];simp
   | succ n ihn=>
     rw[FO,a n];show f 0*((1:Nat):Int)+(Le (dfs N (dl f)) n (0+1)+(f (n+1)-f n))=f (n+1)
     lia
theorem xX:∀{N:Nat}{f g:Nat->Int},(∀i,i<N->f i=g i)->dfs N f=dfs N g
 | 0,_,_,_=>rfl
 | N+1,f,g,h=>by
   show f 0::dfs N (dl f)=g 0::dfs N (dl g);rw[h 0 (by lia),xX (N:=N) (f:=dl f) (g:=dl g) λi a=>by
    show f (i+1)-f i=g (i+1)-g i;rw[h i (by lia),h (i+1) (by lia)]]
def dfl(a:du):List Int:=dfs a.length λi=>a.getD i 0
def nxr(a:du):List Int:=(a.zip (a.drop 1)).map λp=>p.2-p.1
theorem CM(a:du):(nxr a).length=a.length-1:=by
 unfold nxr;rw[ag,jo,eZ]
 lia
theorem WZ{xs:du}{i:Nat}(h:i+1<xs.length):(nxr xs).getD i 0=xs.getD (i+1) 0-xs.getD i 0:=by
 unfold nxr;rw[bj,aG,aA (by rw[jo,eZ];lia)];simp[bj,h,show i<xs.length by lia,m9]
theorem PK(x:Int)(r:du):dfl (x::r)=x::dfl (nxr (x::r)):=by
 unfold dfl;rw[CM];show x::dfs r.length _=x::dfs (r.length+1-1) _;rw[Nat.add_sub_cancel]
 congr 1
 exact xX λi a=>(WZ (xs:=x::r) (by simpa using a)).symm
theorem ML:∀n k:Nat,ch n k<=2^n
 | 0,0=>aJ _
 | 0,_+1=>b7 _
 | n+1,0=>by rw[pJ];exact Nat.one_le_two_pow
 | n+1,k+1=>by
   have a:=ML n k;have b:=ML n (k+1);show ch n k+ch n (k+1)<=2^(n+1);rw[i9]
   lia
theorem J4(f:Nat->Int):∀k,((List.range k).map f).sum=ϊ k f
 | 0=>rfl
 | k+1=>by
   rw[dv,aE,hJ,J4 f k];show ϊ k f+(f k+0)=ϊ k f+f k
   lia
def Rw:Nat:=2^200000
theorem q8{n k:Nat}(h:n<=2^k)(a:k<200000):n<Rw:=by
 unfold Rw;exact bK h (fU (by decide) a)
theorem ve{a b:Int}(c:a.natAbs<Rw)(d:b.natAbs<Rw):IntMulOk a b:=by
 unfold Rw at c d;exact IntMulOk.of_bits (bw (yJ c) (by decide)) (bw (yJ d) (by decide))
theorem Vx{n k:Nat}(h:n<=100000):ch n k<Rw:=q8 (ML n k) (by lia)
theorem He:∀n k:Nat,ch n k<=(n+1)^k
 | n,0=>by rw[pJ];exact aJ _
 | 0,k+1=>b7 _
 | n+1,k+1=>by
   have c:=He n k;have b:=He n (k+1);have a:(n+1)^k<=(n+1+1)^k:=mQ (by lia) k;show ch n k+ch n (k+1)<=(n+1+1)^(k+1);rw[i9]at b;rw[i9,Nat.mul_succ];have d:(n+1)^k*(n+1)<=(n+1+1)^k*(n+1):=mi _ a
   lia
theorem KM{n x k:Nat}(h:n+1<=2^x)(a:x*k<200000):ch n k<Rw:=q8 (k:=x*k) (bw (He n k) (by rw[Nat.pow_mul];exact mQ h k)) a
def ϝ(c b:Int->Bool)(a:Int->Nat->Int):List Int->Nat->Int
 | [],_=>1
 | k::ks,n=>if c k=true then bV (a k) (ϝ c b a ks) n else if b k=true then a k n*ϝ c b a ks 0 else a k 0*ϝ c b a ks n
variable{fr be:Int->Bool}{ws:Int->Nat->Int}
theorem vK{k:Int}{a:du}(h:fr k=true):ϝ fr be ws (k::a)=bV (ws k) (ϝ fr be ws a):=by
 funext n
 show(if fr k=true then _ else _)=_;rw[aj h]
theorem wc{k:Int}{a:du}(h:¬fr k=true)(b:be k=true):ϝ fr be ws (k::a)=λn=>ws k n*ϝ fr be ws a 0:=by
 funext n
 show(if fr k=true then _ else _)=_;rw[ah h,aj b]
theorem tD{k:Int}{a:du}(h:¬fr k=true)(b:¬be k=true):ϝ fr be ws (k::a)=λn=>ws k 0*ϝ fr be ws a n:=by
 funext n
 show(if fr k=true then _ else _)=_;rw[ah h,ah b]
theorem NF{d:fz}:∀{ks:du},(∀k∈ks,Pd (d k) (ws k))->Pd ((ks.map λk=>d k+1).sum) (ϝ fr be ws ks)
 | [],_=>λ_=>rfl
 | k::ks,h=>by
   have a:=h k (.head _);have c:=NF (ks:=ks) λx g=>h x (.tail _ g);rw[aF,aK];by_cases f:fr k=true
   .rw[vK f];exact(Pd.bV a c).le (by lia)
   .by_cases b:be k=true
    .rw[wc f b];have:=(a.smul (ϝ fr be ws ks 0)).le (show d k<=d k+1+(ks.map λk=>d k+1).sum by lia);have e:(λn=>ϝ fr be ws ks 0*ws k n)=λn=>ws k n*ϝ fr be ws ks 0:=by
      funext n
      exact dF ..
     rw[e]at this;exact this
    .rw[tD f b];exact(c.smul (ws k 0)).le (by lia)
theorem JS{f:Nat->Int}{B:Int}:∀{k:Nat},(∀i,i<k->0<=f i/\f i<=B)->0<=ϊ k f/\ϊ k f<=k*B
 | 0,_=>⟨bO _,by show(0:Int)<=((0:Nat):Int)*B;simp⟩
 | k+1,h=>by
   obtain⟨a,d⟩:=JS (k:=k) λi b=>h i (by lia);obtain⟨c,e⟩:=h k (by lia);show 0<=ϊ k f+f k/\ϊ k f+f k<=((k+1:Nat):Int)*B;rw[Int.natCast_succ,cR,gA]
   lia
theorem yG{a b A B:Int}(c:0<=a/\a<=A)(d:0<=b/\b<=B):0<=a*b/\a*b<=A*B:=⟨dW c.1 d.1,ft c.2 d.2 d.1 (dh c.1 c.2)⟩
theorem TW{f g:Nat->Int}{A B:Int}{n:Nat}(a:∀i,i<=n->0<=f i/\f i<=A)(b:∀i,i<=n->0<=g i/\g i<=B):0<=bV f g n/\bV f g n<=((n+1:Nat):Int)*(A*B):=JS λi c=>yG (a i (by lia)) (b (n-i) (by lia))
theorem mV(n:Nat):(0:Int)<2^n:=oM (by decide)
theorem Ap{X x:Nat}(d:((X+1:Nat):Int)<=2^x){a:fz}:∀{ks:du},(∀k∈ks,∀i,i<=X->0<=ws k i/\ws k i<=2^a k)->∀n,n<=X->0<=ϝ fr be ws ks n/\ϝ fr be ws ks n<=2^(ks.map λk=>x+a k).sum
 | [],_,n,_=>⟨by show(0:Int)<=1;decide,by show(1:Int)<=2^0;decide⟩
 | k::ks,h,n,hn=>by
   have c:=h k (.head _);have e:=Ap d (ks:=ks) λx d=>h x (.tail _ d);rw[aF,aK,lM,lM];have m:=mV x;have up:∀{u:Int},0<=u/\u<=2^a k*2^(ks.map λk=>x+a k).sum->0<=u/\u<=2^x*2^a k*2^(ks.map λk=>x+a k).sum:=λ{u} hu=>by
    refine⟨hu.1,?_⟩;rw[cX];have:=(yG (a:=1) (A:=2^x) (b:=u) ⟨by decide,by lia⟩ hu).2;rw[gA]at this;exact this
   by_cases f:fr k=true
   .rw[vK f];obtain⟨j,l⟩:=TW (n:=n) (λi g=>c i (by lia)) (λi g=>e i (by lia));refine⟨j,dh l ?_⟩;rw[cX];refine bH (by lia) (dW (kR (mV _)) (kR (mV _)))
   .by_cases b:be k=true
    .rw[wc f b];exact up (yG (c n hn) (e 0 (by lia)))
    .rw[tD f b];exact up (yG (c 0 (by lia)) (e n hn))
theorem HM:∀{N:Nat}{f:Nat->Int}{b:Nat},(∀i,i<N->(f i).natAbs<=2^b)->∀c∈dfs N f,c.natAbs<=2^(b+N)
 | 0,_,_,_,c,hc=>by cases hc
 | N+1,f,b,h,c,hc=>by
   rcases aD.mp (show c∈f 0::dfs N (dl f)from hc)with rfl|hc
   .exact bw (h 0 (by lia)) (cN (by decide) (by lia))
   .have:=HM (N:=N) (f:=dl f) (b:=b+1) (λi e=>by
     have a:=h i (by lia);have d:=h (i+1) (by lia);show(f (i+1)-f i).natAbs<=2^(b+1);rw[i9,Nat.mul_two];exact bw (Int.natAbs_sub_le _ _) (Nat.add_le_add d a)) c hc
    rw[show b+1+N=b+(N+1) by lia]at this;exact this
def uu(d:Nat)(W:Nat->Int):Prop:=Pd d W/\∀x n,((n+1:Nat):Int)<=2^x->0<=W n/\W n<=2^(d*(x+20*d))
def ϋ(c:Nat)(g:Nat):Nat:=(g+1)*c-1
theorem Uj{c g:Nat}(h:1<=c):ϋ c g=c*g+(c-1):=by
 unfold ϋ;rw[lg,Nat.mul_comm]
 lia
theorem Qd{a b:Nat}(h:a<=b):(2:Int)^a<=2^b:=by
 obtain⟨k,rfl⟩:∃k,b=a+k:=⟨b-a,by lia⟩;rw[lM];have:=bg (show(1:Int)<=2^k from mV k) (kR (mV a));rw[eU]at this;exact this
theorem uh{f g:fz}{y:Nat}:∀{ks:du},(∀k∈ks,f k<=g k*y)->(ks.map f).sum<=(ks.map g).sum*y
 | [],_=>by simp
 | k::ks,h=>by
   have b:=h k (.head _);have c:=uh (ks:=ks) λx a=>h x (.tail _ a);rw[aF,aK,aF,aK,lg]
   lia
theorem vO{g:fz}:∀{a:du}{k:Int},k∈a->g k<=(a.map g).sum
 | k'::a,k,h=>by
   rw[aF,aK];rcases aD.mp h with rfl|h
   .lia
   .have:=vO (g:=g) h
    lia
theorem KL{W:Int->Nat->Int}{c d:fz}{ks:du}(h:∀k∈ks,uu (d k) (W k))(f:∀k∈ks,1<=c k/\c k<=1000000):uu (ks.map λk=>d k+1).sum (ϝ fr be (λk g=>W k (ϋ (c k) g)) ks):=by
 refine⟨NF λk b=>?_,λx n j=>?_⟩
 .have:=(h k b).1.lin (c k) (c k-1);have e:(λg=>W k (ϋ (c k) g))=λg=>W k (c k*g+(c k-1)):=by
   funext g
   rw[Uj (f k b).1]
  rw[e];exact this
 .have key:=Ap (fr:=fr) (be:=be) (ws:=λk g=>W k (ϋ (c k) g)) (X:=n) (x:=x) j (a:=λk=>d k*(x+20+20*d k)) (ks:=ks) (λk b i r=>by
   refine(h k b).2 (x+20) (ϋ (c k) i) ?_;have l:=(f k b).1;have q:=(f k b).2;have e:ϋ (c k) i+1=(i+1)*c k:=by
    unfold ϋ;have:1<=(i+1)*c k:=dH (show 1<=i+1 by lia) l
    lia
   rw[e,Int.natCast_mul,lM];exact ft (by lia) (by have:(2:Int)^20=1048576:=rfl;lia) (Int.natCast_nonneg _) (kR (mV x))) n (aJ _)
  refine⟨key.1,dh key.2 ?_⟩;refine Qd (uh λk b=>?_);have m:=vO (g:=λk=>d k+1) b;generalize (ks.map λk=>d k+1).sum=D at m;have p:x+d k*(x+20+20*d k)=x+d k*x+d k*(20+20*d k):=by rw[show x+20+20*d k=x+(20+20*d k) by lia,nV];lia
  have s:(d k+1)*(x+20*D)=x+d k*x+(d k+1)*(20*D):=by rw[nV,lg];lia
  have o:d k*(20+20*d k)<=(d k+1)*(20*D):=dH (by lia) (by lia)
  lia
structure Ϩ(b:Nat)(cs:du)(f:Nat->Int):Prop where
 ne:cs≠[]
 len:cs.length<=24
 bt:∀c∈cs,c.natAbs<=2^b
 val:∀n,Le cs n 0=f n
theorem UI:∀(x:Int)(r:du),Le (x::r) 0 0=x:=λx r=>by
 show x*((1:Nat):Int)+Le r 0 (0+1)=x;rw[zY];simp
theorem Ϩ.head{b:Nat}{a:du}{f:Nat->Int}(h:Ϩ b a f):∃r,a=f 0::r:=by
 obtain⟨ne,_,_,v⟩:=h;cases a with
 | nil=>exact absurd rfl ne
 | cons x r=>exact⟨r,by rw[<-v 0,UI]⟩
theorem Ϩ.one:Ϩ 0 [1] (ϝ fr be ws []):=⟨by simp,by simp,λc a=>by rw[aO.mp a];decide,λn=>by
 show 1*((ch n 0:Nat):Int)+0=1;rw[pJ]
 rfl⟩
theorem FY(a:Int):∀(b:du)(n k:Nat),Le (b.map λc=>a*c) n k=a*Le b n k
 | [],_,_=>by show(0:Int)=a*0;simp
 | c::b,n,k=>by
   show a*c*(ch n k:Int)+Le (b.map λc=>a*c) n (k+1)=a*(c*(ch n k:Int)+Le b n (k+1));rw[FY a b,db,cX]
theorem Ϩ.dfl{f:Nat->Int}{N d b:Nat}(h:Pd d f)(c:d<N)(g:N<=24)(j:∀i,i<N->(f i).natAbs<=2^b):Ϩ (b+N) (dfl ((List.range N).map f)) f:=by
 have e:Pb.dfl ((List.range N).map f)=dfs N f:=by
  unfold Pb.dfl;rw[ag,cj];refine xX λi a=>?_;rw[bj,aG,eA a]
  rfl
 rw[e];refine⟨λz=>?_,by rw[CW];exact g,HM j,Ih N h c⟩;have:=CW N f;rw[z]at this;simp at this
 lia
def sfx:List Int->List (List Int)
 | []=>[[]]
 | k::ks=>(k::ks)::sfx ks
theorem Kh:∀a:List Int,(sfx a).reverse=(List.range (a.length+1)).map λj=>a.drop (a.length-j)
 | []=>rfl
 | k::a=>by
   show((k::a)::sfx a).reverse=_;rw[eL,Kh a,dv (n:=(k::a).length),aE,aF,eu,d9,gh]
   congr 1
   refine bQ λj b=>?_;have:=cQ.mp b;rw[ba,show a.length+1-j=(a.length-j)+1 by lia,nA]
theorem Ϩ.le{b b':Nat}{a:du}{f:Nat->Int}(h:Ϩ b a f)(l:b<=b'):Ϩ b' a f:=⟨h.ne,h.len,λc d=>bw (h.bt c d) (cN (by decide) l),h.val⟩
def Z4(d:fz)(a:du):Nat:=(a.map λk=>d k*(25+20*d k)+29).sum
theorem Bp{d:fz}{ks:du}(h:(ks.map λk=>d k+1).sum<=23):Z4 d ks<=15000:=by
 have:Z4 d ks<=(ks.map λk=>d k+1).sum*514:=uh λk a=>by
  have:=vO (g:=λk=>d k+1) a;have b:d k*(25+20*d k)<=d k*485:=Nat.mul_le_mul_left _ (by lia);rw[lg]
  lia
 lia
theorem Gn(g:fz)(a:du)(j:Nat):((a.drop j).map g).sum<=(a.map g).sum:=by
 have:=congrArg (λl=>(l.map g).sum) (dN j a);simp only[aE,hJ]at this
 lia
theorem Eh{W:Int->Nat->Int}{c d:fz}{b:du}{N:Nat}(p:N<=24)(h:∀k∈b,uu (d k) (W k))(l:∀k∈b,1<=c k/\c k<=1000000):∀i,i<N->0<=ϝ fr be (λk g=>W k (ϋ (c k) g)) b i/\ϝ fr be (λk g=>W k (ϋ (c k) g)) b i<=2^(b.map λk=>5+d k*(25+20*d k)).sum:=by
 intro i s;refine Ap (X:=23) (x:=5) (by decide) (a:=λk=>d k*(25+20*d k)) (λk f j q=>?_) i (by lia);refine(h k f).2 25 (ϋ (c k) j) ?_;have n:=(l k f).1;have m:=(l k f).2;have e:ϋ (c k) j+1=(j+1)*c k:=by
  unfold ϋ;have:1<=(j+1)*c k:=dH (show 1<=j+1 by lia) n
  lia
 have r:(j+1)*c k<=24*1000000:=dH (by lia) m;have o:(2:Int)^25=33554432:=rfl;rw[e,o]
 lia
theorem GA{W:Nat->Int}{c d:Nat}(h:uu d W)(a:1<=c)(b:c<=1000000){j:Nat}(i:j<24):0<=W (ϋ c j)/\W (ϋ c j)<=2^(d*(25+20*d)):=by
 refine h.2 25 (ϋ c j) ?_;have e:ϋ c j+1=(j+1)*c:=by
  unfold ϋ;have:1<=(j+1)*c:=dH (show 1<=j+1 by lia) a
  lia
 have g:(j+1)*c<=24*1000000:=dH (by lia) b;have f:(2:Int)^25=33554432:=rfl;rw[e,f]
 lia
theorem tV{z:Int}{b:Nat}(h:0<=z/\z<=2^b):z.natAbs<=2^b:=by
 have:((2^b:Nat):Int)=(2:Int)^b:=by simp
 lia
theorem wd(d:fz)(k:Int)(a:du):Z4 d (k::a)=d k*(25+20*d k)+29+Z4 d a:=by
 unfold Z4;rw[aF,aK]
theorem Ds(d:fz):∀a:List Int,(a.map λk=>5+d k*(25+20*d k)).sum<=Z4 d a
 | []=>aJ _
 | k::a=>by
   have:=Ds d a;rw[wd,aF,aK]
   lia
theorem NL{W:Int->Nat->Int}{c d:fz}{k:Int}{S:du}{N:Nat}(b:N<=24)(h:∀x∈k::S,uu (d x) (W x))(a:∀x∈k::S,1<=c x/\c x<=1000000)(j:((k::S).map λk=>d k+1).sum<N){e:du}(l:e=(List.range N).map (ϝ fr be (λk g=>W k (ϋ (c k) g)) (k::S))):Ϩ (Z4 d (k::S)) (dfl e) (ϝ fr be (λk g=>W k (ϋ (c k) g)) (k::S)):=by
 subst l;refine(Ϩ.dfl (KL h a).1 j b λi f=>tV (Eh b h a i f)).le ?_;have:=Ds d S;rw[wd,aF,aK]
 lia
theorem UW{W:Int->Nat->Int}{c d:fz}{k:Int}{S:du}{e:du}(o:uu (d k) (W k))(m:1<=c k)(l:c k<=1000000)(f:¬fr k=true)(b:¬be k=true)(a:Ϩ (Z4 d S) e (ϝ fr be (λk g=>W k (ϋ (c k) g)) S)):Ϩ (Z4 d (k::S)) (e.map λx=>W k (ϋ (c k) 0)*x) (ϝ fr be (λk g=>W k (ϋ (c k) g)) (k::S)):=by
 refine⟨λz=>a.ne (mM.mp z),by rw[ag];exact a.len,λx h=>?_,λn=>?_⟩
 .obtain⟨y,hy,rfl⟩:=aR.mp h;have i:=tV (GA o m l (j:=0) (by decide));have p:=a.bt y hy;rw[iK,wd];refine bw (dH i p) ?_;rw[<-nW];exact cN (by decide) (by lia)
 .rw[FY,a.val,tD f b]
theorem M2{f g b a:Nat->Int}{n:Nat}(c:∀i,i<=n->f i=b i)(d:∀i,i<=n->g i=a i):bV f g n=bV b a n:=jG λi e=>by rw[c i (by lia),d (n-i) (by lia)]
theorem Gd{f:Nat->Int}{N i:Nat}(h:i<N):((List.range N).map f).getD i 0=f i:=by
 rw[bj,aG,eA h]
 rfl
theorem MU{d:fz}:∀a:List Int,a.length<=(a.map λk=>d k+1).sum
 | []=>aJ _
 | k::a=>by
   have:=MU (d:=d) a;rw[aF,aK,ba]
   lia
theorem C8{a b:Type}{R:a->b->Prop}:∀{l:List a}{c:List b},Paired R l c->Paired R l.reverse c.reverse
 | _,_,.nil=>.nil
 | _,_,.cons e h=>by
   rw[eL,eL];exact sJ e (C8 h)
theorem yk{fr' be':Int->Bool}{ws':Int->Nat->Int}:∀{ks:du},(∀k∈ks,fr k=fr' k/\be k=be' k/\ws k=ws' k)->ϝ fr be ws ks=ϝ fr' be' ws' ks
 | [],_=>rfl
 | k::ks,h=>by
   obtain⟨a,e,c⟩:=h k (.head _);have d:=yk (ks:=ks) λx b=>h x (.tail _ b)
   funext n
   show(if fr k=true then bV (ws k) (ϝ fr be ws ks) n else if be k=true then ws k n*ϝ fr be ws ks 0 else ws k 0*ϝ fr be ws ks n)=(if fr' k=true then bV (ws' k) (ϝ fr' be' ws' ks) n else if be' k=true then ws' k n*ϝ fr' be' ws' ks 0 else ws' k 0*ϝ fr' be' ws' ks n);rw[a,e,c,d]
section
variable{m:Int}{d:hT}{r:Int}{a:fc}{b:fz}{c:fz}
def wyF(m:Int)(d:hT)(r:Int)(a:fc)(fr be:Int->Bool)(c:fz):Nat->Int->Nat->Int
 | 0,_=>λ_=>1
 | f+1,v=>ϝ fr be (λk g=>wyF m d r a fr be c f k (ϋ (c k) g)) (kd m d r a v)
def wy(m:Int)(d:hT)(r:Int)(a:fc)(b:fz)(fr be:Int->Bool)(c:fz)(v:Int):Nat->Int:=wyF m d r a fr be c (m.toNat-b v) v
theorem sx(g:Good m d)(R:ε m d r a b){v:Int}(j:0<=v)(i:v<m):wy m d r a b fr be c v=ϝ fr be (λk g=>wy m d r a b fr be c k (ϋ (c k) g)) (kd m d r a v):=by
 unfold wy;cases e:m.toNat-b v with
 | zero=>
   have:kd m d r a v=[]:=by
    cases h:kd m d r a v with
    | nil=>rfl
    | cons k ks=>
      have:=(fK g R j i (k:=k) (by rw[h];exact .head _)).2.1
      lia
   rw[this]
   rfl
 | succ f=>
   show ϝ fr be (λk g=>wyF m d r a fr be c f k (ϋ (c k) g)) (kd m d r a v)=_;refine yk λk h=>⟨rfl,rfl,?_⟩;have:=(fK g R j i h).2.1;rw[show m.toNat-b k=f by lia]
def dgr(m:Int)(d:hT)(r:Int)(a:fc)(b:fz)(v:Int):Nat:=(cT m d r a b v).length-1
theorem vR(g:Good m d)(R:ε m d r a b){v:Int}(h:0<=v)(f:v<m):((kd m d r a v).map λk=>dgr m d r a b k+1).sum=dgr m d r a b v:=by
 have e:=congrArg List.length (gw g R h f);rw[ba,List.length_flatMap]at e;unfold dgr;rw[e,Nat.add_sub_cancel];show _=((kd m d r a v).map λk=>(cT m d r a b k).length).sum;refine congrArg List.sum (bQ λk i=>?_);obtain⟨⟨l,j⟩,_⟩:=(fK g R h f i).1;have:=congrArg List.length (gw g R l j);rw[ba]at this
 lia
theorem TD(g:Good m d)(R:ε m d r a b)(f:∀v,0<=v->v<m->v≠r->1<=c v/\c v<=1000000):∀(n:Nat){v:Int},0<=v->v<m->m.toNat-b v<=n->uu (dgr m d r a b v) (wy m d r a b fr be c v)
 | n,v,h0,h1,hn=>by
   rw[sx g R h0 h1,<-vR g R h0 h1];refine KL (λk e=>?_) λk e=>?_
   .obtain⟨⟨k0,k1⟩,_⟩:=(fK g R h0 h1 e).1;have:=(fK g R h0 h1 e).2.1;cases n with
    | zero=>lia
    | succ n=>exact TD g R f n k0 k1 (by lia)
   .obtain⟨⟨k0,k1⟩,kr,_⟩:=(fK g R h0 h1 e).1;exact f k k0 k1 kr
end
theorem Dj:∀{b a:du},a∈sfx b->∀x∈a,x∈b
 | [],a,h,x,hx=>by
   rw[aO.mp h]at hx;exact hx
 | k::b,a,h,x,hx=>by
   rcases aD.mp (show a∈(k::b)::sfx b from h)with rfl|h
   .exact hx
   .exact .tail _ (Dj h x hx)
theorem HX{d g:Type}{R S:d->g->Prop}:∀{l:List d}{c:List g},(∀a b,b∈c->R a b->S a b)->Paired R l c->Paired S l c
 | _,_,_,.nil=>.nil
 | _,_,f,.cons e h=>.cons (f _ _ (.head _) e) (HX (λa b i=>f a b (.tail _ i)) h)
theorem Hx(a:du):∃r,sfx a=a::r:=by
 cases a with
 | nil=>exact⟨[],rfl⟩
 | cons k a=>exact⟨sfx a,rfl⟩
theorem Hs{m:Int}{c:hT}{r:Int}{b:fc}{a:fz}(g:Good m c)(R:ε m c r b a){v:Int}(f:0<=v)(d:v<m):(dgr m c r b a v:Int)<m:=by
 obtain⟨e,i⟩:=pF g R (m.toNat-1-a v) v f d;have:=gZ (m:=m) (by lia) e λx h=>(i x h).1;have:=g.m1;unfold dgr cT
 lia
theorem XD{m:Int}{f:hT}{r:Int}{a:fc}{h:fz}(g:Good m f)(R:ε m f r a h){b:du}(O:Order m r a b){i:Nat}{v:Int}(e:(r::b).reverse[i]?=some v)(j:0<=v)(l:v<m):∀k∈kd m f r a v,k∈(r::b).reverse.take i:=by
 intro k n;have w:=(ce g R j l).mp n;rw[eL]at e ⊢;by_cases c:i<b.length
 .rw[cU (by rw[aZ];exact c)]at e;obtain⟨_,_,_,_,d⟩:=O.cut R e;have:=d k w.1.1 w.1.2 w.2.1 w.2.2;rw[List.take_append_of_le_length (by rw[aZ];lia),List.take_reverse,cY];exact this
 .rw[List.take_append,cw (by rw[aZ];lia)];exact bB _ (cY.mpr ((O.all k w.1.1 w.1.2).resolve_left w.2.1))
theorem Hv{f:Int->List Int}{v:Int}{z:du}:∀{l:du},(l.flatMap f).Nodup->(l.flatMap λk=>if v∈f k then z else[])=if v∈l.flatMap f then z else[]
 | [],_=>by simp
 | a::l,h=>by
   rw[bI]at h ⊢;obtain⟨i,g,d⟩:=da.mp h;rw[bI,Hv g];by_cases c:v∈f a
   .have:v∉l.flatMap f:=λe=>d v c v e rfl;rw[aj c,ah this,aj (bB _ c),b4]
   .rw[ah c,fC];by_cases b:v∈l.flatMap f
    .rw[aj b,aj (aY _ b)]
    .rw[ah b,ah (λe=>(bd.mp e).elim c b)]
section
variable{m:Int}{j:hT}{r:Int}{d:fc}{i:fz}
theorem nB{f h:Int->List Int}:∀{l:du},(∀x∈l,f x=h x)->l.flatMap f=l.flatMap h
 | [],_=>rfl
 | a::l,e=>by rw[bI,bI,e a ax,nB λx b=>e x (aq _ b)]
theorem Ig{p:Int->Bool}{f:Int->List Int}:∀l:List Int,(l.flatMap f).filter p=l.flatMap λk=>(f k).filter p
 | []=>rfl
 | a::l=>by rw[bI,c9,Ig l,bI]
theorem Ez:∀l:List Int,(l.flatMap λk=>[k])=l
 | []=>rfl
 | a::l=>by
   rw[bI,Ez l]
   rfl
theorem Hh(g:Good m j)(R:ε m j r d i){v:Int}(q:0<=v)(t:v<m):∀(n:Nat){u:Int},0<=u->u<m->m.toNat-i u<=n->((kd m j r d u).flatMap (cT m j r d i)).filter (λb=>decide (d b=v))=if v∈cT m j r d i u then kd m j r d v else[]
 | n,u,u0,u1,hn=>by
   have st:=gw g R u0 u1;have p:(cT m j r d i u).Nodup:=(pF g R _ u u0 u1).1;rw[st]at p;obtain⟨l,h⟩:=aV.mp p;have s:∀k∈kd m j r d u,(cT m j r d i k).filter (λb=>decide (d b=v))=(if u=v then[k]else[])++if v∈cT m j r d i k then kd m j r d v else[]:=λk a=>by
    have w:=fK g R u0 u1 a;rw[gw g R w.1.1.1 w.1.1.2,lC];have o:((kd m j r d k).flatMap (cT m j r d i)).filter (λb=>decide (d b=v))=if v∈cT m j r d i k then kd m j r d v else[]:=by
     cases n with
     | zero=>lia
     | succ n=>exact Hh g R q t n w.1.1.1 w.1.1.2 (by lia)
    rw[show((cq m j (front r d k) k).flatMap (cT m j r d i)).filter (λb=>decide (d b=v))=_ from o,gw g R w.1.1.1 w.1.1.2,w.1.2.2];by_cases c:u=v
    .rw[aj (bE c),aj c]
     rfl
    .rw[ah (by rw[bJ];exact c),ah c]
     rfl
   rw[Ig,nB s];by_cases c:u=v
   .subst c;have x:u∈cT m j r d i u:=(by rw[st];exact .head _);rw[aj x];have:((kd m j r d u).flatMap λk=>(if u=u then[k]else[])++if u∈cT m j r d i k then kd m j r d u else[])=(kd m j r d u).flatMap λk=>[k]:=nB λk a=>by
     rw[aj rfl,ah (λe=>l (c6.mpr ⟨k,a,e⟩)),b4]
    rw[this,Ez]
   .have:((kd m j r d u).flatMap λk=>(if u=v then[k]else[])++if v∈cT m j r d i k then kd m j r d v else[])=(kd m j r d u).flatMap λk=>if v∈cT m j r d i k then kd m j r d v else[]:=nB λk a=>by rw[ah c,fC]
    rw[this,Hv h,st];by_cases f:v∈(cq m j (front r d u) u).flatMap (cT m j r d i)
    .rw[aj f,aj (.tail _ f)]
    .rw[ah f,ah (λe=>(aD.mp e).elim (λz=>c z.symm) f)]
theorem Sw(g:Good m j)(R:ε m j r d i)(l:0<=r)(f:r<m){a:du}(k:cT m j r d i r=r::a)(O:Order m r d a){v:Int}(c:0<=v)(n:v<m):Zt m j r d i a v=((kd m j r d v).filter λb=>decide (Ξ m j r d i b*tup j d b=Ξ m j r d i v)).getLast?:=by
 have h:=Hh g R c n (m.toNat-i r) l f (aJ _);have e:(kd m j r d r).flatMap (cT m j r d i)=a:=by
  have:=gw g R l f;rw[k]at this;exact(g0 this).2.symm
 rw[e,k,aj (by
  rcases O.all v c n with z|z
  .rw[z];exact .head _
  .exact .tail _ z)]at h
 unfold Zt;rw[<-h,List.filter_filter]
 congr 1
 refine List.filter_congr λb _=>?_;rw[<-Bool.decide_and];exact iV.mpr ⟨λ⟨x,y⟩=>⟨y,x⟩,λ⟨x,y⟩=>⟨y,x⟩⟩
theorem wv{f:Int->List Int}:∀{l:du},(∀k∈l,k∈f k)->(l.flatMap f).Nodup->l.Nodup
 | [],_,_=>jL
 | a::l,h,nd=>by
   rw[bI]at nd;obtain⟨_,e,c⟩:=da.mp nd;refine aV.mpr ⟨λz=>?_,wv (λk b=>h k (.tail _ b)) e⟩;exact c a (h a (.head _)) a (c6.mpr ⟨a,z,h a (.head _)⟩) rfl
theorem QJ{p:Int->Bool}{b a:du}{k:Int}(s:(b++k::a).Nodup):((b++k::a).filter p).getLast?=some k↔(p k&&!(a.any p))=true:=by
 obtain⟨_,o,n⟩:=da.mp s;have v:k∉a:=(aV.mp o).1;have u:k∉b:=λz=>n k z k (.head _) rfl;rw[c9,bD,fZ];by_cases f:a.any p=true
 .have ne:a.filter p≠[]:=λz=>by
   obtain⟨x,g,q⟩:=List.any_eq_true.mp f;have:x∈a.filter p:=bu.mpr ⟨g,q⟩;rw[z]at this;cases this
  have e:(b.filter p++(k::a).filter p).getLast?=(a.filter p).getLast?:=by
   obtain⟨l,t⟩:∃l,b.filter p++(k::a).filter p=l++a.filter p:=by
    rw[lC];by_cases c:p k=true
    .rw[aj c];exact⟨b.filter p++[k],by rw[c7];rfl⟩
    .rw[ah c];exact⟨_,rfl⟩
   rw[t,jw];cases h:(a.filter p).getLast? with
   | none=>exact absurd (List.getLast?_eq_none_iff.mp h) ne
   | some x=>rfl
  rw[e]
  constructor
  .intro z;exact absurd ((bu.mp (mm z)).1) v
  .intro z;rw[f]at z;cases z.2
 .have hf:a.filter p=[]:=List.filter_eq_nil_iff.mpr λx g q=>f (List.any_eq_true.mpr ⟨x,g,q⟩);rw[lC,hf];by_cases c:p k=true
  .rw[aj c,jw];exact⟨λ_=>⟨c,jm.mpr f⟩,λ_=>rfl⟩
  .rw[ah c,b4]
   constructor
   .intro z;exact absurd ((bu.mp (mm z)).1) u
   .intro z;exact absurd z.1 c
theorem OV(g:Good m j)(R:ε m j r d i)(t:0<=r)(s:r<m){h:du}(w:cT m j r d i r=r::h)(O:Order m r d h){v:Int}(c:0<=v)(f:v<m){l a:du}{k:Int}(e:kd m j r d v=l++k::a):Zt m j r d i h v=some k↔(decide (Ξ m j r d i k*tup j d k=Ξ m j r d i v)&&!(a.any λb=>decide (Ξ m j r d i b*tup j d b=Ξ m j r d i v)))=true:=by
 have q:(kd m j r d v).Nodup:=by
  have x:=gw g R c f;have n:(cT m j r d i v).Nodup:=(pF g R _ v c f).1;rw[x]at n;have u:=(aV.mp n).2;exact wv (λk o=>by rw[gw g R ((ce g R c f).mp o).1.1 ((ce g R c f).mp o).1.2];exact .head _) u
 rw[Sw g R t s w O c f,e];exact QJ (p:=λb=>decide (Ξ m j r d i b*tup j d b=Ξ m j r d i v)) (e▸q)
end
end Pb
namespace Pb
open L2 PySem PySem.W NumText
theorem JT{g:Nat->Int}{i:Nat}:∀{N:Nat},i<N->(∀j,j<N->j≠i->g j=0)->ϊ N g=g i
 | 0,h,_=>absurd h (Nat.not_lt_zero _)
 | N+1,h,hz=>by
   show ϊ N g+g N=g i;by_cases c:i=N
   .have:ϊ N g=0:=by
     rw[jG (g:=λ_=>0) λj a=>hz j (by lia) (by lia)];clear hz h c
     induction N with
     | zero=>rfl
     | succ k ih=>show ϊ k (λ_=>0)+0=0;rw[ih];rfl
    rw[this,c]
    lia
   .rw[JT (N:=N) (by lia) λj a=>hz j (by lia),hz N (by lia) (by lia)]
    lia
def chN(a k:Nat):Int:=if k%2=0 then(ch (a+k) k:Int)else -(ch (a+k) k:Int)
def chZ:Int->Nat->Int
 | .ofNat n,k=>(ch n k:Int)
 | .negSucc a,k=>chN a k
def nwN:List Int->Nat->Nat->Int
 | [],_,_=>0
 | d::r,a,k=>d*chN a k+nwN r a (k+1)
def nwZ(b:du)(n:Int)(k:Nat):Int:=match n with
 | .ofNat n=>Le b n k
 | .negSucc a=>nwN b a k
theorem Dk(n:Int)(k:Nat):nwZ [] n k=0:=by cases n<;>rfl
theorem AI(d:Int)(r:du)(n:Int)(k:Nat):nwZ (d::r) n k=d*chZ n k+nwZ r n (k+1):=by cases n<;>rfl
theorem P8(n:Int):chZ n 0=1:=by
 cases n with
 | ofNat n=>show((ch n 0:Nat):Int)=1;rw[pJ];rfl
 | negSucc a=>show chN a 0=1;unfold chN;rw[aj rfl,pJ];rfl
theorem PQ(a k:Nat):chN a (k+1)=-(if k%2=0 then(ch (a+(k+1)) (k+1):Int)else -(ch (a+(k+1)) (k+1):Int)):=by
 unfold chN;by_cases c:k%2=0
 .rw[ah (by lia),aj c]
 .rw[aj (by lia),ah c,Int.neg_neg]
theorem Qs(n:Int)(k:Nat):chZ n (k+1)*((k:Int)+1)=chZ n k*(n-(k:Int)):=by
 cases n with
 | ofNat n=>exact vy n k
 | negSucc a=>
   show chN a (k+1)*((k:Int)+1)=chN a k*(Int.negSucc a-(k:Int));have h:=vy (a+k) k;have e:ch (a+(k+1)) (k+1)=ch (a+k) k+ch (a+k) (k+1):=rfl;have b:(ch (a+(k+1)) (k+1):Int)*((k:Int)+1)=(ch (a+k) k:Int)*((a:Int)+(k:Int)+1):=by
    rw[e,ir,cR,h,<-db]
    congr 1
    rw[ir]
    lia
   have c:Int.negSucc a-(k:Int)=-((a:Int)+(k:Int)+1):=by
    rw[Int.negSucc_eq]
    lia
   rw[PQ,c,Int.mul_neg,gY];unfold chN
   congr 1
   split
   .exact b
   .rw[gY,gY,b]
theorem Sf(r:du)(d:Int)(n:Int)(k:Nat):nwZ (r++[d]) n k=nwZ r n k+d*chZ n (k+r.length):=by
 induction r generalizing k with
 | nil=>
   rw[fC,AI,Dk,Dk,dU,Nat.add_zero]
   lia
 | cons x r ih=>
   rw[List.cons_append,AI,AI,ih (k+1),ba,show k+1+r.length=k+(r.length+1) by lia]
   lia
section
variable{X:Cx}{x:Str}{p a l:Pos}{e:Expr}{d:List Expr}{u:TE}{t:TA}{y:XK->TE}
theorem ζ(i:Nat)(n:NmL X.env.scope x:=by exact .of (by kernel_rfl))(b:X.N[i]?=some x:=by rfl):PE X (.Name x a) (xK i):=pvl i n b
theorem ϙ(i:Nat)(n:NmC X.env.scope x:=by exact .of (by kernel_rfl))(b:X.N[i]?=some x:=by rfl):PE X (.Name x a) (xK i):=pvc i n b
theorem ϫ(i:Nat)(f:X.N.Nodup:=by exact bF (by kernel_rfl))(c:X.N[i]?=some x:=by rfl)(b:X.env.scope.names.lookup x=some .local:=by kernel_rfl):PG X (.Name x a) (vL i):=eE f c (.inl b) (.inr b)
theorem Μ(i:Nat)(g:PE X e u)(h:X.N.Nodup:=by exact bF (by kernel_rfl))(f:X.N[i]?=some x:=by rfl)(b:X.env.scope.names.lookup x=some .local:=by kernel_rfl)(c:swapsWith e (some (.Name x l)) a.line X.env=pure false:=by rfl):PS X (.Assign [.Name x l] e a) (DM u (vL i)):=pV h f (.inl b) g c (.inr b)
theorem pgl{C:Addr}(c:X.mg x=some (.ref C))(f:X.env.scope.names.lookup x=some .globalImplicit:=by kernel_rfl)(b:(x==("__debug__":Str))=false:=by kernel_rfl):PE X (.Name x a) (tC (.ref C)):=JQ f c rfl b
variable{s:ZL}{k j:Nat}{f:Addr}{fd:FuncData}{h:hO}{g:Sp}{o:Stmt}
theorem pcq(D:Df X.K X.mg x o h f fd)(F:Ψ X.prog X.w X.K X.mg X.base s k f fd h g)(z:ύ j X.A)(q:bU s)(i:PA X (e::d) t)(c:k<=j:=by decide)(n:X.env.scope.names.lookup x=some .globalImplicit:=by kernel_rfl)(hdb:(x==("__debug__":Str))=false:=by kernel_rfl)(r:starEach (e::d) X.env=(false,eval e X.env)::starEach d X.env:=by rfl)(v:(backTo a (starEach d X.env)).any (·.1)=false:=by rfl):PE X (.Call (.Name x p) (e::d) [] a) (wf g [] E0 t):=fF F (z.mono c) n D.m D.F.kp D.b .nil (gU q) i hdb r v
theorem pcx{E:XK}(D:Df X.K X.mg x o h f fd)(F:Ψ X.prog X.w X.K X.mg X.base s k f fd h g)(B:ύ j X.A)(r:qV s X E)(n:PA X (e::d) t)(i:k<=j:=by decide)(q:X.env.scope.names.lookup x=some .globalImplicit:=by kernel_rfl)(c:(x==("__debug__":Str))=false:=by kernel_rfl)(v:starEach (e::d) X.env=(false,eval e X.env)::starEach d X.env:=by rfl)(z:(backTo a (starEach d X.env)).any (·.1)=false:=by rfl):PE X (.Call (.Name x p) (e::d) [] a) (wf g [] E t):=fF F (B.mono i) q D.m D.F.kp D.b .nil r n c v z
structure Cb(P:Program)(w:World)(K:gx)(mg:hL)(base:Heap)(x:Str)(o:Stmt)(h:hO)(k:Nat)(g:Sp) where
 f:Addr
 fd:FuncData
 D:Df K mg x o h f fd
 G:Ψ P w K mg base (ψ P w) k f fd h g
def cb{P:Program}{w:World}{K:gx}{b:hL}{base:Heap}(D:Df K b x o h f fd)(G:Ψ P w K b base (ψ P w) k f fd h g):Cb P w K b base x o h k g:=⟨f,fd,D,G⟩
theorem Η(c:Cb X.prog X.w X.K X.mg X.base x o h k g)(v:ύ j X.A)(q:bU (ψ X.prog X.w))(i:PA X (e::d) t)(b:k<=j:=by decide)(m:X.env.scope.names.lookup x=some .globalImplicit:=by kernel_rfl)(hdb:(x==("__debug__":Str))=false:=by kernel_rfl)(n:starEach (e::d) X.env=(false,eval e X.env)::starEach d X.env:=by rfl)(r:(backTo a (starEach d X.env)).any (·.1)=false:=by rfl):PE X (.Call (.Name x p) (e::d) [] a) (wf g [] E0 t):=pcq c.D c.G v q i b m hdb n r
theorem Ϛ{E:XK}(c:Cb X.prog X.w X.K X.mg X.base x o h k g)(v:ύ j X.A)(n:qV (ψ X.prog X.w) X E)(i:PA X (e::d) t)(b:k<=j:=by decide)(m:X.env.scope.names.lookup x=some .globalImplicit:=by kernel_rfl)(hdb:(x==("__debug__":Str))=false:=by kernel_rfl)(q:starEach (e::d) X.env=(false,eval e X.env)::starEach d X.env:=by rfl)(r:(backTo a (starEach d X.env)).any (·.1)=false:=by rfl):PE X (.Call (.Name x p) (e::d) [] a) (wf g [] E t):=pcx c.D c.G v n i b m hdb q r
variable{v T:String}{r:List V->Hp->VK->Prop}
theorem pcb(m:nz X (.builtin v) r)(q:X.mg x=none)(i:PA X (e::d) t)(A:bootBuiltins x=some (.builtin v):=by kernel_rfl)(c:X.env.scope.names.lookup x=some .globalImplicit:=by kernel_rfl)(w:decide (x="__name__")=false:=by kernel_rfl)(b:(x==("__debug__":Str))=false:=by kernel_rfl)(n:starEach (e::d) X.env=(false,eval e X.env)::starEach d X.env:=by rfl)(z:(backTo a (starEach d X.env)).any (·.1)=false:=by rfl):PE X (.Call (.Name x p) (e::d) [] a) (tCB r t):=QY m c q A i (of_decide_eq_false w) b n z
theorem pct(i:nz X (.type T) r)(n:X.mg x=none)(c:PA X (e::d) t)(z:bootBuiltins x=some (.type T):=by kernel_rfl)(b:X.env.scope.names.lookup x=some .globalImplicit:=by kernel_rfl)(q:decide (x="__name__")=false:=by kernel_rfl)(hdb:(x==("__debug__":Str))=false:=by kernel_rfl)(m:starEach (e::d) X.env=(false,eval e X.env)::starEach d X.env:=by rfl)(w:(backTo a (starEach d X.env)).any (·.1)=false:=by rfl):PE X (.Call (.Name x p) (e::d) [] a) (tCB r t):=EI i b n z c (of_decide_eq_false q) hdb m w
end
inductive E3{A0 A1 A2:Type}(p:A0->A1->A2->Prop):Prop
 | mk (a0:A0) (a1:A1) (a2:A2) (h:p a0 a1 a2):E3 p
inductive E4{A0 A1 A2 A3:Type}(p:A0->A1->A2->A3->Prop):Prop
 | mk (a0:A0) (a1:A1) (a2:A2) (a3:A3) (h:p a0 a1 a2 a3):E4 p
inductive E5{A0 A1 A2 A3 A4:Type}(p:A0->A1->A2->A3->A4->Prop):Prop
 | mk (a0:A0) (a1:A1) (a2:A2) (a3:A3) (a4:A4) (h:p a0 a1 a2 a3 a4):E5 p
inductive E6{A0 A1 A2 A3 A4 A5:Type}(p:A0->A1->A2->A3->A4->A5->Prop):Prop
 | mk (a0:A0) (a1:A1) (a2:A2) (a3:A3) (a4:A4) (a5:A5) (h:p a0 a1 a2 a3 a4 a5):E6 p
inductive E7{A0 A1 A2 A3 A4 A5 A6:Type}(p:A0->A1->A2->A3->A4->A5->A6->Prop):Prop
 | mk (a0:A0) (a1:A1) (a2:A2) (a3:A3) (a4:A4) (a5:A5) (a6:A6) (h:p a0 a1 a2 a3 a4 a5 a6):E7 p
inductive E8{A0 A1 A2 A3 A4 A5 A6 A7:Type}(p:A0->A1->A2->A3->A4->A5->A6->A7->Prop):Prop
 | mk (a0:A0) (a1:A1) (a2:A2) (a3:A3) (a4:A4) (a5:A5) (a6:A6) (a7:A7) (h:p a0 a1 a2 a3 a4 a5 a6 a7):E8 p
inductive E9{A0 A1 A2 A3 A4 A5 A6 A7 A8:Type}(p:A0->A1->A2->A3->A4->A5->A6->A7->A8->Prop):Prop
 | mk (a0:A0) (a1:A1) (a2:A2) (a3:A3) (a4:A4) (a5:A5) (a6:A6) (a7:A7) (a8:A8) (h:p a0 a1 a2 a3 a4 a5 a6 a7 a8):E9 p
inductive E10{A0 A1 A2 A3 A4 A5 A6 A7 A8 A9:Type}(p:A0->A1->A2->A3->A4->A5->A6->A7->A8->A9->Prop):Prop
 | mk (a0:A0) (a1:A1) (a2:A2) (a3:A3) (a4:A4) (a5:A5) (a6:A6) (a7:A7) (a8:A8) (a9:A9) (h:p a0 a1 a2 a3 a4 a5 a6 a7 a8 a9):E10 p
inductive E11{A0 A1 A2 A3 A4 A5 A6 A7 A8 A9 ZI:Type}(p:A0->A1->A2->A3->A4->A5->A6->A7->A8->A9->ZI->Prop):Prop
 | mk (a0:A0) (a1:A1) (a2:A2) (a3:A3) (a4:A4) (a5:A5) (a6:A6) (a7:A7) (a8:A8) (a9:A9) (a10:ZI) (h:p a0 a1 a2 a3 a4 a5 a6 a7 a8 a9 a10):E11 p
inductive E12{A0 A1 A2 A3 A4 A5 A6 A7 A8 A9 ZI A11:Type}(p:A0->A1->A2->A3->A4->A5->A6->A7->A8->A9->ZI->A11->Prop):Prop
 | mk (a0:A0) (a1:A1) (a2:A2) (a3:A3) (a4:A4) (a5:A5) (a6:A6) (a7:A7) (a8:A8) (a9:A9) (a10:ZI) (a11:A11) (h:p a0 a1 a2 a3 a4 a5 a6 a7 a8 a9 a10 a11):E12 p
inductive E16{A0 A1 A2 A3 A4 A5 A6 A7 A8 A9 ZI A11 A12 A13 A14 A15:Type}(p:A0->A1->A2->A3->A4->A5->A6->A7->A8->A9->ZI->A11->A12->A13->A14->A15->Prop):Prop
 | mk (a0:A0) (a1:A1) (a2:A2) (a3:A3) (a4:A4) (a5:A5) (a6:A6) (a7:A7) (a8:A8) (a9:A9) (a10:ZI) (a11:A11) (a12:A12) (a13:A13) (a14:A14) (a15:A15) (h:p a0 a1 a2 a3 a4 a5 a6 a7 a8 a9 a10 a11 a12 a13 a14 a15):E16 p
inductive E17{A0 A1 A2 A3 A4 A5 A6 A7 A8 A9 ZI A11 A12 A13 A14 A15 A16:Type}(p:A0->A1->A2->A3->A4->A5->A6->A7->A8->A9->ZI->A11->A12->A13->A14->A15->A16->Prop):Prop
 | mk (a0:A0) (a1:A1) (a2:A2) (a3:A3) (a4:A4) (a5:A5) (a6:A6) (a7:A7) (a8:A8) (a9:A9) (a10:ZI) (a11:A11) (a12:A12) (a13:A13) (a14:A14) (a15:A15) (a16:A16) (h:p a0 a1 a2 a3 a4 a5 a6 a7 a8 a9 a10 a11 a12 a13 a14 a15 a16):E17 p
inductive E18{A0 A1 A2 A3 A4 A5 A6 A7 A8 A9 ZI A11 A12 A13 A14 A15 A16 A17:Type}(p:A0->A1->A2->A3->A4->A5->A6->A7->A8->A9->ZI->A11->A12->A13->A14->A15->A16->A17->Prop):Prop
 | mk (a0:A0) (a1:A1) (a2:A2) (a3:A3) (a4:A4) (a5:A5) (a6:A6) (a7:A7) (a8:A8) (a9:A9) (a10:ZI) (a11:A11) (a12:A12) (a13:A13) (a14:A14) (a15:A15) (a16:A16) (a17:A17) (h:p a0 a1 a2 a3 a4 a5 a6 a7 a8 a9 a10 a11 a12 a13 a14 a15 a16 a17):E18 p
inductive E19{A0 A1 A2 A3 A4 A5 A6 A7 A8 A9 ZI A11 A12 A13 A14 A15 A16 A17 A18:Type}(p:A0->A1->A2->A3->A4->A5->A6->A7->A8->A9->ZI->A11->A12->A13->A14->A15->A16->A17->A18->Prop):Prop
 | mk (a0:A0) (a1:A1) (a2:A2) (a3:A3) (a4:A4) (a5:A5) (a6:A6) (a7:A7) (a8:A8) (a9:A9) (a10:ZI) (a11:A11) (a12:A12) (a13:A13) (a14:A14) (a15:A15) (a16:A16) (a17:A17) (a18:A18) (h:p a0 a1 a2 a3 a4 a5 a6 a7 a8 a9 a10 a11 a12 a13 a14 a15 a16 a17 a18):E19 p
inductive E23{A0 A1 A2 A3 A4 A5 A6 A7 A8 A9 ZI A11 A12 A13 A14 A15 A16 A17 A18 A19 A20 A21 A22:Type}(p:A0->A1->A2->A3->A4->A5->A6->A7->A8->A9->ZI->A11->A12->A13->A14->A15->A16->A17->A18->A19->A20->A21->A22->Prop):Prop
 | mk (a0:A0) (a1:A1) (a2:A2) (a3:A3) (a4:A4) (a5:A5) (a6:A6) (a7:A7) (a8:A8) (a9:A9) (a10:ZI) (a11:A11) (a12:A12) (a13:A13) (a14:A14) (a15:A15) (a16:A16) (a17:A17) (a18:A18) (a19:A19) (a20:A20) (a21:A21) (a22:A22) (h:p a0 a1 a2 a3 a4 a5 a6 a7 a8 a9 a10 a11 a12 a13 a14 a15 a16 a17 a18 a19 a20 a21 a22):E23 p
def clK(e:hO)(b:Nat)(c:List Nat)(N:hO)(a d:Scope):Bool:=(a.names.all λy=>decide (y.2≠.cell))&&decide (a.kind=.function)&&(a.names.all λy=>decide (y.2=.local->a.names.lookup y.1=some .local))&&decide (e.length=b+c.length)&&(a.names.all λy=>decide (y.2=.free->d.names.lookup y.1=some .cell))&&decide (d.kind=.function)&&(List.range c.length).all λi=>match e[b+i]?,c[i]? with
 | some x,some j=>decide (N[j]?=some x)&&decide (a.names.lookup x=some .free)
 | _,_=>false
theorem Z5{X:Cx}{scope:Scope}(d:hO)(a:Nat)(b:List Nat)(h:clK d a b X.N scope X.env.scope=true:=by kernel_rfl)(e:∀x,X.env.scope.names.lookup x=some .cell->∃c,X.env.cells.lookup x=some c:=by exact λ_ h=>Al h):Ϧ X d a b scope (sU X.env.cells scope.names []):=by
 unfold clK at h;simp only[bD,bJ,gm,cQ]at h;obtain⟨⟨⟨⟨⟨⟨n,l⟩,k⟩,p⟩,g⟩,m⟩,f⟩:=h;refine T3 a b n l k p g m e λi o=>?_;have q:=f i o;split at q
 .rename_i x j e1 e2
  simp only[bD,bJ]at q;exact⟨x,j,e1,e2,q.1,q.2⟩
 .cases q
abbrev Ok(P:Program)(w:World)(K:gx)(b:hL)(a:Heap)(x:Str)(st:Stmt)(c:hO)(k:Nat)(e:Sp):Prop:=∀(f:Addr)(d:FuncData),Df K b x st c f d->Ψ P w K b a (ψ P w) k f d c e
section
variable{X:Cx}{a b:Expr}{d e:TE}{c:Pos}
theorem Ι{r:R2}(i:IxR X r)(g:PE X a d)(h:PE X b e)(f:Km b:=by exact λ_ _=>rfl):PE X (.Subscript a b c) (tOp r d e):=qO i g h f
theorem lE{f:CmpOp}{r:R2}(j:aC X (compareOp f) r)(g:PE X a d)(k:PE X b e)(h:f≠.In:=by decide)(i:f≠.NotIn:=by decide):PT X (.Compare a [f] [b] c) (CH (tOp r d e)):=yz j g k (oY _ h i)
end
def swp(c:fc)(x:Road):Road:=⟨c x.b,c x.a,x.u,x.t⟩
def ϐ(b:fc)(a:hT):List Road:=a.reverse.map (swp b)
structure Ϟ(m:Int)(π ρ:fc):Prop where
 p:∀v,0<=v->v<m->(0<=π v/\π v<m)/\ρ (π v)=v
 q:∀v,0<=v->v<m->(0<=ρ v/\ρ v<m)/\π (ρ v)=v
section
variable{m r:Int}{f:hT}{d k par:fc}{dep:fz}
theorem se{x:Road}:x∈ϐ d f↔∃y∈f,x=swp d y:=by
 unfold ϐ;rw[aR];exact⟨λ⟨y,h,e⟩=>⟨y,cY.mp h,e.symm⟩,λ⟨y,h,e⟩=>⟨y,cY.mpr h,e.symm⟩⟩
theorem Ϟ.inj(N:Ϟ m d k){a b:Int}(i:0<=a)(g:a<m)(c:0<=b)(e:b<m):d a=d b↔a=b:=⟨λh=>by rw[<-(N.p a i g).2,h,(N.p b c e).2],λh=>by rw[h]⟩
theorem Ϟ.good(N:Ϟ m d k)(g:Good m f):Good m (ϐ d f) where
 m1:=g.m1
 Ο:=g.Ο
 len:=by unfold ϐ;rw[ag,aZ];exact g.len
 ok x hx:=by
  obtain⟨y,j,rfl⟩:=se.mp hx;have o:=g.ok y j;have a:=N.p y.a o.a0 o.a1;have b:=N.p y.b o.b0 o.b1;exact⟨b.1.1,b.1.2,a.1.1,a.1.2,λz=>o.ne ((N.inj o.b0 o.b1 o.a0 o.a1).mp z).symm,o.u0,o.u1,o.t0,o.t1⟩
 jn S s0 hs v v0 v1:=by
  have m1:=g.m1;have c:=g.jn (λv=>S (d v)↔S (d 0)) Iff.rfl λy j=>by
   have h:S (d y.b)↔S (d y.a):=hs _ (se.mpr ⟨y,j,rfl⟩);exact⟨λz=>h.trans z,λz=>h.symm.trans z⟩
  have i:=N.q 0 (bO 0) (by lia);have k0:=c (k 0) i.1.1 i.1.2;rw[i.2]at k0;have e:=N.q v v0 v1;have l:=c (k v) e.1.1 e.1.2;rw[e.2]at l;exact l.mpr (k0.mp s0)
theorem Ϟ.ZG(N:Ϟ m d k)(g:Good m f){a b:Int}(a0:0<=a)(a1:a<m)(b0:0<=b)(b1:b<m):ZF (ϐ d f) (d a) (d b)↔ZF f a b:=by
 refine⟨λ⟨x,e,h⟩=>?_,λ⟨y,c,h⟩=>⟨swp d y,se.mpr ⟨y,c,rfl⟩,?_⟩⟩
 .obtain⟨y,c,rfl⟩:=se.mp e;have o:=g.ok y c;refine⟨y,c,?_⟩;rcases h with⟨h1,h2⟩|⟨h1,h2⟩
  .exact .inr ⟨(N.inj o.b0 o.b1 a0 a1).mp h1,(N.inj o.a0 o.a1 b0 b1).mp h2⟩
  .exact .inl ⟨(N.inj o.a0 o.a1 a0 a1).mp h1,(N.inj o.b0 o.b1 b0 b1).mp h2⟩
 .rcases h with⟨h1,h2⟩|⟨h1,h2⟩
  .exact .inr ⟨show d y.a=d a by rw[h1],show d y.b=d b by rw[h2]⟩
  .exact .inl ⟨show d y.b=d a by rw[h1],show d y.a=d b by rw[h2]⟩
theorem Ϟ.toll(N:Ϟ m d k)(g:Good m f){a b:Int}(a0:0<=a)(a1:a<m)(b0:0<=b)(b1:b<m):ci (ϐ d f) (d a) (d b)=ci f a b:=by
 by_cases c:ZF f a b
 .obtain⟨y,hy,h⟩:=c;have o:=g.ok y hy;obtain⟨i,e⟩:=bZ hy;obtain⟨j,l⟩:=bZ (se.mpr ⟨y,hy,rfl⟩:swp d y∈ϐ d f);have n:tI (swp d y) (d a) (d b):=by
   rcases h with⟨h1,h2⟩|⟨h1,h2⟩
   .exact .inr ⟨show d y.a=d a by rw[h1],show d y.b=d b by rw[h2]⟩
   .exact .inl ⟨show d y.b=d a by rw[h1],show d y.a=d b by rw[h2]⟩
  rw[rf g e h,rf (N.good g) l n];unfold kK swp;dsimp only;simp only[N.inj o.b0 o.b1 a0 a1,N.inj o.a0 o.a1 b0 b1,N.inj o.b0 o.b1 b0 b1,N.inj o.a0 o.a1 a0 a1];have ne:=o.ne;rcases h with⟨h1,h2⟩|⟨h1,h2⟩
  .rw[ah (by lia),aj ⟨h2,h1⟩,aj ⟨h1,h2⟩]
  .rw[aj ⟨h1,h2⟩,ah (by lia),aj ⟨h2,h1⟩]
 .rw[D5 c,D5 λz=>c ((N.ZG g a0 a1 b0 b1).mp z)]
def hV(d k par:fc)(w:Int):Int:=d (par (k w))
def ng(k:fc)(dep:fz)(w:Int):Nat:=dep (k w)
theorem Ϟ.bY(N:Ϟ m d k){v:Int}(b:0<=v)(a:v<m):hV d k par (d v)=d (par v)/\ng k dep (d v)=dep v:=by
 unfold hV ng;rw[(N.p v b a).2];exact⟨rfl,rfl⟩
theorem Ϟ.Ω(N:Ϟ m d k)(g:Good m f)(R:ε m f r par dep)(j:0<=r)(i:r<m):ε m (ϐ d f) (d r) (hV d k par) (ng k dep) where
 root:=by rw[(N.bY (par:=par) j i).2];exact R.root
 up w w0 w1 wr:=by
  obtain⟨⟨v0,v1⟩,e⟩:=N.q w w0 w1;have I:k w≠r:=λz=>wr (by rw[<-e,z]);obtain⟨h,J,E⟩:=R.up (k w) v0 v1 I;refine⟨(N.p _ h.1 h.2).1,?_,?_⟩
  .have:=(N.ZG g v0 v1 h.1 h.2).mpr J;rw[e]at this;exact this
  .show dep (k (d (par (k w))))+1=dep (k w);rw[(N.p _ h.1 h.2).2];exact E
 road x hx:=by
  obtain⟨y,c,rfl⟩:=se.mp hx;have o:=g.ok y c;rcases R.road y c with⟨h1,h2⟩|⟨h1,h2⟩
  .exact .inr ⟨λz=>h1 ((N.inj o.a0 o.a1 j i).mp z),by show hV d k par (d y.a)=d y.b;rw[(N.bY (dep:=dep) o.a0 o.a1).1,h2]⟩
  .exact .inl ⟨λz=>h1 ((N.inj o.b0 o.b1 j i).mp z),by show hV d k par (d y.b)=d y.a;rw[(N.bY (dep:=dep) o.b0 o.b1).1,h2]⟩
 one:=by
  have e:((ϐ d f).map λx=>if x.a≠d r/\hV d k par x.a=x.b then x.a else x.b)=((f.map λx=>if x.a≠r/\par x.a=x.b then x.a else x.b).reverse).map d:=by
   unfold ϐ;rw[ee,<-eC,ee];refine bQ λy c=>?_;have c:=cY.mp c;have o:=g.ok y c;show(if d y.b≠d r/\hV d k par (d y.b)=d y.a then d y.b else d y.a)=d (if y.a≠r/\par y.a=y.b then y.a else y.b);rw[(N.bY (dep:=dep) o.b0 o.b1).1];rcases R.road y c with⟨h1,h2⟩|⟨h1,h2⟩
   .rw[aj (show y.a≠r/\par y.a=y.b from⟨h1,h2⟩),ah];rintro⟨s,n⟩;have D:y.b≠r:=λz=>s (by rw[z]);have B:=(R.up y.b o.b0 o.b1 D).1;have K:par y.b=y.a:=(N.inj B.1 B.2 o.a0 o.a1).mp n;have u:=R.pos o.a0 o.a1 h1;have t:=R.pos o.b0 o.b1 D;rw[h2]at u;rw[K]at t
    lia
   .have na:¬(y.a≠r/\par y.a=y.b):=λ⟨s,n⟩=>by
     have u:=R.pos o.a0 o.a1 s;have t:=R.pos o.b0 o.b1 h1;rw[n]at u;rw[h2]at t
     lia
    rw[ah na,aj];exact⟨λz=>h1 ((N.inj o.b0 o.b1 j i).mp z),by rw[h2]⟩
  rw[e];have nd:((f.map λx=>if x.a≠r/\par x.a=x.b then x.a else x.b).reverse).Nodup:=((List.reverse_perm _).nodup_iff).mpr R.one;have Δ:∀z∈(f.map λx=>if x.a≠r/\par x.a=x.b then x.a else x.b).reverse,0<=z/\z<m:=λz v=>by
   obtain⟨y,c,rfl⟩:=aR.mp (cY.mp v);have o:=g.ok y c;split
   .exact⟨o.a0,o.a1⟩
   .exact⟨o.b0,o.b1⟩
  generalize (f.map λx=>if x.a≠r/\par x.a=x.b then x.a else x.b).reverse=l at nd Δ;clear e
  induction l with
  | nil=>exact jL
  | cons a l ih=>
    obtain⟨F,H⟩:=aV.mp nd;refine aV.mpr ⟨λz=>?_,ih H λz v=>Δ z (.tail _ v)⟩;obtain⟨b,hb,G⟩:=aR.mp z;have A:=Δ a (.head _);have C:=Δ b (.tail _ hb);rw[(N.inj C.1 C.2 A.1 A.2).mp G]at hb;exact F hb
theorem Ϟ.nodup(N:Ϟ m d k):∀{l:du},l.Nodup->(∀z∈l,0<=z/\z<m)->(l.map d).Nodup
 | [],_,_=>jL
 | a::l,nd,Δ=>by
   obtain⟨h,j⟩:=aV.mp nd;refine aV.mpr ⟨λz=>?_,N.nodup j λz n=>Δ z (.tail _ n)⟩;obtain⟨b,c,i⟩:=aR.mp z;have e:=Δ a (.head _);have g:=Δ b (.tail _ c);rw[(N.inj g.1 g.2 e.1 e.2).mp i]at c;exact h c
theorem Ϟ.kids(N:Ϟ m d k)(g:Good m f)(R:ε m f r par dep)(l:0<=r)(j:r<m){v:Int}(b:0<=v)(c:v<m):(kd m (ϐ d f) (d r) (hV d k par) (d v)).Perm ((kd m f r par v).map d):=by
 have w:=N.Ω g R l j;have n:=N.good g;have pv:=(N.p v b c).1;refine hW jX (N.nodup jX λz y=>((ce g R b c).mp y).1) λx=>?_;rw[ce n w pv.1 pv.2,aR];refine⟨λ⟨⟨A,C⟩,B,s⟩=>?_,?_⟩
 .obtain⟨⟨u0,a⟩,e⟩:=N.q x A C;have i:k x≠r:=λz=>B (by rw[<-e,z]);have h:=(R.up _ u0 a i).1;exact⟨k x,(ce g R b c).mpr ⟨⟨u0,a⟩,i,(N.inj h.1 h.2 b c).mp s⟩,e⟩
 .rintro⟨u,hu,rfl⟩;obtain⟨a,o,t⟩:=(ce g R b c).mp hu;exact⟨(N.p u a.1 a.2).1,λz=>o ((N.inj a.1 a.2 l j).mp z),by rw[(N.bY (dep:=dep) a.1 a.2).1,t]⟩
theorem Ϟ.Α(N:Ϟ m d k)(g:Good m f)(R:ε m f r par dep)(j:0<=r)(i:r<m){held h:fc}{con a:hR}(l:∀v,0<=v->v<m->h (d v)=held v)(q:∀c z,0<=c->c<m->c≠r->a (d c) z=con c z):∀(n:Nat)(v:Int),m.toNat-dep v=n->0<=v->v<m->Pb.Α m (ϐ d f) (d r) (hV d k par) (ng k dep) h a (d v)=Pb.Α m f r par dep held con v
 | 0,v,e,h0,h1=>by
   have:=iJ R h0 h1
   lia
 | n+1,v,e,h0,h1=>by
   have pv:=(N.p v h0 h1).1;rw[eI (N.good g) (N.Ω g R j i) pv.1 pv.2,eI g R h0 h1,l v h0 h1,qH ((N.kids g R j i h0 h1).map _),ee];refine congrArg _ (pN λu w=>?_);obtain⟨b,o,t⟩:=(ce g R h0 h1).mp w;have s:=R.pos b.1 b.2 o;rw[t]at s;show a (d u) (Pb.Α m (ϐ d f) (d r) (hV d k par) (ng k dep) h a (d u))=_;rw[Ϟ.Α N g R j i l q n u (by lia) b.1 b.2,q u _ b.1 b.2 o]
theorem Ϟ.ϟ(N:Ϟ m d k)(g:Good m f)(R:ε m f r par dep){v:Int}(b:0<=v)(a:v<m)(c:v≠r):ci (ϐ d f) (d v) (hV d k par (d v))=ci f v (par v)/\ci (ϐ d f) (hV d k par (d v)) (d v)=ci f (par v) v:=by
 have p:=(R.up v b a c).1;rw[(N.bY (dep:=dep) b a).1];exact⟨N.toll g b a p.1 p.2,N.toll g p.1 p.2 b a⟩
theorem Va(z x y:Int):mx (mx z x) y=mx (mx z y) x:=by
 unfold mx
 repeat' split
 all_goals lia
theorem Ϟ.Ξ(N:Ϟ m d k)(g:Good m f)(R:ε m f r par dep)(c:0<=r)(b:r<m):∀(n:Nat)(v:Int),m.toNat-dep v=n->0<=v->v<m->Pb.Ξ m (ϐ d f) (d r) (hV d k par) (ng k dep) (d v)=Pb.Ξ m f r par dep v
 | 0,v,e,h0,h1=>by
   have:=iJ R h0 h1
   lia
 | n+1,v,e,h0,h1=>by
   have pv:=(N.p v h0 h1).1;show fo mx _ _ _ _ _ _ _ _=fo mx _ _ _ _ _ _ _ _;rw[uZ (N.good g) (N.Ω g R c b) pv.1 pv.2,uZ g R h0 h1,((N.kids g R c b h0 h1).map _).foldl_eq' (λx _ y _ z=>Va z x y),ee];refine congrArg (List.foldl mx 1) (bQ λu i=>?_);obtain⟨a,h,j⟩:=(ce g R h0 h1).mp i;have l:=R.pos a.1 a.2 h;rw[j]at l;show bor (ϐ d f) (hV d k par) (d u) (Pb.Ξ m (ϐ d f) (d r) (hV d k par) (ng k dep) (d u))=bor f par u (Pb.Ξ m f r par dep u);rw[Ϟ.Ξ N g R c b n u (by lia) a.1 a.2];unfold bor;rw[(N.ϟ g R a.1 a.2 h).1]
theorem Ϟ.bel(N:Ϟ m d k):(bG m.toNat).Perm ((bG m.toNat).map d):=by
 refine hW (hG _) (N.nodup (hG _) λz b=>by have:=dX.mp b;exact⟨this.1,by lia⟩) λx=>?_;rw[aR,dX];refine⟨λh=>?_,?_⟩
 .obtain⟨e1,e2⟩:=N.q x h.1 (by lia);exact⟨k x,dX.mpr ⟨e1.1,by lia⟩,e2⟩
 .rintro⟨u,a,rfl⟩;have a:=dX.mp a;have:=(N.p u a.1 (by lia)).1;exact⟨this.1,by lia⟩
theorem Ϟ.bnd(N:Ϟ m d k)(g:Good m f)(R:ε m f r par dep)(c:0<=r)(b:r<m)(w:Int):Pb.bnd m (ϐ d f) (d r) (hV d k par) (jO m (ϐ d f) (d r) (hV d k par) (ng k dep)) w=Pb.bnd m f r par (jO m f r par dep) w:=by
 have h:=(N.p r c b).1;have W:=N.Ξ g R c b;unfold Pb.bnd;rw[show(jO m (ϐ d f) (d r) (hV d k par) (ng k dep)).getD (d r).toNat 0=Pb.Ξ m (ϐ d f) (d r) (hV d k par) (ng k dep) (d r)from pE h.1 h.2,show(jO m f r par dep).getD r.toNat 0=Pb.Ξ m f r par dep r from pE c b,W _ r rfl c b,qH (((N.bel).filter λv=>decide (v≠d r)).map _),List.filter_map,ee];refine congrArg _ ?_;have i:(bG m.toNat).filter ((λv=>decide (v≠d r)) ∘ d)=(bG m.toNat).filter λv=>decide (v≠r):=List.filter_congr λv a=>by
  have a:=dX.mp a;show decide (d v≠d r)=decide (v≠r);exact iV.mpr (not_congr (N.inj a.1 (by lia) c b))
 rw[i];refine pN λv a=>?_;obtain⟨a,j⟩:=bu.mp a;have a:=dX.mp a;have e:v<m:=by lia
 have pv:=(N.p v a.1 e).1;show slk (ϐ d f) (hV d k par) _ (d v)=_;unfold slk;rw[show(jO m (ϐ d f) (d r) (hV d k par) (ng k dep)).getD (d v).toNat 0=Pb.Ξ m (ϐ d f) (d r) (hV d k par) (ng k dep) (d v)from pE pv.1 pv.2,show(jO m f r par dep).getD v.toNat 0=Pb.Ξ m f r par dep v from pE a.1 e,W _ v rfl a.1 e,(N.ϟ g R a.1 e (bF j)).1]
theorem Ϟ.shr(N:Ϟ m d k)(g:Good m f){F s:Int->Int->Rat}{u:Int}(j:0<=u)(i:u<m)(w:∀x,0<=x->x<m->s (d u) (d x)=F u x):Pb.shr m (ϐ d f) s (d u)=Pb.shr m f F u:=by
 have B:=(N.p u j i).1;have a:∀{f:hT}{p q:Int},Good m f->ZF f p q->0<=q/\q<m:=λg ⟨x,e,h⟩=>by
  have o:=g.ok x e;rcases h with⟨_,h⟩|⟨_,h⟩
  .exact⟨by have:=o.b0;lia,by have:=o.b1;lia⟩
  .exact⟨by have:=o.a0;lia,by have:=o.a1;lia⟩
 have y:(ie m (ϐ d f) (d u)).Perm ((ie m f u).map d):=hW (r6 _ _ _) (N.nodup (r6 _ _ _) λz A=>a g ((ij g).mp A)) λx=>by
  rw[ij (N.good g),aR];refine⟨λh=>?_,?_⟩
  .have b:=a (N.good g) h;obtain⟨l,t⟩:=N.q x b.1 b.2;exact⟨k x,(ij g).mpr ((N.ZG g j i l.1 l.2).mp (by rw[t];exact h)),t⟩
  .rintro⟨v,c,rfl⟩;have c:=(ij g).mp c;have n:=a g c;exact(N.ZG g j i n.1 n.2).mpr c
 unfold Pb.shr;rw[OJ y,O2];refine congrArg _ (KR λx e=>?_);have b:=a g ((ij g).mp e);exact w x b.1 b.2
end
theorem GO(f h:Nat->Int):∀k,ϊ k (λi=>f i+h i)=ϊ k f+ϊ k h
 | 0=>rfl
 | k+1=>by show ϊ k (λi=>f i+h i)+(f k+h k)=(ϊ k f+f k)+(ϊ k h+h k);rw[GO f h k];lia
theorem wZ(c:Int)(f:Nat->Int):∀k,ϊ k (λi=>c*f i)=c*ϊ k f
 | 0=>(kY _).symm
 | k+1=>by show ϊ k _+_=c*(ϊ k f+f k);rw[wZ c f k,db]
theorem Gf:∀k,ϊ k (λ_=>0)=0
 | 0=>rfl
 | k+1=>by show ϊ k _+0=0;rw[Gf k];rfl
theorem Ho(F:Nat->Nat->Int)(b:Nat):∀a,ϊ a (λi=>ϊ b (F i))=ϊ b λj=>ϊ a λi=>F i j
 | 0=>(Gf b).symm
 | a+1=>by show ϊ a _+ϊ b (F a)=ϊ b λj=>ϊ a (λi=>F i j)+F a j;rw[Ho F b a,GO]
theorem Ku(G:Nat->Int)(a:Nat):∀d,ϊ (a+d) (λj=>if j<a then G j else 0)=ϊ a G
 | 0=>jG λi b=>aj b
 | d+1=>by
   show ϊ (a+d) _+(if a+d<a then G (a+d)else 0)=_;rw[Ku G a d,ah (by lia),dE]
theorem J9(f h e:Nat->Int)(n:Nat):bV f (bV h e) n=ϊ (n+1) λi=>ϊ (n+1) λj=>if i+j<=n then f i*h j*e (n-i-j)else 0:=by
 unfold bV;refine jG λi b=>?_;have a:=Ku (λj=>f i*h j*e (n-i-j)) (n-i+1) i;rw[show n-i+1+i=n+1 by lia]at a;rw[<-wZ,show(λk=>f i*(h k*e (n-i-k)))=λk=>f i*h k*e (n-i-k)from funext λk=>(cX ..).symm,<-a];refine jG λj d=>?_;by_cases c:i+j<=n
 .rw[aj c,aj (by lia)]
 .rw[ah c,ah (by lia)]
theorem PP(f h e:Nat->Int):bV f (bV h e)=bV h (bV f e):=by
 funext n
 rw[J9,J9,Ho];refine jG λj _=>jG λi _=>?_;rw[m9 i j,dF (f i),show n-i-j=n-j-i by lia]
theorem Ep(f e:Nat->Int)(c:Int):bV f (λn=>c*e n)=λn=>c*bV f e n:=by
 funext n
 unfold bV;rw[<-wZ];exact jG λi _=>by rw[<-cX,<-cX,dF (f i)]
def Zf(b:Int->Bool)(a:Int->Nat->Int):List Int->Nat->Int
 | []=>λn=>if n=0 then 1 else 0
 | k::ks=>if b k=true then bV (a k) (Zf b a ks)else λn=>a k 0*Zf b a ks n
section
variable{a fr be:Int->Bool}{ws:Int->Nat->Int}
theorem SU{l d:du}(h:l.Perm d):Zf a ws l=Zf a ws d:=by
 induction h with
 | nil=>rfl
 | cons x _ ih=>rw[Zf,Zf,ih]
 | swap x y l=>
   rw[Zf,Zf,Zf,Zf];by_cases b:a x=true<;>by_cases c:a y=true
   .rw[aj b,aj c,aj b,aj c,PP]
   .rw[ah c,aj b,aj b,ah c,Ep]
   .rw[aj c,ah b,ah b,aj c,Ep]
   .rw[ah c,ah b,ah b,ah c]
    funext n
    rw[<-cX,<-cX,dF (ws y 0)]
 | trans _ _ h1 h2=>rw[h1,h2]
theorem KD{d:fc}{c:Int->Bool}{b:Int->Nat->Int}:∀{l:du},(∀k∈l,c (d k)=a k/\b (d k)=ws k)->Zf c b (l.map d)=Zf a ws l
 | [],_=>rfl
 | k::l,h=>by
   rw[aF,Zf,Zf,KD λx e=>h x (.tail _ e),(h k (.head _)).1,(h k (.head _)).2]
theorem DZ:∀{ks:du},(∀k∈ks,a k=false/\fr k=false/\be k=false)->∃c,(∀n,ϝ fr be ws ks n=c)/\∀n,Zf a ws ks n=if n=0 then c else 0
 | [],_=>⟨1,λ_=>rfl,λ_=>rfl⟩
 | k::ks,h=>by
   obtain⟨c,g,i⟩:=DZ λx d=>h x (.tail _ d);obtain⟨b,f,e⟩:=h k (.head _);refine⟨ws k 0*c,λn=>?_,λn=>?_⟩
   .rw[tD (by rw[f];decide) (by rw[e];decide)];show ws k 0*ϝ fr be ws ks n=_;rw[g]
   .rw[Zf,ah (by rw[b];decide),i];split
    .rfl
    .exact kY _
theorem Dh:∀{ks:du},(∀f k d,ks=f++k::d->(be k=true↔a k=true/\∀b∈d,a b=false)/\(fr k=true↔a k=true/\¬be k=true))->(∃k∈ks,a k=true)->ϝ fr be ws ks=Zf a ws ks
 | [],_,⟨_,h,_⟩=>by cases h
 | k::ks,H,ex=>by
   have m:=H [] k ks rfl;have s:∀f x d,ks=f++x::d->(be x=true↔a x=true/\∀b∈d,a b=false)/\(fr x=true↔a x=true/\¬be x=true):=λf x d e=>H (k::f) x d (by rw[e];rfl);by_cases g:a k=true
   .by_cases al:∀b∈ks,a b=false
    .have bk:=m.1.mpr ⟨g,al⟩;have t:¬fr k=true:=λz=>(m.2.mp z).2 bk;obtain⟨c,v,u⟩:=DZ (fr:=fr) (be:=be) (ws:=ws) (ks:=ks) λx o=>by
      obtain⟨f,d,e⟩:=List.append_of_mem o;have l:=al x o;have q:=s f x d e;exact⟨l,jm.mpr λz=>(by have:=(q.2.mp z).1;rw[l]at this;cases this),jm.mpr λz=>(by have:=(q.1.mp z).1;rw[l]at this;cases this)⟩
     rw[wc t bk,Zf,aj g]
     funext n
     rw[v];unfold bV;rw[JT (i:=n) (by lia) λj A B=>by rw[u,ah (by lia),kY],u,aj (by lia)]
    .have nb:¬be k=true:=λz=>al (m.1.mp z).2;have t:=m.2.mpr ⟨g,nb⟩;obtain⟨b,y⟩:=Classical.not_forall.mp al;obtain⟨p,r⟩:=Classical.not_imp.mp y;rw[vK t,Zf,aj g,Dh s ⟨b,p,by simpa using r⟩]
   .have nb:¬be k=true:=λz=>g (m.1.mp z).1;have w:¬fr k=true:=λz=>g (m.2.mp z).1;obtain⟨x,o,e⟩:=ex;have o:x∈ks:=(aD.mp o).resolve_left λz=>g (z▸e);rw[tD w nb,Zf,ah g,Dh s ⟨x,o,e⟩]
end
section
variable{m r:Int}{C:hT}{D E o:fc}{A:fz}{H G K J:Int->Bool}{c O:fz}{I M:du}
structure ZJ(m:Int)(C:hT)(r:Int)(o:fc)(A:fz)(I:du)(H G:Int->Bool)(c:fz):Prop where
 et:cT m C r o A r=r::I
 or:Order m r o I
 hf:∀k,H k=(decide (Ξ m C r o A k*tup C o k=Ξ m C r o A (o k))&&decide (Zt m C r o A I (o k)≠some k))
 hb:∀k,G k=decide (Zt m C r o A I (o k)=some k)
 hc:∀k,c k=(tup C o k).toNat
theorem ZJ.Zf(B:ZJ m C r o A I H G c)(g:Good m C)(R:ε m C r o A)(p:0<=r)(n:r<m){v:Int}(d:0<=v)(f:v<m)(t:kd m C r o v≠[]):wy m C r o A H G c v=Pb.Zf (λk=>decide (Ξ m C r o A k*tup C o k=Ξ m C r o A (o k))) (λk g=>wy m C r o A H G c k (ϋ (c k) g)) (kd m C r o v):=by
 rw[sx g R d f];refine Dh (λj k a e=>?_) ?_
 .have km:∀x∈kd m C r o v,o x=v:=λx i=>((ce g R d f).mp i).2.2;have q:=km k (by rw[e];exact aY _ (.head _));have pv:∀b∈a,o b=v:=λb hb=>km b (by rw[e];exact aY _ (.tail _ hb));have s:=OV g R p n B.et B.or d f e;have l:G k=true↔decide (Ξ m C r o A k*tup C o k=Ξ m C r o A (o k))=true/\∀b∈a,decide (Ξ m C r o A b*tup C o b=Ξ m C r o A (o b))=false:=by
   rw[B.hb,q,decide_eq_true_iff,s,bD,fZ,List.any_eq_false];refine and_congr Iff.rfl ⟨λh b hb=>?_,λh b hb=>?_⟩
   .rw[pv b hb];exact jm.mpr (h b hb)
   .have:=h b hb;rw[pv b hb]at this;rw[this]
    decide
  refine⟨l,?_⟩;rw[B.hf,bD,B.hb];exact and_congr Iff.rfl ⟨λz y=>bF z (bF y),λz=>bE λy=>z (bE y)⟩
 .obtain⟨k,hk,e⟩:=MP g R d f t;exact⟨k,hk,bE (by rw[((ce g R d f).mp hk).2.2];exact e)⟩
theorem Ϟ.wy(N:Ϟ m D E)(g:Good m C)(R:ε m C r o A)(d:0<=r)(b:r<m)(B:ZJ m C r o A I H G c)(j:ZJ m (ϐ D C) (D r) (hV D E o) (ng E A) M K J O):∀(n:Nat)(v:Int),m.toNat-A v=n->0<=v->v<m->Pb.wy m (ϐ D C) (D r) (hV D E o) (ng E A) K J O (D v)=Pb.wy m C r o A H G c v
 | 0,v,e,h0,h1=>by
   have:=iJ R h0 h1
   lia
 | n+1,v,e,h0,h1=>by
   have pv:=(N.p v h0 h1).1;have u:=(N.p r d b).1;have q:=N.good g;have s:=N.Ω g R d b;have f:=N.kids g R d b h0 h1;have W:=N.Ξ g R d b;by_cases h:kd m C r o v=[]
   .rw[h]at f;rw[sx q s pv.1 pv.2,sx g R h0 h1,f.eq_nil,h]
    rfl
   .have kn':kd m (ϐ D C) (D r) (hV D E o) (D v)≠[]:=λz=>by
     rw[z]at f;exact h (mM.mp f.symm.eq_nil)
    rw[j.Zf q s u.1 u.2 pv.1 pv.2 kn',B.Zf g R d b h0 h1 h,SU f];refine KD λk F=>?_;obtain⟨a,l,y⟩:=(ce g R h0 h1).mp F;have x:=R.pos a.1 a.2 l;rw[y]at x;have t:tup (ϐ D C) (hV D E o) (D k)=tup C o k:=(by unfold tup;rw[(N.ϟ g R a.1 a.2 l).1]);have w:=(R.up k a.1 a.2 l).1;refine⟨?_,?_⟩
    .rw[t,W _ k rfl a.1 a.2,(N.bY (dep:=A) a.1 a.2).1,W _ (o k) rfl w.1 w.2]
    .funext i
     rw[Ϟ.wy N g R d b B j n k (by lia) a.1 a.2,j.hc,B.hc,t]
theorem Ϟ.ώ(N:Ϟ m D E)(g:Good m C)(R:ε m C r o A)(d:0<=r)(b:r<m){h a i f:du}(t:∀v,0<=v->v<m->a.getD (D v).toNat 0=h.getD v.toNat 0)(u:∀v,0<=v->v<m->f.getD (D v).toNat 0=i.getD v.toNat 0):Pb.Α m (ϐ D C) (D r) (hV D E o) (ng E A) (λv=>(dA m a f).getD v.toNat 0) (Τ (ϐ D C) (hV D E o)) (D r)=Pb.Α m C r o A (λv=>(dA m h i).getD v.toNat 0) (Τ C o) r:=by
 have s:=(N.p r d b).1;rw[Ax (N.good g) (N.Ω g R d b) s.1 s.2,Ax g R d b];refine N.Α g R d b (λv e l=>by rw[t v e l,u v e l]) (λk z j q n=>?_) _ r rfl d b;unfold Τ;rw[(N.ϟ g R j q n).1,(N.ϟ g R j q n).2]
theorem Ϟ.sum(N:Ϟ m D E){b a:du}(g:0<=m)(h:(b.length:Int)=m)(e:(a.length:Int)=m)(f:∀v,0<=v->v<m->a.getD (D v).toNat 0=b.getD v.toNat 0):a.sum=b.sum:=by
 rw[<-yj (show a.length=m.toNat by lia),<-yj (show b.length=m.toNat by lia),qH (N.bel.map _),ee];refine pN λv d=>?_;have d:=dX.mp d;exact f v d.1 (by lia)
theorem wp{F:fc}{v:Int}(a:0<=v)(b:v<m):((bG m.toNat).map F).getD v.toNat 0=F v:=by
 rw[bj,aG,fq (by lia),bW a]
 rfl
theorem Ϟ.always(N:Ϟ m D E)(g:Good m C)(R:ε m C r o A)(n:0<=r)(j:r<m){i d:du}(y0:∀y∈i,0<=y)(b:∀y∈d,0<=y)(hy:∀v,0<=v->v<m->d.getD (D v).toNat 0=i.getD v.toNat 0)(yr:0<i.getD r.toNat 0){q:Int}{a:fc}{s:fz}(Q:ε m (ϐ D C) q a s)(x:0<=q)(B:q<m)(yq:0<d.getD q.toNat 0):(ϲ m (ϐ D C) q a s (qU m (ϐ D C) q a s d) q (-1)).sum=(ϲ m C r o A (qU m C r o A i) r (-1)).sum:=by
 have u:=N.good g;have m1:=g.m1;have R':=N.Ω g R n j;have L:=(N.p r n j).1;obtain⟨Z,S,a3⟩:=Pb.aag g R n j y0 yr rfl;obtain⟨T,U,b3⟩:=Pb.aag u Q x B b yq rfl;generalize eX:ϲ m C r o A (qU m C r o A i) r (-1)=X at Z S a3 ⊢;generalize eY:ϲ m (ϐ D C) q a s (qU m (ϐ D C) q a s d) q (-1)=Y at T U b3 ⊢;have W:∀{l:du}(f:fc),(∀z∈l,0<=z)->∀z∈(bG m.toNat).map λw=>l.getD (f w).toNat 0,0<=z:=λf h z hz=>by
  obtain⟨w,_,rfl⟩:=aR.mp hz;exact DT h _
 have t:∀F:Int->Int,(((bG m.toNat).map F).length:Int)=m:=λF=>by rw[ag,bR];lia
 refine Int.le_antisymm (Classical.byContradiction λz=>?_) (Classical.byContradiction λz=>?_)
 .have hx:∀v,0<=v->v<m->Y.getD (D v).toNat 0=((bG m.toNat).map λv=>Y.getD (D v).toNat 0).getD v.toNat 0:=λv P V=>(wp (F:=λv=>Y.getD (D v).toNat 0) P V).symm;have sm:=N.sum (by lia) (t _) T hx;have k:=EL g R n j (t λv=>Y.getD (D v).toNat 0) (W D U) y0 yr (by rw[eX];lia);rw[<-N.ώ g R n j hx hy]at k;have:=J5 u R' L.1 L.2 Q x B T U b k
  lia
 .have hx:∀v,0<=v->v<m->((bG m.toNat).map λw=>X.getD (E w).toNat 0).getD (D v).toNat 0=X.getD v.toNat 0:=λv P V=>by
   have:=N.p v P V;rw[wp this.1.1 this.1.2,this.2]
  have sm:=N.sum (by lia) Z (t _) hx;have k:=EL u Q x B (t λw=>X.getD (E w).toNat 0) (W E S) b yq (by rw[eY];lia);have k2:=J5 u Q x B R' L.1 L.2 (t λw=>X.getD (E w).toNat 0) (W E S) b k;have e:=N.ώ g R n j hx hy;have ak:Pb.Α m C r o A (λv=>(dA m X i).getD v.toNat 0) (Τ C o) r=-1:=a3;have k3:0<=Pb.Α m (ϐ D C) (D r) (hV D E o) (ng E A) (λv=>(dA m ((bG m.toNat).map λw=>X.getD (E w).toNat 0) d).getD v.toNat 0) (Τ (ϐ D C) (hV D E o)) (D r):=k2
  lia
theorem Ε.ren{os:du}(L:Ε m.toNat os):∃E,Ϟ m (rw_ os) E:=⟨λw=>Classical.epsilon λu=>0<=u/\u<m/\rw_ os u=w,λv a b=>⟨X4 L a b,by
 have s:=Classical.epsilon_spec (⟨v,a,b,rfl⟩:∃u,0<=u/\u<m/\rw_ os u=rw_ os v);exact Xd L s.1 s.2.1 a b s.2.2⟩,λv a b=>by
 have s:=Classical.epsilon_spec (U5 L a b);exact⟨⟨s.1,s.2.1⟩,s.2.2⟩⟩
theorem Ϟ.put{os:du}(N:Ϟ m (rw_ os) E){g:Type}{f:g->V}{a:List g}(d:g)(p:(a.length:Int)=m){b:List V}(l:b.length=(a.map f).length)(n:∀(i:Nat) (x:V),(a.map f)[i]?=some x->b[(os.getD i 0).toNat]?=some x):b=((bG m.toNat).map λw=>a.getD (E w).toNat d).map f:=by
 rw[ag]at l;refine dJ λj=>?_;by_cases c:j<b.length
 .obtain⟨⟨u0,u1⟩,e⟩:=N.q (j:Int) (by lia) (by lia);have k:(E (j:Int)).toNat<a.length:=by lia
  have h:=n (E (j:Int)).toNat (f (a.getD (E (j:Int)).toNat d)) (by rw[aG,bj,aA k];rfl);rw[show os.getD (E (j:Int)).toNat 0=(j:Int)from e,cu]at h;rw[h,aG,aG,fq (by lia)]
  rfl
 .rw[bn (by lia),bn (by rw[ag,ag,bR];lia)]
theorem Ia{b d g:Type}{R:d->g->Prop}{f:b->d}{h:b->g}:∀{l:List b},(∀w∈l,R (f w) (h w))->Paired R (l.map f) (l.map h)
 | [],_=>.nil
 | a::l,e=>.cons (e a (.head _)) (Ia λw i=>e w (.tail _ i))
theorem Hu{f g:Type}{R:f->g->Prop}{d:f}{e:g}:∀{l:List f}{l':List g}{i:Nat},Paired R l l'->i<l.length->R (l.getD i d) (l'.getD i e)
 | _,_,0,.cons h _,_=>h
 | a::l,b::l',i+1,.cons _ t,hi=>show R (l.getD i d) (l'.getD i e)from Hu (l:=l) (l':=l') (i:=i) t (Nat.lt_of_succ_lt_succ hi)
theorem Ϟ.shs(N:Ϟ m D E)(g:Good m C){F n:Int->Int->Rat}{b:List (Int×Int)}(S:Shs m C F b)(p:∀u x,0<=u->u<m->0<=x->x<m->n (D u) (D x)=F u x):Shs m (ϐ D C) n ((bG m.toNat).map λw=>b.getD (E w).toNat (0,1)):=by
 have m1:=g.m1;have y:=S.len;refine⟨by rw[ag,bR];lia,λf j=>?_,λi f j=>?_⟩
 .obtain⟨w,a,rfl⟩:=aR.mp j;have a:=dX.mp a;obtain⟨⟨h,k⟩,_⟩:=N.q w a.1 (by lia);have d:(E w).toNat<b.length:=by lia
  refine S.one _ ?_;rw[bj,aA d];exact cZ d
 .rw[aG]at j;obtain⟨w,a,rfl⟩:=bN.mp j;have l:=(aw.mp a).1;rw[bR]at l;rw[fq l]at a;have a:(i:Int)=w:=bq a;subst a;obtain⟨⟨h,k⟩,e⟩:=N.q (i:Int) (by lia) (by lia);have d:(E (i:Int)).toNat<b.length:=by lia
  have v:=S.val (E (i:Int)).toNat (b.getD (E (i:Int)).toNat (0,1)) (by rw[bj,aA d];rfl);rw[bW h]at v;rw[v,<-N.shr g h k λx s t=>p (E (i:Int)) x h k s t,e]
end
end Pb
set_option maxHeartbeats 4000000
namespace Pk
open PySem L2 Pb
seal L2.PSs L2.PS L2.PE L2.PT L2.PW L2.PA L2.PG L2.PGs L2.PI L2.PTs L2.PC L2.PPs L2.PO
abbrev top(i:Nat):Stmt:=Hd.top i
local macro_rules|`(tactic| walk_at "") => `(tactic| ((try dsimp only [aej, Ev, Ka, Ej, Qa, Ly, QE, K8, L4, Mg, Rt, S8, MO, Eo, Td, K0, abz, DM, vL, LM, L6, adV, PB, Mq, Qx, ipI, Su, Mn, CH, tB, Cf, tC, xK, tOp, tUn, rI0, rI, rU, rEq, rNe, wf, LN, Mx, adY, OT, Q5, tCB, tBM, PY, OS, Sz, Dc, KN, Mf, xW, QI, tOr, Ti, LR, List.nil_append, List.append_nil, List.set_cons_zero, List.set_cons_succ, List.getElem?_cons_zero, List.getElem?_cons_succ]);(try simp only [aej, Ev, Ka, Ej, Qa, Ly, QE, K8, L4, Mg, Rt, S8, MO, Eo, Td, K0, abz, DM, vL, LM, L6, adV, PB, Mq, Qx, ipI, Su, Mn, CH, tB, Cf, tC, xK, tOp, tUn, rI0, rI, rU, rEq, rNe, UF, Ug, TV, U8, UQ, TY, wf, LN, Mx, adY, OT, Q5, tCB, tBM, PY, OS, Sz, Dc, KN, Mf, xW, QI, tOr, Ti, LR, List.nil_append, List.append_nil, List.set_cons_zero, List.set_cons_succ, List.getElem?_cons_zero, List.getElem?_cons_succ, Option.some.injEq, V.int.injEq, V.bl.injEq, V.ref.injEq, List.cons.injEq, exists_eq_left, exists_eq_left', exists_and_left, exists_const, and_true, true_and, decide_eq_true_eq, Bool.not_eq_true', decide_eq_false_iff_not, Bool.true_eq_false, Bool.false_eq_true, if_true, if_false])))
local macro_rules|`(tactic| walk_at "v") => `(tactic| (intro _ _ _ _ h;first|(cases h;(have q := ‹_ = _ /\ _›);rw [q.1];rfl)|((repeat (obtain ⟨_, h⟩ := h));subst_vars;rfl)))
local macro_rules|`(tactic| walk_at "s") => `(tactic| simp only [L2.start, List.map_cons, List.map_nil, List.length_cons, List.length_nil, Nat.reduceAdd, Nat.reduceSub, List.replicate_succ, List.replicate_zero, List.cons_append, List.nil_append])
set_option genSizeOf false in
set_option genInjectivity false in
structure Txt(K:gx)(mg:hL) where
 TollError:Addr
 Ye:mg "TollError"=some (.ref TollError)
 BadWeb:Addr
 YK:mg "BadWeb"=some (.ref BadWeb)
 NoPlace:Addr
 NB:mg "NoPlace"=some (.ref NoPlace)
 NoRoad:Addr
 Sc:mg "NoRoad"=some (.ref NoRoad)
 BadLaying:Addr
 IH:mg "BadLaying"=some (.ref BadLaying)
 BadWish:Addr
 EA:mg "BadWish"=some (.ref BadWish)
 NoWorst:Addr
 MW:mg "NoWorst"=some (.ref NoWorst)
 Web:Addr
 Tv:mg "Web"=some (.ref Web)
 Outlook:Addr
 OO:mg "Outlook"=some (.ref Outlook)
 Tally:Addr
 Uz:mg "Tally"=some (.ref Tally)
 zt:aes K TollError
 Ik:As K TollError BadWeb
 D8:As K TollError NoPlace
 xT:rD K NoPlace
 Gu:As K TollError NoRoad
 AE:rD K NoRoad
 zL:As K TollError BadLaying
 uF:rD K BadLaying
 Eb:As K TollError BadWish
 tJ:rD K BadWish
 Ey:As K TollError NoWorst
 xN:rD K NoWorst
 ndx:[TollError,BadWeb,NoPlace,NoRoad,BadLaying,BadWish,NoWorst].Nodup
 range:mg "range"=none
 zip:mg "zip"=none
 len:mg "len"=none
 all:mg "all"=none
 int:mg "int"=none
 tuple:mg "tuple"=none
 list:mg "list"=none
 reversed:mg "reversed"=none
 sorted:mg "sorted"=none
 min:mg "min"=none
 max:mg "max"=none
 enumerate:mg "enumerate"=none
 sum:mg "sum"=none
 abs:mg "abs"=none
 set:mg "set"=none
 Zw:∃t,mg "MOST_PLACES"=some (.int 24 t)
 ZQ:∃t,mg "LEAST_TOLL"=some (.int 2 t)
 aaj:∃t,mg "MOST_TOLL"=some (.int 1000000 t)
 ONE:Addr
 TB:mg "ONE"=some (.ref ONE)
 Tr:acM K ONE [.int 1,.int 1]
 jA:Cls K Web
 ό:Θ K Web "many"
 ZR:Θ K Web "roads"
 f8:Cls K Outlook
 Γ:Θ K Outlook "web"
 yK:Θ K Outlook "needs"
 Ν:Θ K Outlook "kids"
 aaD:Θ K Outlook "idle"
 gW:Cls K Tally
 Φ:Θ K Tally "web"
 NR:Θ K Tally "down"
 ZK:Θ K Tally "weights"
 xD:Θ K Tally "bearers"
 Ϙ:Θ K Tally "kids"
 ZS:Θ K Tally "rests"
section
variable{P:Program}{w:World}{K:gx}{I:hL}{base:Heap}{CX:ZL}
def ud(T:Txt K I):Sp:=λb H Q _=>E3 λ(m:Int)(t:Addr)(a:List V)=>b=[.int m,.ref t]/\Κ K H t a/\1<=m/\m<=24/\(a.length:Int)=m-1/\Q .ς H
abbrev md:Stmt:=top 17
theorem BM:η ["many","roads"] ["many","roads"] (aB md):=.of
theorem mw:ϛ (aB md) "MOST_PLACES":=.of (by kernel_rfl)
theorem Bm(T:Txt K I)(n:bU (ψ P w)):Ok P w K I base "check_counts" md ["many","roads"] 1 (ud T):=λ_ _ D=>by
 refine D.F.ϓ BM (by walk_at "v") λf A a s H i Q E l h=>?_;obtain⟨m,t,b,rfl,c,e,o,j,k⟩:=h;refine⟨_,(aI (fh (sH (G2 CF CF aQ (ζ 0) (Ag mw.g T.Zw (hd:=mw.d)))) (aM qM) dI) (aM (fh (lE vE (pcb jF T.len (aa (ζ 1) au)) (bi jS (ζ 0) aQ)) (aM qM) dI))),?_⟩;walk_at "s";walk_at "";rw[aj e,ah (by lia)];exact⟨b,.inr c,by rw[ah (by lia)];exact k⟩
def uq(T:Txt K I):Sp:=λa H Q _=>∃m n:Int,a=[.int m,.int n]/\Q (.bl (decide (0<=n)&&decide (n<m))) H
abbrev qp:Stmt:=top 16
theorem Ju:η ["many","number"] ["many","number"] (aB qp):=.of
theorem Iz(T:Txt K I)(f:bU (ψ P w)):Ok P w K I base "is_place" qp ["many","number"] 1 (uq T):=λ_ _ D=>by
 refine D.F.ϓ Ju (by walk_at "v") λb A a s H d Q E e h=>?_;obtain⟨m,n,rfl,k⟩:=h;refine⟨_,(aM (bM (PL CF Fz aQ (ζ 1) (ζ 0)))),?_⟩;walk_at "s";walk_at "";by_cases c:0<=n
 .simpa[c]using k
 .simpa[c]using k
def wA(T:Txt K I):Sp:=λc H Q _=>E3 λ(m:Int)(p:Addr)(r:Road)=>c=[.int m,.ref p]/\H p=some (.tup (lL r))/\0<=r.a/\r.a<m/\0<=r.b/\r.b<m/\r.a≠r.b/\Q .ς H
abbrev pP:Stmt:=top 18
theorem Fi:η ["many","road"] ["many","road"] (aB pP):=.of
theorem Fv(T:Txt K I)(g:bU (ψ P w))(e:Cb P w K I base "is_place" qp ["many","number"] 1 (uq T)):Ok P w K I base "check_ends" pP ["many","road"] 2 (wA T):=λ_ _ D=>by
 refine D.F.ϓ Fi (by walk_at "v") λo A d s H q Q E f h=>?_;obtain⟨m,p,r,rfl,c,j,i,l,n,ne,k⟩:=h;refine⟨_,(aI (fh (PW.pt (Yq (sH (pR (Η e f g (aa (ζ 0) (aa (Ι jT (ζ 1) aQ) au))))) (Wy (sH (pR (Η e f g (aa (ζ 0) (aa (Ι jT (ζ 1) aQ) au)))))))) (aM qM) dI) (aM (fh (lE kG (Ι jT (ζ 1) aQ) (Ι jT (ζ 1) aQ)) (aM qM) dI))),?_⟩;walk_at "s";walk_at "";refine ixT c rfl ⟨m,r.a,rfl,_,rfl,?_⟩;rw[ah (by simp[j,i])];refine ixT c rfl ⟨m,r.b,rfl,_,rfl,?_⟩;rw[ah (by simp[l,n])];refine ixT c rfl (ixT c rfl ⟨rfl,?_⟩);rw[ah (by simpa using ne)];exact k
def rG(T:Txt K I):Sp:=λd H Q _=>E4 λ(t:Addr)(c:g9)(a:hT)(n:Int)=>d=[.ref t,.int n]/\Κ K H t (c.map V.ref)/\ξ H c a/\a.length<=1000/\∀l b,H l=none->δ H b->b l=some (.lst ((fM a n).map V.int))->Q (.ref l) b
abbrev nN:Stmt:=top 21
theorem Fe:η ["roads","place","ends","road"] ["roads","place"] (aB nN):=.of
theorem EY(T:Txt K I)(Z:bU (ψ P w)):Ok P w K I base "other_ends" nN ["roads","place"] 1 (rG T):=λ_ _ D=>by
 refine D.F.ϓ Fe (by walk_at "v") λU A G s H W Q E Y h=>?_;obtain⟨t,O,c,n,rfl,J,L,X,k⟩:=h;refine⟨_,(aI (Μ 2 (fG au)) (aI (fV PassesOwn.never rfl (xg (ζ 0)) (ϫ 3) (aI (fh (lE kG (Ι jT (ζ 3) aQ) (ζ 1)) (aM (fD (oB PySem.F.plainAttrs_list PySem.F.slot_list_append PySem.F.type_list_append ip (ζ 2) (aa (Ι jT (ζ 3) aQ) au)))) dI) (aM (fh (lE kG (Ι jT (ζ 3) aQ) (ζ 1)) (aM (fD (oB PySem.F.plainAttrs_list PySem.F.slot_list_append PySem.F.type_list_append ip (ζ 2) (aa (Ι jT (ζ 3) aQ) au)))) dI)))) (aM (bM (ζ 2))))),?_⟩;walk_at "s";walk_at "";refine⟨by decide,λl j=>?_⟩;have m:O.length=c.length:=Paired.length L;refine⟨⟨_,δ.tup (δ.new _ j) J⟩,yB (xs:=O.map V.ref) (λi q y=>y=upd H l (.lst ((fM (c.take i) n).map V.int))/\∃v,q=[some (.ref t),some (.int n),some (.ref l),v]) ⟨rfl,_,rfl⟩ (λi q y _ z=>by rw[z.1];exact δ.tup (δ.new _ j) J) ?_ ?_⟩
 .rintro i x q y hi ⟨rfl,v,rfl⟩;obtain⟨p,r,rfl,h1,N,M⟩:=L.get hi;have S:p≠l:=cJ M j;have R:i<c.length:=(aw.mp N).1;have B:c.take (i+1)=c.take i++[r]:=by rw[bp,N];rfl
  have hb:(fM (c.take i) n).length<=2000:=bw (HA _ _) (by rw[bA];lia);have f:∀o,upd H l o p=some (.tup (lL r)):=λo=>by rw[aL S];exact M
  walk_at "";refine ixT (f _) rfl ?_;walk_at "";have d:∀(C:du),(fM (c.take i) n++C)=fM (c.take (i+1)) n->upd H l (.lst ((fM (c.take i) n).map V.int++C.map V.int))=upd H l (.lst ((fM (c.take (i+1)) n).map V.int)):=λC e=>by
   rw[<-aE,e]
  have u:uc n r=(if r.a=n then[r.b]else[])++(if r.b=n then[r.a]else[]):=rfl;by_cases g:r.a=n
  .rw[aj g];refine⟨Z0 az,ixT (f _) rfl (uj az (eW (by rw[ag];lia)) ?_)⟩;rw[sd];refine ixT (f _) rfl ?_;walk_at "";by_cases cb:r.b=n
   .rw[aj cb];refine⟨Z0 az,ixT (f _) rfl (uj az (eW (by rw[aN,ag];simp;lia)) ?_)⟩;rw[sd,c7];exact⟨d [r.b,r.a] (by rw[B,tR,u,aj g,aj cb];rfl),_,rfl⟩
   .rw[ah cb];exact⟨d [r.b] (by rw[B,tR,u,aj g,ah cb];rfl),_,rfl⟩
  .rw[ah g];refine ixT (f _) rfl ?_;walk_at "";by_cases cb:r.b=n
   .rw[aj cb];refine⟨Z0 az,ixT (f _) rfl (uj az (eW (by rw[ag];lia)) ?_)⟩;rw[sd];exact⟨d [r.a] (by rw[B,tR,u,ah g,aj cb];rfl),_,rfl⟩
   .rw[ah cb];have:=d [] (by rw[B,tR,u,ah g,ah cb];rfl);rw[eu,b4]at this;exact⟨this,_,rfl⟩
 .rintro q y ⟨rfl,v,rfl⟩;rw[ag,m,bC];exact⟨_,rfl,k l _ j (δ.new _ j) az⟩
def oA(a:du):List (Key×V):=a.map λk=>((Sum.inl k:Key),V.bl true)
theorem EH(a:du):(oA a).length=a.length:=by unfold oA;rw[ag]
theorem F3(a:du)(e:Int):qC (oA a) (Sum.inl e:Key)=if e∈a then some (V.bl true)else none:=by
 unfold oA
 induction a with
 | nil=>rfl
 | cons k a ih=>
   rw[aF];by_cases c:k=e
   .rw[wt (by rw[c]),aj (by rw[c];exact ax)]
   .rw[we (λz=>c (Sum.inl.inj z)),ih];by_cases d:e∈a
    .rw[aj d,aj (aq _ d)]
    .rw[ah d,ah (λz=>by rcases aD.mp z with z|z;exact c z.symm;exact d z)]
theorem S3{a:du}{e:Int}(h:e∉a):m6 (oA a) (Sum.inl e:Key) (V.bl true)=oA (a++[e]):=by
 rw[PH _ (by rw[F3,ah h])];unfold oA;rw[aE]
 rfl
def tH(T:Txt K I):Sp:=λd H Q _=>E4 λ(m:Int)(t:Addr)(c:g9)(a:hT)=>d=[.int m,.ref t]/\Κ K H t (c.map V.ref)/\ξ H c a/\Good m a/\∀b,δ H b->Q .ς b
abbrev ou:Stmt:=top 20
theorem Bu:η ["many","roads","reached","waiting","place","end"] ["many","roads"] (aB ou):=.of
theorem Bf(T:Txt K I)(hq:bU (ψ P w))(lX:Cb P w K I base "other_ends" nN ["roads","place"] 1 (rG T)):Ok P w K I base "check_joined" ou ["many","roads"] 2 (tH T):=λ_ _ D=>by
 refine D.F.ϓ Bu (by walk_at "v") λχ A ac s H vs Q E hr h=>?_;obtain⟨m,t,ps,r,rfl,ht,hp,g,k⟩:=h;have hu:=Yo hr;refine⟨_,(aI (Μ 2 (T5 (Pz aQ Cd Uu) rfl rfl (List.cons_ne_nil _ _) (by decide))) (aI (Μ 3 (fG (aa aQ au))) (aI (tx PassesOwn.never (vQ (ζ 3) (λ_=>rfl)) (aI (Μ 4 (Gw PySem.F.plainAttrs_list PySem.F.slot_list_pop PySem.F.type_list_pop Hi (ζ 3))) (aM (fV PassesOwn.never rfl (jM (Η lX hr hq (aa (ζ 1) (aa (ζ 4) au)))) (ϫ 5) (aM (fh (X0 (NV hu (ζ 5) (ζ 2))) (aI (Uc hu (ζ 2) (ζ 5) Cd rfl) (aM (fD (oB PySem.F.plainAttrs_list PySem.F.slot_list_append PySem.F.type_list_append ip (ζ 3) (aa (ζ 5) au))))) dI)))))) (aM (fh (lE vE (pcb Ox T.len (aa (ζ 2) au)) (ζ 0)) (aM qM) dI))))),?_⟩;walk_at "s";have m1:=g.m1;have Ο:=g.Ο;have a4:=g.len;walk_at "";intro d hd;refine⟨az,[(Sum.inl 0,.bl true)],rfl,by decide,?_⟩;rw[sd];refine⟨by decide,λu R=>?_⟩;have ed:uI [] [((Sum.inl 0:Key),V.bl true)]=oA [0]:=rfl;rw[ed];have v:u≠d:=λz=>by rw[z,az]at R;cases R
 have U:H u=none:=by rw[aL v]at R;exact R
 refine C6 (λn N Y=>E4 λ(C O:du)(v4 G:Option V)=>n=2*(m.toNat-C.length)+O.length/\N=[some (.int m),some (.ref t),some (.ref d),some (.ref u),v4,G]/\δ H Y/\Y d=some (.dK (oA C))/\Y u=some (.lst (O.map V.int))/\aae m r C O) _ ⟨[0],[0],none,none,rfl,rfl,?_,?_,az,aae.start m1⟩ ?_
 .exact δ.trans (δ.new _ hd) (δ.new _ R)
 .rw[aL v.symm,az]
 rintro n N Y NW hN X ⟨C,O,v4,G,rfl,rfl,sm,h1,S,J⟩;have kl:=gZ (by lia) J.nd J.Δ;refine⟨_,rfl,!(O.map V.int).isEmpty,.inl ⟨_,ν.of S,rfl⟩,?_⟩;rcases jv O with rfl|⟨j,p,rfl⟩
 .-- nothing aoa: all places have a8 reached
  have a1:=J.all m1 g.jn;refine Vj ?_;walk_at "";refine⟨oA C,h1,?_⟩;rw[EH,ah (by lia)];exact k _ sm
 .rw[jC]at J S hN X ⊢;have e1:(!(List.map V.int (j++[p])).isEmpty)=true:=by simp
  rw[e1];refine Wc ⟨NW,X,?_⟩;walk_at "";rw[aE,aF,eu]at S;refine⟨Z0 S,Sq S ?_⟩;have L:d≠u:=v.symm;have y:δ H (upd Y u (.lst (j.map V.int))):=λb o e=>by rw[aL (cJ e U)];exact sm b o e
  refine⟨t,ps,r,p,rfl,δ.tup y ht,ξ.same y hp,by lia,λl H3 hn s3 hl=>?_⟩;have Z:u≠l:=cJ (o:=.lst (j.map V.int)) az hn;have ai:d≠l:=cJ (o:=.dK (oA C)) (by rw[aL L];exact h1) hn;have be:H l=none:=y.free hn;refine⟨l,rfl,⟨_,ν.of hl⟩,yo (K:=K) (xs:=(fM r p).map V.int) (λi N B=>∃(G:Option V),N=[some (.int m),some (.ref t),some (.ref d),some (.ref u),some (.int p),G]/\δ H B/\B l=some (.lst ((fM r p).map V.int))/\∃a f:List Int,B d=some (.dK (oA a))/\B u=some (.lst (f.map V.int))/\ZP m r p ((fM r p).take i) a f C j.length) ?_ (λi N B _ z=>by obtain⟨_,_,_,z,_⟩:=z;exact ν.of z) ?_ ?_⟩
  .refine⟨_,rfl,y.trans s3,hl,C,j,?_,?_,?_⟩
   .exact s3 _ _ (by rw[aL L];exact h1)
   .exact s3 _ _ az
   .rw[dY];exact ZP.start J
  .rintro i x N B NI hI hi ⟨G,rfl,s4,hl4,a,f,hd4,hw4,M⟩;rw[aG]at hi;obtain⟨e,he,rfl⟩:∃e,(fM r p)[i]?=some e/\V.int e=x:=by
    cases q:(fM r p)[i]? with
    | none=>rw[q]at hi;cases hi
    | some e=>rw[q]at hi;exact⟨e,rfl,bq hi⟩
   have er:=R1 g.ok (aX he);have et:(fM r p).take (i+1)=(fM r p).take i++[e]:=(by rw[bp,he];rfl);have st:=M.step er.1 er.2;have k4:=gZ (by lia) M.nd M.Δ;have ad:=M.mu;walk_at "";refine⟨_,abG.k (k:=Sum.inl e) hd4,?_⟩;rw[F3];by_cases c:e∈a
   .rw[aj c];rw[ah (by simp)];refine hI _ _ ⟨_,rfl,s4,hl4,a,f,hd4,hw4,?_⟩;rw[et];unfold Be at st;rw[aj c]at st;exact st
   .rw[ah c];rw[aj (by simp)];refine⟨_,abH.k (k:=Sum.inl e) hd4 (eW (by rw[EH];lia)),?_⟩;rw[S3 c];have W:upd B d (.dK (oA (a++[e]))) u=some (.lst (f.map V.int)):=(by rw[aL v];exact hw4);refine⟨Z0 W,uj W (eW (by rw[ag];have:=M.wl;lia)) ?_⟩;have a6:=M.mu;refine hI _ _ ⟨_,rfl,λb o z=>?_,?_,a++[e],f++[e],?_,?_,?_⟩
    .rw[aL (cJ z U),aL (cJ z hd)];exact s4 b o z
    .rw[aL Z.symm,aL ai.symm];exact hl4
    .rw[aL L,az]
    .rw[az,aE];rfl
    .rw[et];unfold Be at st;rw[ah c]at st;exact st
  .rintro N B ⟨G,rfl,s4,hl4,a,f,hd4,hw4,M⟩;rw[ag,bC]at M;have k4:=gZ (by lia) M.nd M.Δ;have ad:=M.mu;have a2:=M.up;refine hN _ _ _ ?_ ⟨a,f,some (.int p),G,rfl,rfl,s4,hd4,hw4,M.done⟩;rw[aN];simp only[ba,dU]
   lia
def vc(T:Txt K I):Sp:=λb H Q _=>∃(p:Addr)(r:Road),b=[.ref p]/\H p=some (.tup (lL r))/\2<=r.t/\r.t<=1000000/\2<=r.u/\r.u<=1000000/\∀a,δ H a->Q .ς a
abbrev kM:Stmt:=top 19
theorem DE:η ["road","number"] ["road"] (aB kM):=.of
theorem nF:ϛ (aB kM) "LEAST_TOLL":=.of (by kernel_rfl)
theorem nZ:ϛ (aB kM) "MOST_TOLL":=.of (by kernel_rfl)
theorem CO(T:Txt K I)(N:bU (ψ P w)):Ok P w K I base "check_tolls" kM ["road"] 1 (vc T):=λ_ _ D=>by
 refine D.F.ϓ DE (by walk_at "v") λG A c s H L Q E M h=>?_;obtain⟨p,r,rfl,f,C,m,B,o,k⟩:=h;refine⟨_,(aM (fV PassesOwn.never rfl (xg (tj (aa (Ι jT (ζ 0) aQ) (aa (Ι jT (ζ 0) aQ) au)))) (ϫ 1) (aM (fh (sH (G2 CF CF (Ag nF.g T.ZQ (hd:=nF.d)) (ζ 1) (Ag nZ.g T.aaj (hd:=nZ.d)))) (aM qM) dI)))),?_⟩;walk_at "s";walk_at "";refine ixT f rfl (ixT f rfl ⟨dL (by simp),λq l=>?_⟩);have e:upd H q (.tup [.int r.t,.int r.u]) q=some (.tup [.int r.t,.int r.u]):=az;refine⟨⟨_,Κ.of e⟩,yB (K:=K) (xs:=[.int r.t,.int r.u]) (λi a b=>b=upd H q (.tup [.int r.t,.int r.u])/\∃v,a=[some (.ref p),v]) ⟨rfl,_,rfl⟩ (λi a b _ z=>by rw[z.1];exact Κ.of e) ?_ ?_⟩
 .rintro i x a b hi ⟨rfl,v,rfl⟩;have j:∃n:Int,x=.int n/\2<=n/\n<=1000000:=by
   match i,hi with
   | 0,hi=>exact⟨r.t,by simpa using hi.symm,C,m⟩
   | 1,hi=>exact⟨r.u,by simpa using hi.symm,B,o⟩
  obtain⟨n,rfl,y,J⟩:=j;walk_at "";rw[aj y,ah (by lia)];exact⟨_,rfl⟩
 .rintro a b ⟨rfl,v,rfl⟩;exact k _ (δ.new _ l)
def BI(m:Int)(t:Addr):List (Str×V):=bf "roads" (.ref t) (bf "many" (.int m) [])
theorem Yv:¬(("many":Str)="roads"):=by decide +kernel
theorem hZ(m:Int)(t:Addr):(BI m t).lookup ("many":Str)=some (.int m):=by
 unfold BI;rw[bT,ah Yv,bT,aj rfl]
theorem zJ(m:Int)(t:Addr):(BI m t).lookup ("roads":Str)=some (.ref t):=by
 unfold BI;rw[bT,aj rfl]
structure ι(C:Addr)(H:Hp)(p:Addr)(m:Int)(t:Addr)(ps:g9)(rs:hT):Prop where
 ob:∃dx,H p=some (.ins C dx (BI m t))
 tu:H t=some (.tup (ps.map V.ref))
 ro:ξ H ps rs
 go:Good m rs
theorem ι.same{C:Addr}{H b:Hp}{p:Addr}{m:Int}{t:Addr}{c:g9}{a:hT}(e:δ H b)(h:ι C H p m t c a):ι C b p m t c a:=⟨let ⟨dx,q⟩:=h.ob;⟨dx,e _ _ q⟩,e _ _ h.tu,ξ.same e h.ro,h.go⟩
def qk(T:Txt K I):Sp:=λh H Q _=>E7 λ(p g:Addr)(m:Int)(c:Bool)(a:Addr)(f:g9)(d:hT)=>h=[.ref p,.int m,.ref a]/\H p=some (.ins T.Web g [])/\ϑ K c H a (f.map V.ref)/\ξ H f d/\Good m d/\∀t e,H t=none->ι T.Web e p m t f d->(∀b o,H b=some o->b≠p->e b=some o)->Q .ς e
abbrev je:Stmt:=DB (top 12) 0
theorem B8:η ["self","many","roads","kept","road"] ["self","many","roads"] (aB je):=.of
theorem AY(T:Txt K I)(D:bU (ψ P w)){f:Addr}{fd:FuncData}(F:Fun K "__init__" "Web.__init__" je f fd)(qD:Cb P w K I base "check_counts" md ["many","roads"] 1 (ud T))(tz:Cb P w K I base "check_ends" pP ["many","road"] 2 (wA T))(qG:Cb P w K I base "check_joined" ou ["many","roads"] 2 (tH T))(rF:Cb P w K I base "check_tolls" kM ["road"] 1 (vc T)):Ψ P w K I base (ψ P w) 3 f fd ["self","many","roads"] (qk T):=by
 refine F.ϓ B8 (by walk_at "v") λχ A U s H vs Q E R h=>?_;obtain⟨p,W,m,c,a,d,rs,rfl,X,ha,j,g,k⟩:=h;refine⟨_,(aI (Μ 3 (pct mO T.tuple (aa (g6 rfl (vX (Nc:=["road"]) 1 (by decide +kernel) (by decide +kernel) rfl (by decide +kernel) rfl) (u8 c (ζ 2)) (λ_ _ _ _=>(eE (i:=0) (show(["road"]:hO).Nodup from by decide +kernel) rfl (Or.inl rfl))) (λ_ _ _ _=>gP) (λ_ _ _ _=>(EI (DJ K rfl) (by rfl) T.tuple O1 (aa (pv 0) au)))) au))) (aI (fD (Η qD R D (aa (ζ 1) (aa (ζ 3) au)))) (aI (fV PassesOwn.never rfl (xg (ζ 3)) (ϫ 4) (aI (fD (Η tz R D (aa (ζ 1) (aa (ζ 4) au)))) (aM (fD (Η rF R D (aa (ζ 4) au)))))) (aI (fD (Η qG R D (aa (ζ 1) (aa (ζ 3) au)))) (aI (mN (ζ 0) (ζ 1) rfl) (aM (mN (ζ 0) (ζ 3) rfl))))))),?_⟩;walk_at "s";walk_at "";refine⟨⟨_,ha⟩,λl O=>?_⟩;have af:d.length=rs.length:=Paired.length j;have av:=g.len;have Ο:=g.Ο;have aS:δ H (upd H l (.lst [])):=δ.new _ O;refine nS (K:=K) (xs:=d.map V.ref) (λi J u S=>S=upd H l (.lst ((d.take i).map V.ref))/\J=(d.take i).map V.ref/\∃v,u=[v]) ⟨rfl,rfl,_,rfl⟩ (λi J u S _ ⟨z,_⟩=>by rw[z];exact δ.Ac (δ.new _ O) ha) ?_ ?_
 .rintro i x J u S N hN hi ⟨rfl,rfl,v,rfl⟩;obtain⟨q,r,rfl,h1,h2,G⟩:=j.get hi;have nq:q≠l:=cJ G O;have a4:i<d.length:=(aw.mp h1).1;have et:d.take (i+1)=d.take i++[q]:=by rw[bp,h1];rfl
  walk_at "";refine⟨lL r,.inr ⟨Κ.of (by rw[aL nq];exact G),az,eW (by rw[ag,bA];lia),hN _ _ _ ⟨?_,?_,_,rfl⟩⟩⟩
  .rw[sd,et,aE];rfl
  .rw[et,aE];rfl
 .rintro J u S ⟨rfl,rfl,v,rfl⟩;rw[ag,bC];refine⟨l,rfl,d.map V.ref,.inl ⟨ν.of az,λt ht=>?_⟩⟩;have Y:δ H (upd H l (.lst (d.map V.ref))):=δ.new _ O;have s2:δ (upd H l (.lst (d.map V.ref))) (upd (upd H l (.lst (d.map V.ref))) t (.tup (d.map V.ref))):=δ.new _ ht;have C:H t=none:=Y.free ht;have y:∀{H':Hp},δ (upd (upd H l (.lst (d.map V.ref))) t (.tup (d.map V.ref))) H'->H' t=some (.tup (d.map V.ref)):=λe=>e _ _ az;refine⟨m,t,d.map V.ref,rfl,Κ.of az,g.m1,g.Ο,by rw[ag];lia,⟨_,Κ.of az⟩,?_⟩;refine GU (K:=K) (xs:=d.map V.ref) (λi u M=>δ (upd (upd H l (.lst (d.map V.ref))) t (.tup (d.map V.ref))) M/\∃v,u=[some (.ref p),some (.int m),some (.ref a),some (.ref t),v]) ⟨δ.refl _,_,rfl⟩ (λi u M _ ⟨z,_⟩=>Κ.of (y z)) ?_ ?_
  .rintro i x u M N hN hi ⟨s3,v,rfl⟩;have n:=Y.trans (s2.trans s3);obtain⟨q,r,rfl,h1,h2,G⟩:=j.get hi;have ok:=g.ok r (aX h2);walk_at "";refine⟨m,q,r,rfl,n _ _ G,ok.a0,ok.a1,ok.b0,ok.b1,ok.ne,?_⟩;exact⟨q,r,rfl,n _ _ G,ok.t0,ok.t1,ok.u0,ok.u1,λH4 L=>hN _ _ ⟨s3.trans L,_,rfl⟩⟩
  .rintro u M ⟨s3,v,rfl⟩;have n:=Y.trans (s2.trans s3);walk_at "";refine⟨m,t,d,rs,rfl,Κ.of (y s3),ξ.same n j,g,λH4 L=>?_⟩;have B:=n.trans L;have Z:t≠p:=λz=>by rw[z,X]at C;cases C
   refine⟨T.Web,W,[],B _ _ X,T.jA,T.ό,by decide,?_⟩;refine⟨T.Web,W,_,az,T.jA,T.ZR,by show 1<1000;decide,?_⟩;rw[sd];refine k t _ C ⟨⟨W,az⟩,?_,?_,g⟩ λb o hb nb=>?_
   .rw[aL Z];exact y (s3.trans L)
   .refine Paired.imp' (λq r D=>?_) j;rw[aL (fS D X (by intro z;cases z))];exact B _ _ D
   .rw[aL nb];exact B _ _ hb
theorem MX(T:Txt K I){H:Hp}{m:Int}{c:Bool}{a:Addr}{j:g9}{h:hT}{Q:Addr->Hp->Prop}(s:ϑ K c H a (j.map V.ref))(q:ξ H j h)(g:Good m h)(k:∀x t f,H x=none->H t=none->δ H f->ι T.Web f x m t j h->Q x f):∀x d,H x=none->H d=none->d≠x->qk T [.ref x,.int m,.ref a] (upd (upd H d (.own x)) x (.ins T.Web d [])) (λv y=>v=.ς/\Q x y) E0:=by
 intro x d l p ne;have n:upd H d (.own x) x=none:=by rw[aL ne.symm];exact l
 have i:δ H (upd (upd H d (.own x)) x (.ins T.Web d [])):=(δ.new _ p).trans (δ.new _ n);exact⟨x,d,m,c,a,j,h,rfl,az,δ.Ac i s,ξ.same i q,g,λt f r W u=>⟨rfl,k x t f l (i.free r) (λb o e=>u b o (i b o e) (cJ e l)) W⟩⟩
def lR(T:Txt K I):Sp:=λc H Q E=>E6 λ(p t:Addr)(m:Int)(b:g9)(a:hT)(n:Int)=>c=[.ref p,.int n]/\ι T.Web H p m t b a/\(0<=n->n<m->Q .ς H)/\(¬(0<=n/\n<m)->E (.ref T.NoPlace) none H)
abbrev iU:Stmt:=top 15
theorem DA:η ["web","number"] ["web","number"] (aB iU):=.of
theorem pf:ϛ (aB iU) "NoPlace":=.of (by kernel_rfl)
theorem CZ(T:Txt K I)(o:bU (ψ P w))(f:Cb P w K I base "is_place" qp ["many","number"] 1 (uq T)):Ok P w K I base "check_place" iU ["web","number"] 2 (lR T):=λ_ _ D=>by
 refine D.F.Io DA (by walk_at "v") λj A a s H l Q E i h=>?_;obtain⟨p,t,m,r,q,n,rfl,W,k,e⟩:=h;obtain⟨b,ob⟩:=W.ob;refine⟨_,(aM (fh (sH (pR (Ϛ f i dq (aa (dP (ζ 0) rfl) (aa (ζ 1) au))))) (aM (qB T.xT rfl sg pf.g T.NB (aa uK au) (hdb:=pf.d))) dI)),?_⟩;walk_at "s";walk_at "";refine⟨T.Web,b,_,ob,T.jA,T.ό,_,hZ m t,m,n,rfl,_,rfl,?_⟩;by_cases c:0<=n/\n<m
 .rw[ah (by simp[c.1,c.2])];exact k c.1 c.2
 .rw[aj (by simpa[bD]using c)];exact⟨by decide,e c⟩
def ph(T:Txt K I):Sp:=λe H Q E=>E6 λ(p t:Addr)(m:Int)(d:g9)(c:hT)(a:Int)=>e=[.ref p,.int a]/\ι T.Web H p m t d c/\(∀l b,0<=a->a<m->H l=none->δ H b->b l=some (.lst ((ie m c a).map V.int))->Q (.ref l) b)/\(¬(0<=a/\a<m)->E (.ref T.NoPlace) none H)
abbrev lZ:Stmt:=top 14
theorem EW:η ["web","a"] ["web","a"] (aB lZ):=.of
abbrev iy(P w base)(T:Txt K I):=Cb P w K I base "check_place" iU ["web","number"] 2 (lR T)
theorem EM(T:Txt K I)(L:bU (ψ P w))(o:iy P w base T)(u:Cb P w K I base "other_ends" nN ["roads","place"] 1 (rG T)):Ok P w K I base "neighbours" lZ ["web","a"] 3 (ph T):=λ_ _ D=>by
 refine D.F.Io EW (by walk_at "v") λB A c s H J Q E g h=>?_;obtain⟨p,t,m,n,b,a,rfl,W,k,e⟩:=h;obtain⟨v,ob⟩:=W.ob;refine⟨_,(aI (fD (Ϛ o g dq (aa (ζ 0) (aa (ζ 1) au)))) (aM (bM (pcb Jt T.sorted (aa (Ϛ u g dq (aa (dP (ζ 0) rfl) (aa (ζ 1) au))) au))))),?_⟩;walk_at "s";walk_at "";refine⟨p,t,m,n,b,a,rfl,W,λf d=>?_,e⟩;have i:(b.length:Int)=m-1:=W.go.len;have Ο:=W.go.Ο;refine⟨T.Web,v,_,ob,T.jA,T.ZR,_,zJ m t,t,n,b,a,rfl,Κ.of W.tu,W.ro,by lia,λq C G j x=>?_⟩;refine⟨q,rfl,fM b a,ν.of x,by have:=HA b a;lia,λr M l z y=>?_⟩;rw[Ui W.go f d z y];exact k r _ f d (j.free l) (j.trans (δ.new _ l)) az
def vw(T:Txt K I):Sp:=λf H Q _=>E7 λ(p t:Addr)(m:Int)(e:g9)(d:hT)(a:Int)(b:V)=>f=[.ref p,.int a,b]/\ι T.Web H p m t e d/\0<=a/\a<m/\(b=.ς\/∃i,b=.int i)/\∀l c,H l=none->δ H c->c l=some (.lst ((cq m d b a).map V.int))->Q (.ref l) c
abbrev sE:Stmt:=top 29
theorem Uw:η ["web","place","front"] ["web","place","front"] (aB sE):=.of
abbrev iH(P w base)(T:Txt K I):=Cb P w K I base "neighbours" lZ ["web","a"] 3 (ph T)
theorem Ua(T:Txt K I)(O:bU (ψ P w))(R:iH P w base T):Ok P w K I base "kids" sE ["web","place","front"] 4 (vw T):=λ_ _ D=>by
 refine D.F.ϓ Uw (by walk_at "v") λχ A n s H vs Q E M h=>?_;obtain⟨p,t,m,U,d,a,e,rfl,W,J,G,X,k⟩:=h;have Ο:=W.go.Ο;refine⟨_,(aM (bM (g6 rfl (Z5 ["near","front"] 1 [2]) (jM (Η R M O (aa (ζ 0) (aa (ζ 1) au)))) (λ_ _ _ _=>(eE (i:=0) (show(["near","front"]:hO).Nodup from by decide +kernel) rfl (Or.inl rfl))) (λ_ _ _ _=>(C3 (lE vE (pv 0) (pv 1)))) (λ_ _ _ _=>(pv 0))))),?_⟩;walk_at "s";walk_at "";have nl:(ie m d a).length<=24:=by
  have:=dM (λq=>decide (q∈fM d a)) (bG m.toNat);rw[bR]at this;unfold ie
  lia
 refine⟨p,t,m,U,d,a,rfl,W,λx L _ _ n1 B y=>⟨x,rfl,⟨_,ν.of y⟩,λo r=>?_⟩,λz=>absurd ⟨J,G⟩ z⟩;have u:H o=none:=B.free r;refine nS (c:=true) (K:=K) (a:=x) (xs:=(ie m d a).map V.int) (λj g l f=>δ L f/\f o=some (.lst g)/\g=(((ie m d a).take j).filter λv=>decide (V.int v≠e)).map V.int/\∃v,l=[v,some e]) ⟨δ.new _ r,az,rfl,_,rfl⟩ (λj g l f _ z=>ν.of (z.1 _ _ y)) ?_ ?_
 .rintro j xj g l f N hN hj ⟨s2,h2,rfl,v,rfl⟩;rw[aG]at hj;obtain⟨b,Y,rfl⟩:=bN.mp hj;have C:(ie m d a).take (j+1)=(ie m d a).take j++[b]:=by rw[bp,Y];rfl
  have ll:(((ie m d a).take j).filter λv=>decide (V.int v≠e)).length<=24:=by
   have S:=dM (λv=>decide (V.int v≠e)) ((ie m d a).take j);rw[bA]at S
   lia
  walk_at "";have Z:uD (V.int b) e=true:=by
   rcases X with rfl|⟨i,rfl⟩<;>rfl
  refine⟨Z,?_⟩;by_cases c:V.int b=e
  .rw[ah (λz=>z c)];refine hN _ _ _ ⟨s2,h2,?_,_,rfl⟩;rw[C,c9];simp[c]
  .rw[aj c];refine⟨h2,eW (by rw[ag];lia),hN _ _ _ ⟨s2.put r _,az,?_,_,rfl⟩⟩;rw[C,c9];simp[c]
 .rintro g l f ⟨s2,h2,rfl,v,rfl⟩;rw[ag,bC]at h2;exact k o f u (B.trans s2) h2
def sK(T:Txt K I):Sp:=λf H Q E=>E6 λ(p t:Addr)(m:Int)(e:g9)(d:hT)(r:Int)=>f=[.ref p,.int r]/\ι T.Web H p m t e d/\(0<=r->r<m->∃a c,ε m d r a c/\∀l b,H l=none->δ H b->b l=some (.lst (m5 m r a))->Q (.ref l) b)/\(¬(0<=r/\r<m)->E (.ref T.NoPlace) none H)
abbrev qK:Stmt:=top 27
theorem Qk:η ["web","r","nearer","waiting","place","front","kid"] ["web","r"] (aB qK):=.of
abbrev i5(P w base)(T:Txt K I):=Cb P w K I base "kids" sE ["web","place","front"] 4 (vw T)
theorem Q8(T:Txt K I)(hq:bU (ψ P w))(fe:iy P w base T)(iZ:i5 P w base T):Ok P w K I base "ahead" qK ["web","r"] 5 (sK T):=λ_ _ D=>by
 refine D.F.Io Qk (by walk_at "v") λχ A a1 s H vs Q E hr h=>?_;obtain⟨p,t,m,ps,rs,r,rfl,W,k,e⟩:=h;obtain⟨dx,ob⟩:=W.ob;have g:=W.go;have Ο:=g.Ο;refine⟨_,(aI (fD (Ϛ fe hr dq (aa (ζ 0) (aa (ζ 1) au)))) (aI (Μ 2 (bi pY (fG (aa vo au)) (dP (ζ 0) rfl))) (aI (Μ 3 (fG (aa (ζ 1) au))) (aI (tx PassesOwn.leaving (vQ (ζ 3) (λ_=>rfl)) (aI (Μ 4 (Gw PySem.F.plainAttrs_list PySem.F.slot_list_pop PySem.F.type_list_pop Hi (ζ 3))) (aI (Μ 5 (Ι cf (ζ 2) (ζ 4))) (aM (fV PassesOwn.leaving rfl (jM (Ϛ iZ hr dq (aa (ζ 0) (aa (ζ 4) (aa (ζ 5) au))))) (ϫ 6) (aI (rc (ζ 4) (rB (ζ 2) (ζ 6) jP)) (aM (fD (oB PySem.F.plainAttrs_list PySem.F.slot_list_append PySem.F.type_list_append ip (ζ 3) (aa (ζ 6) au)))))))))) (aM (bM (ζ 2))))))),?_⟩;walk_at "s";walk_at "";refine⟨p,t,m,ps,rs,r,rfl,W,λr0 r1=>?_,e⟩;obtain⟨par,cg,R,k⟩:=k r0 r1;refine⟨by decide,λl1 n1=>?_⟩;have s1:=δ.new (.lst [V.ς]) n1;refine⟨T.Web,dx,_,s1 _ _ ob,T.jA,T.ό,_,rfl,?_⟩;refine⟨l1,m,[V.ς],rfl,rfl,az,by lia,by lia,dL (by simp;lia),λb n2=>?_⟩;have ad:H b=none:=s1.free n2;rw[wo,<-Xq (par:=par)];have s2:=s1.trans (δ.new (.lst (nl m par [])) n2);refine⟨dL (by simp),λa n3=>?_⟩;have Z:H a=none:=s2.free n3;have l:a≠b:=λz=>by rw[z,az]at n3;cases n3
 have s3:=s2.trans (δ.new (.lst [V.int r]) n3);have U:upd (upd (upd H l1 (.lst [V.ς])) b (.lst (nl m par []))) a (.lst [V.int r]) b=some (.lst (nl m par [])):=by rw[aL l.symm,az]
 have M:upd (upd (upd H l1 (.lst [V.ς])) b (.lst (nl m par []))) a (.lst [V.int r]) a=some (.lst [V.int r]):=az;generalize upd (upd (upd H l1 (.lst [V.ς])) b (.lst (nl m par []))) a (.lst [V.int r])=H3 at s3 U M ⊢;refine Dt (λn C j=>E5 λ(u X:du)(v4 v5 L:Option V)=>n=2*(m.toNat-u.length)+X.length/\C=[some (.ref p),some (.int r),some (.ref b),some (.ref a),v4,v5,L]/\δ H j/\j b=some (.lst (nl m par u))/\j a=some (.lst (X.map V.int))/\ϣ m rs r par u X) (2*m.toNat+1) ⟨[],[r],_,_,_,rfl,rfl,s3,U,M,ϣ.start⟩ ?_;rintro n C j NW BB Ϭ hN ab ⟨u,X,v4,v5,L,rfl,rfl,s4,h2,N,J⟩;refine Ϭ _ _ _ ?_;have kl:=gZ (by lia) J.nd J.Δ;walk_at "";refine⟨_,.inl ⟨_,ν.of N,rfl⟩,?_⟩;rcases jv X with rfl|⟨ws',q,rfl⟩
 .rw[ah (by simp)];rw[J.done R]at h2;exact k b j ad s4 h2
 .rw[jC]at J N hN ab ⊢;rw[aj (by simp)];have hq:q∈ws'++[q]:=aY _ (aO.mpr rfl);have y:=J.at_ r0 r1 hq;have G:=J.step g R r0 r1 (p:=q) (ws':=ws') (kb q ws');refine⟨NW,λb2 H' z=>?_,?_⟩
  .obtain⟨m',lt,ks',abU,a4,a5,a6,e1,U,M⟩:=ab _ _ z
   first|exact⟨m',lt,ks',abU,a4,a5,a6,e1,U,M⟩|exact⟨m',lt,ks',abU,e1,a4,a5,a6,U,M⟩
  rw[aE,aF,eu]at N;refine⟨Z0 N,Sq N ?_⟩;have s5:δ H (upd j a (.lst (ws'.map V.int))):=s4.put Z _;have f:upd j a (.lst (ws'.map V.int)) b=some (.lst (nl m par u)):=by rw[aL l.symm];exact h2
  have B:upd j a (.lst (ws'.map V.int)) a=some (.lst (ws'.map V.int)):=az;generalize upd j a (.lst (ws'.map V.int))=H5 at s5 f B ⊢;refine Χ f (gn y.1 (Oo y.1 y.2)) ?_;rw[J.front hq];have an:Pb.front r par q=.ς\/∃i,Pb.front r par q=.int i:=by
   unfold Pb.front;by_cases c:q=r
   .rw[aj c];exact .inl rfl
   .rw[ah c];exact .inr ⟨_,rfl⟩
  have mk:∀v,v∈cq m rs (Pb.front r par q) q->(0<=v/\v<m)/\v≠r/\par v=q:=λv=>(ce g R y.1 y.2).mp;refine⟨p,t,m,ps,rs,q,_,rfl,W.same s5,y.1,y.2,an,λO H6 S s6 e6=>⟨O,rfl,⟨_,ν.of e6⟩,?_⟩⟩;generalize cq m rs (Pb.front r par q) q=d at mk e6 G ⊢;have cc:H O=none:=s5.free S;have aS:O≠b:=λz=>by rw[z,f]at S;cases S
  have a0:O≠a:=λz=>by rw[z,B]at S;cases S
  have a3:=gZ (by lia) G.nd G.Δ;rw[aN]at a3;have ao:=gZ (by lia) G.wnd λw hw=>G.at_ r0 r1 hw;rw[aN]at ao;refine mq (K:=K) (xs:=d.map V.int) (λi C o=>∃L,C=[some (.ref p),some (.int r),some (.ref b),some (.ref a),some (.int q),some (Pb.front r par q),L]/\δ H o/\o O=some (.lst (d.map V.int))/\o b=some (.lst (nl m par (u++d.take i)))/\o a=some (.lst ((ws'++d.take i).map V.int))) ⟨_,rfl,s5.trans s6,e6,by rw[dY,b4];exact s6 _ _ f,by rw[dY,b4];exact s6 _ _ B⟩ (λi C o _ z=>by obtain⟨_,_,_,z,_⟩:=z;exact ν.of z) ?_ ?_
  .rintro i x C o NI BB Ϭ hI hi ⟨L,rfl,s7,e7,h27,h37⟩;refine Ϭ _ _ ?_;rw[aG]at hi;obtain⟨v,hv,rfl⟩:=bN.mp hi;obtain⟨vr,_,vp⟩:=mk v (aX hv);have et:d.take (i+1)=d.take i++[v]:=(by rw[bp,hv];rfl);walk_at "";refine⟨b,_,v,v.toNat,rfl,rfl,h27,by unfold ixN;rw[aj vr.1,aj (by rw[tK];lia)],?_⟩;rw[<-vp,VZ vr.1 vr.2,vp,c7,<-et];have Y:upd o b (.lst (nl m par (u++d.take (i+1)))) a=some (.lst ((ws'++d.take i).map V.int)):=(by rw[aL l];exact h37);have Zx:(ws'++d.take i).length<=100:=by
    rw[aN,bA]
    lia
   refine⟨Z0 Y,uj Y (eW (by rw[ag];lia)) (hI _ _ ⟨_,rfl,(s7.put ad _).put Z _,?_,?_,?_⟩)⟩
   .rw[aL a0,aL aS];exact e7
   .rw[aL l.symm,az]
   .rw[az,et,<-c7,aE (l₁:=ws'++d.take i)];rfl
  .rintro BB C o Ϭ ⟨L,rfl,s7,e7,h27,h37⟩;refine Ϭ _ _ ?_;rw[ag,bC]at h27 h37;refine hN _ _ _ ?_ ⟨_,_,_,_,_,rfl,rfl,s7,h27,h37,G⟩;rw[aN,aN,aN];simp only[ba,dU]
   lia
def DR(T:Txt K I):Sp:=λf H Q E=>E6 λ(p t:Addr)(m:Int)(e:g9)(c:hT)(r:Int)=>f=[.ref p,.int r]/\ι T.Web H p m t e c/\(0<=r->r<m->∃a b,ε m c r a b/\∀l d,H l=none->δ H d->d l=some (.lst ((cT m c r a b r).map V.int))->(cT m c r a b r).Nodup->(∀v,v∈cT m c r a b r↔0<=v/\v<m)->Q (.ref l) d)/\(¬(0<=r/\r<m)->E (.ref T.NoPlace) none H)
abbrev vA:Stmt:=top 28
theorem UP:η ["web","r","nearer","places","waiting","place","kid"] ["web","r"] (aB vA):=.of
theorem Aa:ϛ (aB vA) "reversed":=.of (by kernel_rfl)
abbrev i6(P w base)(T:Txt K I):=Cb P w K I base "ahead" qK ["web","r"] 5 (sK T)
theorem U0(T:Txt K I)(hq:bU (ψ P w))(kO:i6 P w base T)(iZ:i5 P w base T):Ok P w K I base "down" vA ["web","r"] 6 (DR T):=λ_ _ D=>by
 refine D.F.Io UP (by walk_at "v") λχ A bm s H vs Q E hr h=>?_;obtain⟨p,t,m,ps,rs,r,rfl,W,k,e⟩:=h;have g:=W.go;have Ο:=g.Ο;refine⟨_,(aI (Μ 2 (Ϛ kO hr dq (aa (ζ 0) (aa (ζ 1) au)))) (aI (Μ 3 (fG au)) (aI (Μ 4 (fG (aa (ζ 1) au))) (aI (tx PassesOwn.leaving (vQ (ζ 4) (λ_=>rfl)) (aI (Μ 5 (Gw PySem.F.plainAttrs_list PySem.F.slot_list_pop PySem.F.type_list_pop Hi (ζ 4))) (aI (fD (oB PySem.F.plainAttrs_list PySem.F.slot_list_append PySem.F.type_list_append ip (ζ 3) (aa (ζ 5) au))) (aM (fV PassesOwn.leaving rfl (vk Aa.g T.reversed (Ϛ iZ hr dq (aa (ζ 0) (aa (ζ 5) (aa (Ι cf (ζ 2) (ζ 5)) au))))) (ϫ 6) (aM (fD (oB PySem.F.plainAttrs_list PySem.F.slot_list_append PySem.F.type_list_append ip (ζ 4) (aa (ζ 6) au))))))))) (aM (bM (ζ 3))))))),?_⟩;walk_at "s";walk_at "";refine⟨p,t,m,ps,rs,r,rfl,W,λr0 r1=>?_,e⟩;obtain⟨a,U,R,k⟩:=k r0 r1;refine⟨a,U,R,λo H1 n1 s1 e1=>⟨by decide,λb n3=>⟨dL (by simp),λd Y=>?_⟩⟩⟩;have a0:H b=none:=s1.free n3;have s3:=s1.trans (δ.new (.lst []) n3);have al:H d=none:=s3.free Y;have bv:o≠b:=λz=>by rw[<-z,e1]at n3;cases n3
 have y:b≠d:=λz=>by rw[<-z,az]at Y;cases Y
 have a2:=δ.new (.lst []) n3 _ _ e1;have am:o≠d:=λz=>by rw[<-z,a2]at Y;cases Y
 have s4:=s3.trans (δ.new (.lst [V.int r]) Y);have aT:=δ.new (.lst [V.int r]) Y _ _ a2;have ak:upd (upd H1 b (.lst [])) d (.lst [V.int r]) b=some (.lst []):=by rw[aL y,az]
 have ar:upd (upd H1 b (.lst [])) d (.lst [V.int r]) d=some (.lst [V.int r]):=az;generalize upd (upd H1 b (.lst [])) d (.lst [V.int r])=H4 at s4 aT ak ar ⊢;refine Dt (λn X l=>E5 λ(N C f:du)(v5 v6:Option V)=>n=2*(m.toNat-N.length)+C.length/\X=[some (.ref p),some (.int r),some (.ref o),some (.ref b),some (.ref d),v5,v6]/\δ H l/\l o=some (.lst (m5 m r a))/\l b=some (.lst (f.map V.int))/\l d=some (.lst (C.map V.int))/\ϣ m rs r a N C/\(f++C).Perm (r::N)/\f++C.reverse.flatMap (cT m rs r a U)=cT m rs r a U r) (2*m.toNat+1) ⟨[],[r],[],_,_,rfl,rfl,s4,aT,ak,ar,ϣ.start,List.Perm.refl _,by simp⟩ ?_;rintro n X l NW BB Ϭ hN a1 ⟨N,C,f,v5,v6,rfl,rfl,s5,h1,h3,h4,J,M,ep⟩;refine Ϭ _ _ _ ?_;have rk:∀w∈r::N,0<=w/\w<m:=λw hw=>by
  rcases aD.mp hw with rfl|z
  .exact⟨r0,r1⟩
  .exact J.Δ w z
 have nk:(r::N).Nodup:=aV.mpr ⟨J.nr,J.nd⟩;have kl:=gZ (m:=m) (by lia) nk rk;have cr:=gZ (m:=m) (by lia) J.nd J.Δ;have S:=M.length_eq;rw[aN]at S;rw[ba]at kl S;walk_at "";refine⟨_,.inl ⟨_,ν.of h4,rfl⟩,?_⟩;rcases jv C with rfl|⟨ws',q,rfl⟩
 .rw[ah (by simp)];rw[List.reverse_nil,List.flatMap_nil,b4]at ep;rw[b4]at M;subst ep;refine k b l a0 s5 h3 (M.nodup_iff.mpr nk) λv=>⟨λz=>rk v (M.mem_iff.mp z),λz=>M.mem_iff.mpr ?_⟩;by_cases c:v=r
  .rw[c];exact ax
  .exact aq _ (J.all R v z.1 z.2 c)
 .rw[jC]at J h4 hN a1 M ep S ⊢;rw[aj (by simp)];have hq:q∈ws'++[q]:=aY _ (aO.mpr rfl);have O:=J.at_ r0 r1 hq;have J2:=J.step g R r0 r1 (p:=q) (ws':=ws') (kb q ws');refine⟨NW,λcn H' z=>?_,?_⟩
  .obtain⟨m',lt,ks',abU,pl',a5,a6,z1,z2⟩:=a1 _ _ z
   first|exact⟨m',lt,ks',abU,pl',a5,a6,z1,z2⟩|exact⟨m',lt,ks',abU,z1,pl',a5,a6,z2⟩
  rw[aE,aF,eu]at h4;refine⟨Z0 h4,Sq h4 ?_⟩;have s6:δ H (upd l d (.lst (ws'.map V.int))):=s5.put al _;have L:upd l d (.lst (ws'.map V.int)) b=some (.lst (f.map V.int)):=by rw[aL y];exact h3
  have af:upd l d (.lst (ws'.map V.int)) o=some (.lst (m5 m r a)):=by rw[aL am];exact h1
  have a3:upd l d (.lst (ws'.map V.int)) d=some (.lst (ws'.map V.int)):=az;generalize upd l d (.lst (ws'.map V.int))=H6 at s6 L af a3 ⊢;refine⟨Z0 L,uj L (eW (by rw[ag];lia)) ?_⟩;have s7:δ H (upd H6 b (.lst (f.map V.int++[V.int q]))):=s6.put a0 _;have G:upd H6 b (.lst (f.map V.int++[V.int q])) b=some (.lst ((f++[q]).map V.int)):=by rw[az,aE];rfl
  have u:upd H6 b (.lst (f.map V.int++[V.int q])) o=some (.lst (m5 m r a)):=by rw[aL bv];exact af
  have Z:upd H6 b (.lst (f.map V.int++[V.int q])) d=some (.lst (ws'.map V.int)):=by rw[aL y.symm];exact a3
  generalize upd H6 b (.lst (f.map V.int++[V.int q]))=H7 at s7 G u Z ⊢;refine Χ u (gn O.1 (wm O.1 O.2)) ?_;have be:Pb.front r a q=.ς\/∃i,Pb.front r a q=.int i:=by
   unfold Pb.front;by_cases c:q=r
   .rw[aj c];exact .inl rfl
   .rw[ah c];exact .inr ⟨_,rfl⟩
  have pq:=gw g R O.1 O.2;refine⟨p,t,m,ps,rs,q,_,rfl,W.same s7,O.1,O.2,be,λl8 H8 n8 s8 e8=>⟨l8,rfl,_,ν.of e8,?_⟩⟩;generalize cq m rs (Pb.front r a q) q=j at e8 J2 pq ⊢;have cp:o≠l8:=λz=>by rw[<-z,u]at n8;cases n8
  have cz:b≠l8:=λz=>by rw[<-z,G]at n8;cases n8
  have bt:d≠l8:=λz=>by rw[<-z,Z]at n8;cases n8
  have bo:=gZ (m:=m) (by lia) J2.nd J2.Δ;rw[aN]at bo;have bk:=gZ (m:=m) (by lia) J2.wnd λw hw=>J2.at_ r0 r1 hw;rw[aN]at bk;refine wj (K:=K) (xs:=j.map V.int) (λi X B=>∃v6,X=[some (.ref p),some (.int r),some (.ref o),some (.ref b),some (.ref d),some (.int q),v6]/\δ H B/\B l8=some (.lst (j.map V.int))/\B o=some (.lst (m5 m r a))/\B b=some (.lst ((f++[q]).map V.int))/\B d=some (.lst ((ws'++j.reverse.take i).map V.int))) ⟨_,rfl,s7.trans s8,e8,s8 _ _ u,s8 _ _ G,by rw[dY,b4];exact s8 _ _ Z⟩ (λi X B _ z=>by obtain⟨_,_,_,z,_⟩:=z;exact ν.of z) ?_ ?_
  .rintro i x X B NI hI hi ⟨v6,rfl,s9,e9,h19,h39,h49⟩;rw[<-eC,aG]at hi;obtain⟨v,hv,rfl⟩:=bN.mp hi;have et:j.reverse.take (i+1)=j.reverse.take i++[v]:=(by rw[bp,hv];rfl);have Zx:(ws'++j.reverse.take i).length<=100:=by
    rw[aN,bA,aZ]
    lia
   walk_at "";refine⟨Z0 h49,uj h49 (eW (by rw[ag];lia)) (hI _ _ ⟨_,rfl,s9.put al _,?_,?_,?_,?_⟩)⟩
   .rw[aL bt.symm];exact e9
   .rw[aL am];exact h19
   .rw[aL y];exact h39
   .rw[az,et,<-c7,aE (l₁:=ws'++j.reverse.take i)];rfl
  .rintro X B ⟨v6,rfl,s9,e9,h19,h39,h49⟩;rw[ag,show j.length=j.reverse.length by rw[aZ],bC]at h49;refine hN _ _ _ ?_ ⟨N++j,ws'++j.reverse,f++[q],_,_,rfl,rfl,s9,h19,h39,h49,J2.perm (mh _ j.reverse_perm.symm),?_,?_⟩
   .rw[aN,aN,aN,aZ];simp only[ba,dU]
    lia
   .have p1:(f++[q]++(ws'++j.reverse)).Perm (f++(ws'++[q])++j):=by
     rw[c7,c7];refine mh _ ?_;rw[<-c7];exact List.Perm.append (List.perm_append_comm) j.reverse_perm
    exact p1.trans (List.Perm.append_right _ M)
   .rw[<-ep,mL,mL,mf,List.reverse_singleton,List.singleton_append,bI,pq,nh];simp
def LF(a:fc)(v:Int):List V:=[.int v,.int (a v)]
abbrev ω(H:Hp)(a:fc):List Addr->List Int->Prop:=Paired λq v=>H q=some (.tup (LF a v))
theorem ω.same{H b:Hp}{a:fc}{c:g9}{d:du}(e:δ H b)(h:ω H a c d):ω b a c d:=Paired.imp' (λq v x=>e q _ x) h
theorem ω.get{H:Hp}{c:fc}:∀{d:g9}{f:du}{i:Nat}{x:V},ω H c d f->(d.map V.ref)[i]?=some x->∃p r,x=.ref p/\d[i]?=some p/\f[i]?=some r/\H p=some (.tup (LF c r))
 | _,_,i,x,.nil,e=>by simp at e
 | _,_,0,x,.cons (a:=p) (b:=r) h hs,e=>⟨p,r,by simpa using e.symm,by simp,by simp,h⟩
 | a::l1,_,i+1,x,.cons h hs,e=>by
   have j:(List.map V.ref l1)[i]?=some x:=by simpa using e
   obtain⟨p,r,g,l,k,m⟩:=ω.get hs j;exact⟨p,r,g,by simpa using l,by simpa using k,m⟩
theorem ω.snoc{H:Hp}{a:fc}{q:Addr}{v:Int}(e:H q=some (.tup (LF a v))):∀{b:g9}{c:du},ω H a b c->ω H a (b++[q]) (c++[v])
 | _,_,.nil=>.cons e .nil
 | _,_,.cons x xs=>.cons x (ω.snoc e xs)
def kT(T:Txt K I):Sp:=λh H Q E=>E6 λ(p t:Addr)(m:Int)(g:g9)(d:hT)(r:Int)=>h=[.ref p,.int r]/\ι T.Web H p m t g d/\(0<=r->r<m->∃a b,ε m d r a b/\∀l f e c,cT m d r a b r=r::e->H l=none->δ H c->c l=some (.lst (f.map V.ref))->ω c a f e.reverse->Order m r a e->Q (.ref l) c)/\(¬(0<=r/\r<m)->E (.ref T.NoPlace) none H)
abbrev jN:Stmt:=top 30
theorem Em:η ["web","r","nearer"] ["web","r"] (aB jN):=.of
theorem z3:NmC (aB jN) "nearer":=.of (by kernel_rfl)
theorem wT:ϛ (aB jN) "reversed":=.of (by kernel_rfl)
theorem Om(T:Txt K I)(hq:bU (ψ P w))(kO:i6 P w base T)(vd:Cb P w K I base "down" vA ["web","r"] 6 (DR T)):Ok P w K I base "inward" jN ["web","r"] 7 (kT T):=λ_ _ D=>by
 refine D.F.Io Em (by walk_at "v") λχ A M s H vs Q E hr h=>?_;obtain⟨p,t,m,ps,rs,r,rfl,W,k,e⟩:=h;have g:=W.go;have Ο:=g.Ο;refine⟨_,(aI (pV (i:=2) Em.nd rfl (Or.inr z3.l) (Ϛ kO hr dq (aa (ζ 0) (aa (ϙ 1) au)))) (aM (bM (g6 rfl (Z5 ["place","nearer","r"] 1 [2,1]) (vk wT.g T.reversed (Ϛ vd hr dq (aa (ζ 0) (aa (ϙ 1) au)))) (λ_ _ _ _=>(eE (i:=0) (show(["place","nearer","r"]:hO).Nodup from by decide +kernel) rfl (Or.inl rfl))) (λ_ _ _ _=>(C3 (lE vE (pv 0) (pv 2)))) (λ_ _ _ _=>(tj (aa (pv 0) (aa (Ι (nJ K rfl) (pv 1) (pv 0)) au)))))))),?_⟩;walk_at "s";walk_at "";refine⟨p,t,m,ps,rs,r,?_⟩;refine an4 rfl W (λL J=>?_) e;obtain⟨d,u,R,k⟩:=k L J;refine⟨d,u,R,λl1 H1 n1 s1 e1=>?_⟩;refine⟨p,t,m,ps,rs,r,?_⟩;refine an4 rfl (W.same s1) (λ_ _=>⟨d,u,R,λl2 H2 n2 s2 e2 nd al=>?_⟩) (λz=>absurd ⟨L,J⟩ z);obtain⟨j,et,O⟩:=B9 g R L J nd al;have ll:=Po g R L J;rw[et]at e2 ll;rw[ba]at ll;refine⟨l2,rfl,_,ν.of e2,λpc X=>?_⟩;have Z:=s2 _ _ e1;have ϻ:=s1.trans s2;have ac:=ϻ.free X;refine Ir (K:=K) (xs:=(r::j).map V.int) (λi B G n=>δ H2 n/\n pc=some (.lst B)/\(∃f:List Addr,B=f.map V.ref/\ω n d f (j.reverse.take i))/\∃v,G=[v,some (V.ref l1),some (V.int r)]) ⟨δ.new _ X,az,⟨[],rfl,.nil⟩,_,rfl⟩ (λi B G n _ z=>ν.of (z.1 _ _ e2)) ?_ ?_
 .rintro i x B G n N hN hx ⟨s3,e3,⟨f,rfl,pa⟩,v,rfl⟩;rw[<-eC,eL,aG]at hx;obtain⟨y,o,rfl⟩:=bN.mp hx;have il:=(aw.mp o).1;rw[aN,aZ]at il;have ql:f.length=(j.reverse.take i).length:=Paired.length pa;rw[bA,aZ]at ql;walk_at "";by_cases c:i<j.length
  .rw[cU (by rw[aZ];exact c)]at o;have Y:y∈j:=cY.mp (aX o);have S:=O.Δ y Y;rw[aj (O.ne Y)];have gp:gT (m5 m r d) y=some (V.int (d y)):=by
    have ef:Pb.front r d y=V.int (d y):=(by unfold Pb.front;rw[ah (O.ne Y)]);rw[<-ef];exact gn S.1 (wm S.1 S.2)
   refine Χ (s3 _ _ Z) gp ⟨dL (by simp),λq C=>?_⟩;have s4:=δ.new (.tup [V.int y,V.int (d y)]) C;have U:q≠pc:=λz=>by rw[z,e3]at C;cases C
   refine⟨s4 _ _ e3,eW (by rw[ag];lia),hN _ _ _ ⟨(s3.trans s4).put X _,az,⟨f++[q],by rw[aE];rfl,?_⟩,_,rfl⟩⟩;rw[bp,o];refine ω.snoc (by rw[aL U,az];rfl) ?_;exact Paired.imp' (λa b h=>by
    rw[aL (fS h e3 (by intro z;cases z)),aL (cJ h C)];exact h) pa
  .have ei:i=j.reverse.length:=(by rw[aZ];simp at il;lia);rw[ei,cM (aJ _),d9]at o;cases o;rw[ah (λz=>z rfl)];refine hN _ _ _ ⟨s3,e3,⟨f,rfl,?_⟩,_,rfl⟩;rw[cw (by lia)]at pa ⊢;exact pa
 .rintro B G n ⟨s3,e3,⟨f,rfl,pa⟩,v,rfl⟩;rw[cw (by rw[ag,aZ,ba];lia)]at pa;exact k pc f j n et ac (ϻ.trans s3) e3 pa O
def ki(T:Txt K I):Sp:=λe H Q E=>E7 λ(p t:Addr)(m:Int)(d:g9)(c:hT)(a b:Int)=>e=[.ref p,.int a,.int b]/\ι T.Web H p m t d c/\(∀k,0<=a->a<m->0<=b->b<m->ci c a b=some k->Q (.int k) H)/\(¬((0<=a/\a<m)/\(0<=b/\b<m))->E (.ref T.NoPlace) none H)/\(0<=a->a<m->0<=b->b<m->ci c a b=none->E (.ref T.NoRoad) none H)
abbrev jU:Stmt:=top 13
theorem Us:η ["web","a","b","one","other","there","back"] ["web","a","b"] (aB jU):=.of
theorem uM:ϛ (aB jU) "NoRoad":=.of (by kernel_rfl)
theorem Vf(T:Txt K I)(hq:bU (ψ P w))(Z:iy P w base T):Ok P w K I base "toll" jU ["web","a","b"] 3 (ki T):=λ_ _ D=>by
 refine D.F.Io Us (by walk_at "v") λχ A O s H vs Q E hr h=>?_;obtain⟨p,t,m,M,f,a,b,rfl,W,k,e1,e2⟩:=h;obtain⟨dx,ob⟩:=W.ob;refine⟨_,(aI (fD (Ϛ Z hr dq (aa (ζ 0) (aa (ζ 1) au)))) (aI (fD (Ϛ Z hr dq (aa (ζ 0) (aa (ζ 2) au)))) (aI (fV PassesOwn.leaving rfl (xg (dP (ζ 0) rfl)) (nM (n:=4) rfl (dj (ϫ 3) (dj (ϫ 4) (dj (ϫ 5) (dj (ϫ 6) jH))))) (aI (fh (PW.pt (GS (lE kG (ζ 3) (ζ 1)) (Dw (lE kG (ζ 4) (ζ 2))))) (aM (bM (ζ 5))) dI) (aM (fh (PW.pt (GS (lE kG (ζ 3) (ζ 2)) (Dw (lE kG (ζ 4) (ζ 1))))) (aM (bM (ζ 6))) dI)))) (aM (qB T.AE rfl sg uM.g T.Sc (aa uK au) (hdb:=uM.d)))))),?_⟩;walk_at "s";walk_at "";refine⟨p,t,m,M,f,a,rfl,W,λB y=>?_,λz=>e1 λw=>z w.1⟩;refine⟨p,t,m,M,f,b,rfl,W,λG J=>?_,λz=>e1 λw=>z w.2⟩;refine⟨T.Web,dx,_,ob,T.jA,T.ZR,_,zJ m t,t,rfl,⟨_,Κ.of W.tu⟩,?_⟩;have l:M.length=f.length:=Paired.length W.ro;refine GU (K:=K) (xs:=M.map V.ref) (λi C o=>o=H/\ci (f.take i) a b=none/\∃X Y R S,C=[some (V.ref p),some (V.int a),some (V.int b),X,Y,R,S]) ⟨rfl,rfl,_,_,_,_,rfl⟩ (λi C o _ z=>by rw[z.1];exact Κ.of W.tu) ?_ ?_
 .rintro i x C o N hN hx ⟨rfl,hno,X,Y,R,S,rfl⟩;obtain⟨q,r,rfl,h1,L,h3⟩:=W.ro.get hx;have et:f.take (i+1)=f.take i++[r]:=by rw[bp,L];rfl
  have split:ci f a b=(ci (f.take i) a b).or ((kK a b r).or (ci (f.drop (i+1)) a b)):=by
   have:f=f.take i++r::f.drop (i+1):=by
    have U:i<f.length:=(aw.mp L).1;have e:f[i]=r:=(by rw[aA U]at L;exact bq L);rw[<-e,lK,dN]
   conv=>lhs;rw[this]
   unfold ci;rw[ju,j4];cases kK a b r<;>rfl
  rw[hno,Option.none_or]at split;walk_at "";refine⟨_,Κ.of h3,rfl,_,_,rfl,_,_,rfl,_,_,rfl,_,_,rfl,rfl,?_⟩;walk_at "";have c:kK a b r=none->N [some (V.ref p),some (V.int a),some (V.int b),some (V.int r.a),some (V.int r.b),some (V.int r.t),some (V.int r.u)] o:=λz=>hN _ _ ⟨rfl,by
   rw[et];unfold ci at hno ⊢;rw[ju,hno,j4,z]
   rfl,_,_,_,_,rfl⟩
  have j:∀v,kK a b r=some v->ci f a b=some v:=λv z=>by rw[split,z];rfl
  unfold kK at c j;split
  .rename_i c1
   split
   .rename_i c2
    exact k _ B y G J (j _ (by rw[aj ⟨c1,c2⟩]))
   .rename_i c2
    split
    .rename_i c3
     split
     .rename_i c4
      exact k _ B y G J (j _ (by rw[ah (λz=>c2 z.2),aj ⟨c3,c4⟩]))
     .rename_i c4
      exact c (by rw[ah (λz=>c2 z.2),ah (λz=>c4 z.2)])
    .rename_i c3
     exact c (by rw[ah (λz=>c2 z.2),ah (λz=>c3 z.1)])
  .rename_i c1
   split
   .rename_i c3
    split
    .rename_i c4
     exact k _ B y G J (j _ (by rw[ah (λz=>c1 z.1),aj ⟨c3,c4⟩]))
    .rename_i c4
     exact c (by rw[ah (λz=>c1 z.1),ah (λz=>c4 z.2)])
   .rename_i c3
    exact c (by rw[ah (λz=>c1 z.1),ah (λz=>c3 z.1)])
 .rintro C o ⟨rfl,hno,X,Y,R,S,rfl⟩;rw[ag,l,bC]at hno;walk_at "";exact⟨by decide,e2 B y G J hno⟩
def Ar(T:Txt K I):Sp:=λf H Q _=>E11 λ(p b t:Addr)(c:Bool)(m:Int)(e:g9)(d:hT)(a:du)(v u k:Int)=>f=[.ref p,.ref b,.int v,.int u]/\ι T.Web H p m t e d/\ϑ K c H b (a.map V.int)/\(0<=v/\v<m/\v<a.length)/\(0<=u/\u<m)/\ci d v u=some k/\k<=1000000/\2<=k/\Q (.int (a.getD v.toNat 0*k)) H
abbrev uW:Stmt:=top 53
theorem P0:η ["web","weights","place","front"] ["web","weights","place","front"] (aB uW):=.of
abbrev jb(P w base)(T:Txt K I):=Cb P w K I base "toll" jU ["web","a","b"] 3 (ki T)
theorem Ph(T:Txt K I)(x:bU (ψ P w))(n:jb P w base T):Ok P w K I base "borne" uW ["web","weights","place","front"] 4 (Ar T):=λ_ _ D=>by
 refine D.F.Io P0 (by walk_at "v") λo A d s H r Q E g h=>?_;obtain⟨p,b,t,c,m,j,i,q,v,u,B,rfl,W,l,a,f,e,C,y,k⟩:=h;refine⟨_,(aM (bM (bi lY (Ι (AZ c) (ζ 1) (ζ 2)) (Ϛ n g dq (aa (ζ 0) (aa (ζ 2) (aa (ζ 3) au))))))),?_⟩;walk_at "s";walk_at "";refine ixX l (BV a.1 a.2.2) ?_;refine⟨p,t,m,j,i,v,u,rfl,W,λG _ _ _ _ h=>?_,λz=>absurd ⟨⟨a.1,a.2.1⟩,f⟩ z,λ_ _ _ _ z=>by rw[e]at z;cases z⟩;rw[e]at h;cases h;exact⟨_,rfl,_,rfl,.inr ⟨by lia,by lia⟩,k⟩
def uk(T:Txt K I):Sp:=λe H Q _=>E10 λ(p b t:Addr)(m:Int)(d:g9)(c:hT)(a:du)(v u k:Int)=>e=[.ref p,.ref b,.int v,.int u]/\ι T.Web H p m t d c/\ν K H b (a.map V.int)/\(a.length:Int)=m/\(0<=v/\v<m)/\(0<=u/\u<m)/\ci c v u=some k/\k<=1000000/\2<=k/\Q (.bl (decide (a.getD v.toNat 0*k=a.getD u.toNat 0))) H
abbrev pW:Stmt:=top 59
theorem IY:η ["web","weights","place","front"] ["web","weights","place","front"] (aB pW):=.of
abbrev jg(P w base)(T:Txt K I):=Cb P w K I base "borne" uW ["web","weights","place","front"] 4 (Ar T)
theorem JM(T:Txt K I)(B:bU (ψ P w))(l:jg P w base T):Ok P w K I base "is_heavy" pW ["web","weights","place","front"] 5 (uk T):=λ_ _ D=>by
 refine D.F.Io IY (by walk_at "v") λy A c s H z Q E j h=>?_;obtain⟨p,b,t,m,x,o,a,v,u,d,rfl,W,i,C,g,f,q,r,n,k⟩:=h;refine⟨_,(aM (bM (ss kG (Ϛ l j dq (aa (ζ 0) (aa (ζ 1) (aa (ζ 2) (aa (ζ 3) au))))) (Ι cf (ζ 1) (ζ 3)) (oY _)))),?_⟩;walk_at "s";walk_at "";refine⟨p,b,t,true,m,x,o,a,v,u,d,rfl,W,i,⟨g.1,g.2,by lia⟩,f,q,r,n,?_⟩;refine ixS i (BV f.1 (by lia)) ?_;have e:decide (V.int (a.getD v.toNat 0*d)=V.int (a.getD u.toNat 0))=decide (a.getD v.toNat 0*d=a.getD u.toNat 0):=by simp
 rw[e];exact⟨rfl,k⟩
def mH(T:Txt K I):Sp:=λf H Q E=>E6 λ(p t:Addr)(m:Int)(e:g9)(d:hT)(r:Int)=>f=[.ref p,.int r]/\ι T.Web H p m t e d/\(0<=r->r<m->∃b c,ε m d r b c/\∀l a,H l=none->δ H a->a l=some (.lst ((jO m d r b c).map V.int))->Q (.ref l) a)/\(¬(0<=r/\r<m)->∀a,δ H a->E (.ref T.NoPlace) none a)
abbrev jK:Stmt:=top 56
theorem z9:η ["web","r","weights","place","front"] ["web","r"] (aB jK):=.of
abbrev jx(P w base)(T:Txt K I):=Cb P w K I base "inward" jN ["web","r"] 7 (kT T)
theorem zS(T:Txt K I)(hq:bU (ψ P w))(sv:jg P w base T)(fA:jx P w base T):Ok P w K I base "least_weights" jK ["web","r"] 8 (mH T):=λ_ _ D=>by
 refine D.F.Io z9 (by walk_at "v") λχ A X s H vs Q E hr h=>?_;obtain⟨p,t,m,ps,f,r,rfl,W,k,e⟩:=h;have g:=W.go;have m1:=g.m1;have Ο:=g.Ο;obtain⟨dx,ob⟩:=W.ob;refine⟨_,(aI (Μ 2 (bi pY (fG (aa aQ au)) (dP (ζ 0) rfl))) (aI (fV PassesOwn.leaving rfl (jM (Ϛ fA hr dq (aa (ζ 0) (aa (ζ 1) au)))) (nM (n:=2) rfl (dj (ϫ 3) (dj (ϫ 4) jH))) (aM (rc (pcb (ON rfl) T.max (aa (Ι cf (ζ 2) (ζ 4)) (aa (Ϛ sv hr dq (aa (ζ 0) (aa (ζ 2) (aa (ζ 3) (aa (ζ 4) au))))) au))) (rB (ζ 2) (ζ 4) jP)))) (aM (bM (ζ 2))))),?_⟩;walk_at "s";walk_at "";refine⟨dL (by simp),λY n0=>?_⟩;have s0:=δ.new (.lst [V.int 1]) n0;refine⟨T.Web,dx,_,s0 _ _ ob,T.jA,T.ό,_,hZ m t,?_⟩;refine⟨Y,m,_,rfl,rfl,az,by lia,by lia,dL (by simp;lia),λl n1=>?_⟩;rw[Bs];have B:=s0.trans (δ.new (.lst (List.replicate m.toNat (V.int 1))) n1);have nl:=s0.free n1;have e1:upd (upd H Y (.lst [V.int 1])) l (.lst (List.replicate m.toNat (V.int 1))) l=some (.lst ((List.replicate m.toNat (1:Int)).map V.int)):=by rw[az,iz]
 generalize upd (upd H Y (.lst [V.int 1])) l (.lst (List.replicate m.toNat (V.int 1)))=H1 at B e1 ⊢;refine⟨p,t,m,ps,f,r,?_⟩;refine an4 rfl (W.same B) (λr0 r1=>?_) (λz=>e z H1 B);obtain⟨c,j,R,k⟩:=k r0 r1;refine⟨c,j,R,λM C G H2 _ n2 s2 e2 pa O=>?_⟩;have L:M≠l:=λz=>by rw[z,e1]at n2;cases n2
 refine⟨M,rfl,⟨_,ν.of e2⟩,?_⟩;have ql:C.length=G.reverse.length:=Paired.length pa;have st:Bv mx m f r c j (λ_=>1) (bor f c) [] (List.replicate m.toNat (1:Int)):=Bv.nil (by rw[cD];lia) λv v0 v1=>by
  rw[List.getD,List.getElem?_replicate_of_lt (by lia)];rfl
 refine mq (K:=K) (xs:=C.map V.ref) (λi J d=>δ H d/\d M=some (.lst (C.map V.ref))/\ω d c C G.reverse/\E3 λ(o:du)(S U:Option V)=>d l=some (.lst (o.map V.int))/\Bv mx m f r c j (λ_=>1) (bor f c) (G.drop (G.length-i)) o/\J=[some (V.ref p),some (V.int r),some (V.ref l),S,U]) ⟨B.trans s2,e2,pa,_,_,_,s2 _ _ e1,by rw[fH,dR];exact st,rfl⟩ (λi J d _ z=>ν.of z.2.1) ?_ ?_
 .rintro i x J d N BB Ϭ hN hx ⟨s3,e3,pa3,o,S,U,c3,so,rfl⟩;refine Ϭ _ _ ?_;obtain⟨q,v,rfl,hq,hv,eq⟩:=pa3.get hx;obtain⟨⟨y,vn⟩,ev,Z⟩:=O.age Kk g R so hv;have u:=R.up v y.1 y.2 vn;obtain⟨kk,hk,k0,k1⟩:=lV g R y.1 y.2 vn;have cl:=so.len;walk_at "";refine⟨_,Κ.of eq,rfl,_,_,rfl,_,_,rfl,rfl,?_⟩;refine Χ c3 (BV u.1.1 (by lia)) ?_;refine⟨p,l,t,true,m,ps,f,o,v,c v,kk,rfl,W.same s3,ν.of c3,⟨y.1,y.2,by lia⟩,u.1,hk,k1,k0,?_⟩;refine⟨_,_,⟨rfl,rfl⟩,sQ c3 u.1.1 (by rw[ag];lia) (hN _ _ ⟨s3.put nl _,?_,?_,yH mx c (bor f c) o v,_,_,?_,Z,rfl⟩)⟩
  .rw[aL L];exact e3
  .exact Paired.imp' (λa b h=>by rw[aL (fS h c3 (by intro z;cases z))];exact h) pa3
  .rw[az,<-gB];unfold yH bor mx;rw[hk]
   rfl
 .rintro BB J d Ϭ ⟨s3,e3,pa3,o,S,U,c3,so,rfl⟩;refine Ϭ _ _ ?_;rw[ag,ql,aZ,d9,gh]at so;rw[O.doneF Kk g R so]at c3;walk_at "";exact k l d nl s3 c3
def Bi(T:Txt K I):Sp:=λg H Q E=>E6 λ(p t:Addr)(m:Int)(f:g9)(d:hT)(r:Int)=>g=[.ref p,.int r]/\ι T.Web H p m t f d/\(0<=r->r<m->∃a b,ε m d r a b/\∀e l c,cT m d r a b r=r::e->Order m r a e->H l=none->δ H c->c l=some (.lst (chL m (Zt m d r a b e)))->Q (.ref l) c)/\(¬(0<=r/\r<m)->∀c,δ H c->E (.ref T.NoPlace) none c)
abbrev rp:Stmt:=top 58
theorem Mm:η ["web","r","weights","chosen","place","front"] ["web","r"] (aB rp):=.of
theorem wN:ϛ (aB rp) "reversed":=.of (by kernel_rfl)
abbrev jy(P w base)(T:Txt K I):=Cb P w K I base "is_heavy" pW ["web","weights","place","front"] 5 (uk T)
abbrev jz(P w base)(T:Txt K I):=Cb P w K I base "least_weights" jK ["web","r"] 8 (mH T)
theorem Ln(T:Txt K I)(hq:bU (ψ P w))(fA:jx P w base T)(oh:jy P w base T)(gC:jz P w base T):Ok P w K I base "bearers" rp ["web","r"] 9 (Bi T):=λ_ _ D=>by
 refine D.F.Io Mm (by walk_at "v") λχ A ai s H vs Q E hr h=>?_;obtain⟨p,t,m,ps,f,r,rfl,W,k,e⟩:=h;have g:=W.go;have m1:=g.m1;have Ο:=g.Ο;obtain⟨dx,ob⟩:=W.ob;refine⟨_,(aI (Μ 2 (Ϛ gC hr dq (aa (ζ 0) (aa (ζ 1) au)))) (aI (Μ 3 (bi pY (fG (aa vo au)) (dP (ζ 0) rfl))) (aI (fV PassesOwn.leaving rfl (vk wN.g T.reversed (Ϛ fA hr dq (aa (ζ 0) (aa (ζ 1) au)))) (nM (n:=2) rfl (dj (ϫ 4) (dj (ϫ 5) jH))) (aM (fh (pR (Ϛ oh hr dq (aa (ζ 0) (aa (ζ 2) (aa (ζ 4) (aa (ζ 5) au)))))) (aM (rc (ζ 4) (rB (ζ 3) (ζ 5) jP))) dI))) (aM (bM (ζ 3)))))),?_⟩;walk_at "s";walk_at "";refine⟨p,t,m,ps,f,r,?_⟩;refine an4 rfl W (λr0 r1=>?_) e;obtain⟨c,d,R,k⟩:=k r0 r1;refine⟨c,d,R,λM H0 nw s0 ew=>⟨dL (by simp),λl0 n0=>?_⟩⟩;have L:=δ.new (.lst [V.ς]) n0;refine⟨T.Web,dx,_,L _ _ (s0 _ _ ob),T.jA,T.ό,_,hZ m t,?_⟩;refine⟨l0,m,_,rfl,rfl,az,by lia,by lia,dL (by simp;lia),λl S=>?_⟩;rw[Bs];have s2:=L.trans (δ.new (.lst (List.replicate m.toNat V.ς)) S);have nl:=(s0.trans L).free S;have ak:M≠l:=λz=>by rw[<-z,L _ _ ew]at S;cases S
 have el:chL m (λ_=>none)=List.replicate m.toNat V.ς:=by
  unfold chL;rw[List.map_const',bR]
  rfl
 have e1:upd (upd H0 l0 (.lst [V.ς])) l (.lst (List.replicate m.toNat V.ς)) l=some (.lst (chL m (Zt m f r c d []))):=by rw[az,<-el];rfl
 generalize upd (upd H0 l0 (.lst [V.ς])) l (.lst (List.replicate m.toNat V.ς))=H1 at s2 e1 ⊢;have G:=s0.trans s2;have am:=s2 _ _ ew;refine⟨p,t,m,ps,f,r,?_⟩;refine an4 rfl (W.same G) (λ_ _=>⟨c,d,R,λY B o H2 af n2 s3 e2 pa O=>?_⟩) (λz=>absurd ⟨r0,r1⟩ z);have X:Y≠l:=λz=>by rw[z,e1]at n2;cases n2
 refine⟨Y,rfl,_,ν.of e2,?_⟩;have ql:B.length=o.reverse.length:=Paired.length pa;have ll:((jO m f r c d).length:Int)=m:=by rw[uV];lia
 refine wj (K:=K) (xs:=B.map V.ref) (λi U j=>δ H j/\j M=some (.lst ((jO m f r c d).map V.int))/\j Y=some (.lst (B.map V.ref))/\ω j c B o.reverse/\∃(Z v5:Option V),j l=some (.lst (chL m (Zt m f r c d (o.take i))))/\U=[some (V.ref p),some (V.int r),some (V.ref M),some (V.ref l),Z,v5]) ⟨G.trans s3,s3 _ _ am,e2,pa,_,_,s3 _ _ e1,rfl⟩ (λi U j _ z=>ν.of z.2.2.1) ?_ ?_
 .rintro i x U j N hN hx ⟨s4,w3,e3,pa3,Z,v5,c3,rfl⟩;have il:=(aw.mp hx).1;rw[aZ,ag]at il;rw[aZ]at ql;rw[dg (by rw[ag];exact il),ag]at hx;obtain⟨q,v,rfl,Zr,hv,eq⟩:=pa3.get hx;rw[dg (by lia),show o.length-1-(B.length-1-i)=i by lia]at hv;have vm:=aX hv;have y:=O.Δ v vm;have vn:=O.ne vm;have u:=R.up v y.1 y.2 vn;obtain⟨kk,hk,k0,k1⟩:=lV g R y.1 y.2 vn;have ek:tup f c v=kk:=by unfold tup;rw[hk];rfl
  walk_at "";refine⟨_,Κ.of eq,rfl,_,_,rfl,_,_,rfl,rfl,?_⟩;refine⟨p,M,t,m,ps,f,jO m f r c d,v,c v,kk,rfl,W.same s4,ν.of w3,ll,y,u.1,hk,k1,k0,_,rfl,?_⟩;rw[pE y.1 y.2,pE u.1.1 u.1.2];have C:o.take (i+1)=o.take i++[v]:=by rw[bp,hv];rfl
  by_cases J:Ξ m f r c d v*kk=Ξ m f r c d (c v)
  .rw[aj (bE J)];refine sQ c3 u.1.1 (by unfold chL;rw[ag,bR];lia) ?_;rw[Uf u.1.1 u.1.2];exact hN _ _ ⟨s4.put nl _,by rw[aL ak];exact w3,by rw[aL X];exact e3,Paired.imp' (λa b h=>by rw[aL (fS h c3 (by intro z;cases z))];exact h) pa3,_,_,by rw[az,C,MN (by rw[ek];exact J)],rfl⟩
  .rw[ah (by rw[cV J];decide)];exact hN _ _ ⟨s4,w3,e3,pa3,_,_,by rw[C,OL (by rw[ek];exact J)];exact c3,rfl⟩
 .rintro U j ⟨s4,w3,e3,pa3,Z,v5,c3,rfl⟩;rw[aZ]at ql;rw[ag,ql,bC]at c3;walk_at "";exact k o l j af O nl s4 c3
def uU(T:Txt K I):Sp:=λd H Q _=>∃(a:Addr)(c:du),d=[.ref a]/\ν K H a (c.map V.int)/\c.length<=1000/\∀l b,H l=none->δ H b->b l=some (.lst ((dfl c).map V.int))->Q (.ref l) b
abbrev kN:Stmt:=top 74
theorem uX:η ["values","found","row"] ["values"] (aB kN):=.of
theorem xU:NmL (aB kN) "row":=.of (by kernel_rfl)
theorem yb:ϛ (aB kN) "zip":=.of (by kernel_rfl)
theorem CU(T:Txt K I)(hq:bU (ψ P w)):Ok P w K I base "differences" kN ["values"] 1 (uU T):=λ_ _ D=>by
 refine D.F.ϓ uX (by walk_at "v") λχ A af s H vs Q E hr h=>?_;obtain⟨a,xs,rfl,ha,xl,k⟩:=h;refine⟨_,(aI (Μ 1 (fG au)) (aI (Μ 2 (pct pZ T.list (aa (ζ 0) au))) (aI (tx PassesOwn.never (vQ (ζ 2) (λ_=>rfl)) (aI (fD (oB PySem.F.plainAttrs_list PySem.F.slot_list_append PySem.F.type_list_append ip (ζ 1) (aa (Ι cf (ζ 2) aQ) au))) (aM (rP (i:=2) uX.nd rfl xU.l rfl (vX (Nc:=["earlier","later"]) 2 (by decide +kernel) (by decide +kernel) rfl (by decide +kernel) rfl) (Ow true true yb.g T.zip (aa (ζ 2) (aa (Qf U9 (ζ 2) (UU aQ) UX) au))) (λ_ _ _ _=>(yA K rfl (n:=2) rfl (dj (eE (i:=0) (show(["earlier","later"]:hO).Nodup from by decide +kernel) rfl (Or.inl rfl)) (dj (eE (i:=1) (show(["earlier","later"]:hO).Nodup from by decide +kernel) rfl (Or.inl rfl)) jH)))) (λ_ _ _ _=>gP) (λ_ _ _ _=>(bi jS (pv 1) (pv 0))))))) (aM (bM (ζ 1)))))),?_⟩;walk_at "s";unfold tSl TC aaI;refine gJ λN0 h0=>?_;walk_at "";refine⟨dL (by simp),λl nl=>h0 _ _ (gJ λN1 h1=>?_)⟩;have Y:=δ.new (HO.lst []) nl;have e1:upd H l (HO.lst []) l=some (.lst (([]:du).map V.int)):=az;generalize upd H l (HO.lst [])=H1 at Y e1 ⊢;walk_at "";refine⟨_,.inl (Y.seq ha),λq nq=>h1 _ _ (gJ λN2 Z=>?_)⟩;have s2:=δ.new (HO.lst (xs.map V.int)) nq;have e2:upd H1 q (HO.lst (xs.map V.int)) q=some (.lst (xs.map V.int)):=az;have C:=s2 _ _ e1;have ϻ:=Y.trans s2;have u:q≠l:=λz=>by rw[z,e1]at nq;cases nq
 generalize upd H1 q (HO.lst (xs.map V.int))=H2 at ϻ e2 C ⊢;refine C6 (λn y j=>E3 λ(f ϱ:du)(q:Addr)=>n=f.length/\ϱ++dfl f=dfl xs/\ϱ.length+f.length=xs.length/\q≠l/\j q=some (.lst (f.map V.int))/\j l=some (.lst (ϱ.map V.int))/\δ H j/\y=[some (V.ref a),some (V.ref l),some (V.ref q)]) _ ⟨xs,[],q,rfl,rfl,by simp,u,e2,C,ϻ,rfl⟩ ?_;rintro n y j NW hN ai ⟨f,m,q,rfl,S,hl,u,U,t,s3,rfl⟩;refine⟨_,rfl,!(f.map V.int).isEmpty,.inl ⟨_,ν.of U,rfl⟩,?_⟩;cases f with
 | nil=>
   refine Vj (Z _ _ ?_);walk_at "";have S:m=dfl xs:=by
    have:m++[]=dfl xs:=S;rw[b4]at this;exact this
   exact k l j nl s3 (by rw[t,S])
 | cons x r=>
   refine Wc ⟨NW,ai,?_⟩;rw[ba]at hl;refine gJ λM1 k1=>?_;walk_at "";refine⟨Z0 t,Χ U (v:=V.int x) (gn (bO 0) rfl) (uj t (eW (by rw[ag];lia)) (k1 _ _ ?_))⟩;have e4:upd j l (HO.lst (m.map V.int++[V.int x])) l=some (.lst ((m++[x]).map V.int)):=by rw[az,aE];rfl
   have B:upd j l (HO.lst (m.map V.int++[V.int x])) q=some (.lst ((x::r).map V.int)):=by rw[aL u];exact U
   have s4:δ H (upd j l (HO.lst (m.map V.int++[V.int x]))):=λb o e=>by rw[aL (cJ e nl)];exact s3 _ _ e
   generalize upd j l (HO.lst (m.map V.int++[V.int x]))=H4 at e4 B s4 ⊢;walk_at "";refine slI (ν.of B) λp np=>?_;have R:=δ.new (HO.lst ((DQ (x::r) (some 1) none).map V.int)) np;have X:upd H4 p (HO.lst ((DQ (x::r) (some 1) none).map V.int)) p=some (.lst (((x::r).drop 1).map V.int)):=by
    rw[az,<-FS,WM _ (by decide),mE]
    rfl
   generalize upd H4 p (HO.lst ((DQ (x::r) (some 1) none).map V.int))=H5 at R X ⊢;have L:=R _ _ B;have M:=R _ _ e4;have ad:=s4.trans R;refine⟨q,p,⟨rfl,rfl⟩,⟨_,ν.of L⟩,⟨_,ν.of X⟩,λpc W=>?_⟩;refine Gh (K:=K) (c:=true) (d:=true) (a:=q) (b:=p) (xs:=(x::r).map V.int) (zs:=((x::r).drop 1).map V.int) (λi O y G=>δ H5 G/\G pc=some (.lst O)/\O=((((x::r).zip ((x::r).drop 1)).take i).map λq=>q.2-q.1).map V.int/\∃v w,y=[v,w]) ⟨δ.new _ W,az,rfl,_,_,rfl⟩ (λi O y G z=>⟨ν.of (z.1 _ _ L),ν.of (z.1 _ _ X)⟩) ?_ ?_
   .rintro i y1 y2 O y G qt N hN6 h1 Z ⟨s6,e6,rfl,v,w,rfl⟩ nqt;obtain⟨a1,J,rfl⟩:=List.τ h1;obtain⟨a2,an,rfl⟩:=List.τ Z;have ez:((x::r).zip ((x::r).drop 1))[i]?=some (a1,a2):=by
     rw[kC];exact⟨J,an⟩
    have il:=(aw.mp J).1;have et:((x::r).zip ((x::r).drop 1)).take (i+1)=((x::r).zip ((x::r).drop 1)).take i++[(a1,a2)]:=(by rw[bp,ez];rfl);rw[ba]at il;walk_at "";have s7:=δ.new (HO.tup [V.int a1,V.int a2]) nqt;refine⟨_,Κ.of az,rfl,_,_,rfl,_,_,rfl,rfl,?_⟩;walk_at "";refine⟨s7 _ _ e6,eW (by rw[ag,ag,bA];lia),hN6 _ _ _ ⟨?_,az,?_,_,_,rfl⟩⟩
    .exact λb o e=>by rw[aL (cJ e W)];exact s7 _ _ (s6 _ _ e)
    .rw[et,aE,aE]
     rfl
   .rintro O y G ⟨s6,e6,rfl,v,w,rfl⟩;have en:((((x::r).zip ((x::r).drop 1)).take (min ((x::r).map V.int).length (((x::r).drop 1).map V.int).length)).map λq=>q.2-q.1)=nxr (x::r):=by
     unfold nxr;rw[cw];rw[jo,ag,ag];exact aJ _
    rw[en]at e6;have ab:H5 l≠none:=(by rw[M];intro z;cases z);exact hN _ _ _ (by rw[CM];simp) ⟨nxr (x::r),m++[x],pc,rfl,by rw[c7,<-S,PK];rfl,by rw[aN,CM];simp;lia,λz=>ab (by rw[<-z];exact W),e6,s6 _ _ M,ad.trans s6,rfl⟩
def uB(T:Txt K I):Sp:=λe H Q _=>E3 λ(a:Addr)(b:du)(n:Int)=>e=[.ref a,.int n]/\ν K H a (b.map V.int)/\b.length<=100/\-100<=n/\n.natAbs<Rw/\(∀c∈b,c.natAbs<Rw)/\(∀k,k<b.length->(chZ n k).natAbs<Rw)/\∀d,δ H d->Q (.int (nwZ b n 0)) d
abbrev mG:Stmt:=top 75
theorem zg:η ["found","at","value","choices","k","difference"] ["found","at"] (aB mG):=.of
theorem yW:NmL (aB mG) "value":=.of (by kernel_rfl)
theorem vC:ϛ (aB mG) "enumerate":=.of (by kernel_rfl)
theorem IT(T:Txt K I)(R:bU (ψ P w)):Ok P w K I base "value_at" mG ["found","at"] 1 (uB T):=λ_ _ D=>by
 refine D.F.ϓ zg (by walk_at "v") λJ A j s H M Q E O h=>?_;obtain⟨a,f,n,rfl,r,L,t,S,cb,G,k⟩:=h;refine⟨_,(aI (Μ 2 aQ) (aI (Μ 3 aQ) (aI (fV PassesOwn.never rfl (yR true vC.g T.enumerate (ζ 0)) (nM (n:=2) rfl (dj (ϫ 4) (dj (ϫ 5) jH))) (aI (Ny (i:=2) zg.nd rfl (Or.inl yW.l) (bi oz (ζ 5) (ζ 3)) uS) (aM (Μ 3 (bi iT (bi oz (ζ 3) (bi jS (ζ 1) (ζ 4))) (bi ja (ζ 4) aQ)))))) (aM (bM (ζ 2)))))),?_⟩;walk_at "s";walk_at "";refine⟨⟨_,r⟩,?_⟩;refine HS (K:=K) (c:=true) (xs:=f.map V.int) (λi e b=>δ H b/\∃m o,e=[some (V.ref a),some (V.int n),some (V.int (nwZ (f.take i) n 0)),some (V.int (chZ n i)),m,o]) ⟨δ.refl _,_,_,by rw[P8,dY,Dk]⟩ (λi e b z=>z.1.seq r) ?_ ?_
 .rintro i x e b q N hN hx ⟨s2,m,o,rfl⟩ nq;obtain⟨c,p,rfl⟩:=List.τ hx;have u:=(aw.mp p).1;have B:f.take (i+1)=f.take i++[c]:=by rw[bp,p];rfl
  have v:=δ.new (HO.tup [V.int (i:Int),V.int c]) nq;have y:=cb c (aX p);have d:=G i u;have C:(n-(i:Int)).natAbs<Rw:=by
   have:(200:Nat)<Rw:=q8 (k:=8) (by decide) (by decide)
   lia
  walk_at "";refine⟨_,Κ.of az,rfl,_,_,rfl,_,_,rfl,rfl,c,rfl,ve y d,(i:Int),rfl,ve d C,(i:Int),rfl,⟨by lia,by lia⟩,hN _ _ ⟨s2.trans v,some (V.int (i:Int)),some (V.int c),?_⟩⟩;rw[<-Qs,Int.mul_ediv_cancel _ (show(i:Int)+1≠0 by lia),B,Sf,bA,Nat.min_eq_left (by lia),Nat.zero_add]
 .rintro e b ⟨s2,m,o,rfl⟩;rw[ag,bC];walk_at "";exact k b s2
def tY(T:Txt K I):Sp:=λe H Q _=>E3 λ(a:Addr)(b:du)(n:Nat)=>e=[.ref a,.int n]/\ν K H a (b.map V.int)/\b.length<=100/\n<=100/\(∀c∈b,c.natAbs<Rw)/\∀l d,H l=none->δ H d->d l=some (.lst (((List.range n).map λi=>Le b i 0).map V.int))->Q (.ref l) d
abbrev lU:Stmt:=top 76
theorem BR:η ["found","many"] ["found","many"] (aB lU):=.of
theorem vb:ϛ (aB lU) "range":=.of (by kernel_rfl)
theorem Ba(T:Txt K I)(z:bU (ψ P w))(d:Cb P w K I base "value_at" mG ["found","at"] 1 (uB T)):Ok P w K I base "first_values" lU ["found","many"] 2 (tY T):=λ_ _ D=>by
 refine D.F.ϓ BR (by walk_at "v") λB A j s H J Q E y h=>?_;obtain⟨a,t,n,rfl,u,x,L,cb,k⟩:=h;refine⟨_,(aM (bM (g6 rfl (Z5 ["at","found"] 1 [0]) (j9 vb.g T.range (aa (ζ 1) au)) (λ_ _ _ _=>(eE (i:=0) (show(["at","found"]:hO).Nodup from by decide +kernel) rfl (Or.inl rfl))) (λ_ _ _ _=>gP) (λ_ _ _ _=>(fF d.G (y.mono (by decide)) (by rfl) d.D.m d.D.F.kp d.D.b .nil (gU z) (aa (pv 1) (aa (pv 0) au))))))),?_⟩;walk_at "s";walk_at "";refine⟨by lia,by lia,λp q=>?_⟩;rw[cu];refine lm (lo:=0) (n:=n) (λi f l c=>δ H c/\c p=some (.lst f)/\f=((List.range i).map λi=>Le t i 0).map V.int/\∃v,l=[v,some (V.ref a)]) ⟨δ.new _ q,az,rfl,_,rfl⟩ ?_ ?_
 .rintro i f l c N hN hi ⟨s2,e2,rfl,v,rfl⟩;walk_at "";refine⟨a,t,(i:Nat),by rw[dC],s2.seq u,x,by lia,?_,cb,λk _=>(show ch i k<Rw from Vx (by lia)),λC r=>⟨r _ _ e2,eW (by rw[ag,ag,cj];lia),hN _ _ _ ⟨?_,az,?_,_,rfl⟩⟩⟩
  .exact(show i<Rw from q8 (k:=7) (by lia) (by decide))
  .exact λb o e=>by rw[aL (cJ e q)];exact r _ _ (s2 _ _ e)
  .rw[dv,aE,aE]
   rfl
 .rintro f l c ⟨s2,e2,rfl,v,rfl⟩;exact k p c q s2 e2
def Ck(T:Txt K I):Sp:=λj H Q _=>E16 λ(t i w n f h:Addr)(a:List (Str×V))(m:Int)(l:g9)(g:hT)(b:du)(d:List V)(p k c:Int)(e:Option Int)=>j=[.ref t,.int p,.int k]/\H t=some (.ins T.Tally i a)/\a.lookup ("web":Str)=some (.ref w)/\a.lookup ("weights":Str)=some (.ref f)/\a.lookup ("bearers":Str)=some (.ref h)/\ι T.Web H w m n l g/\H f=some (.lst (b.map V.int))/\(b.length:Int)=m/\H h=some (.lst d)/\(0<=p/\p<m)/\(0<=k/\k<m)/\d[p.toNat]?=some (chV e)/\ci g k p=some c/\2<=c/\c<=1000000/\Q (.bl (decide (b.getD k.toNat 0*c=b.getD p.toNat 0)&&decide (e≠some k))) H
abbrev uf:Stmt:=top 83
theorem Mo:η ["tally","place","kid"] ["tally","place","kid"] (aB uf):=.of
theorem L1(T:Txt K I)(B:bU (ψ P w))(r:jy P w base T):Ok P w K I base "is_free" uf ["tally","place","kid"] 6 (Ck T):=λ_ _ D=>by
 refine D.F.ϓ Mo (by walk_at "v") λY A g s H Z Q E y h=>?_;obtain⟨t,l,w,X,G,lb,f,m,S,N,a,cv,p,k,c,b,rfl,i,v,C,J,W,u,L,x,n,O,R,M,U,o,q⟩:=h;refine⟨_,(aM (bM (MT (Η r y B (aa (dP (ζ 0) rfl) (aa (dP (ζ 0) rfl) (aa (ζ 2) (aa (ζ 1) au))))) (Oi (ss vE (ζ 2) (Ι cf (dP (ζ 0) rfl) (ζ 1)) (oY _)))))),?_⟩;walk_at "s";walk_at "";refine⟨T.Tally,l,f,i,T.gW,T.Φ,_,v,T.Tally,l,f,i,T.gW,T.ZK,_,C,w,G,X,m,S,N,a,k,p,c,rfl,W,ν.of u,L,O,n,M,o,U,⟨_,rfl,?_⟩⟩;by_cases d:a.getD k.toNat 0*c=a.getD p.toNat 0
 .rw[aj (bE d)];refine⟨T.Tally,l,f,i,T.gW,T.xD,_,J,Χ x (gn n.1 R) ⟨?_,?_⟩⟩
  .cases b<;>rfl
  .have e:(!decide (V.int k=chV b))=(decide (a.getD k.toNat 0*c=a.getD p.toNat 0)&&decide (b≠some k)):=by
    rw[bE d,jc];cases b with
    | none=>simp[chV]
    | some j=>
      by_cases z:j=k
      .subst z;simp[chV]
      .simp[chV,z,Ne.symm z]
   rw[e];exact q
 .rw[ah (by rw[bJ];exact d)];rw[cV d,kJ]at q;exact q
def xm(T:Txt K I):Sp:=λg H Q _=>E5 λ(a b:Addr)(d e:du)(n:Nat)=>g=[.ref a,.ref b,.int n]/\ν K H a (d.map V.int)/\ν K H b (e.map V.int)/\n<d.length/\n<e.length/\n<=100/\(∀c∈d,c.natAbs<Rw)/\(∀c∈e,c.natAbs<Rw)/\∀f,δ H f->Q (.int (bV (λi=>d.getD i 0) (λi=>e.getD i 0) n)) f
abbrev o9:Stmt:=top 78
theorem F5:η ["one","other","at"] ["one","other","at"] (aB o9):=.of
theorem xx:ϛ (aB o9) "range":=.of (by kernel_rfl)
theorem GM(T:Txt K I)(O:bU (ψ P w)):Ok P w K I base "parted_at" o9 ["one","other","at"] 1 (xm T):=λ_ _ D=>by
 refine D.F.ϓ F5 (by walk_at "v") λG A l s H L Q E M h=>?_;obtain⟨a,b,c,d,n,rfl,y,C,S,R,J,z,B,k⟩:=h;refine⟨_,(aM (bM (pcb (AQ rfl) T.sum (aa (g6 rfl (Z5 ["k","one","other","at"] 1 [0,1,2]) (j9 xx.g T.range (aa (bi ja (ϙ 2) aQ) au)) (λ_ _ _ _=>(eE (i:=0) (show(["k","one","other","at"]:hO).Nodup from by decide +kernel) rfl (Or.inl rfl))) (λ_ _ _ _=>gP) (λ_ _ _ _=>(bi oz (Ι (nJ K rfl) (pv 1) (pv 0)) (Ι (nJ K rfl) (pv 2) (bi jS (pv 3) (pv 0)))))) au)))),?_⟩;walk_at "s";walk_at "";refine⟨by lia,by lia,λp x=>?_⟩;rw[show((n:Int)+1).toNat=n+1 by lia];refine lm (lo:=0) (n:=n+1) (λi j m f=>δ H f/\f p=some (.lst j)/\j=((List.range i).map λk=>c.getD k 0*d.getD (n-k) 0).map V.int/\∃v,m=[v,some (V.ref a),some (V.ref b),some (V.int n)]) ⟨δ.new _ x,az,rfl,_,rfl⟩ ?_ ?_
 .rintro i j m f N hN hi ⟨s2,e2,rfl,v,rfl⟩;walk_at "";have q:i<c.length:=by lia
  have r:n-i<d.length:=by lia
  have u:c.getD i 0=c[i]:=by rw[bj,aA q];rfl
  have t:d.getD (n-i) 0=d[n-i]:=by rw[bj,aA r];rfl
  refine⟨a,_,_,_,rfl,rfl,s2.seq y,gn (v:=V.int (c.getD i 0)) (by lia) (by rw[show((0:Int)+(i:Int)).toNat=i by lia,aG,aA q,u];rfl),b,_,_,_,rfl,rfl,s2.seq C,gn (v:=V.int (d.getD (n-i) 0)) (by lia) (by rw[show((n:Int)-(0+(i:Int))).toNat=n-i by lia,aG,aA r,t];rfl),c.getD i 0,rfl,d.getD (n-i) 0,rfl,ve (by rw[u];exact z _ (cZ q)) (by rw[t];exact B _ (cZ r)),e2,eW (by rw[ag,ag,cj];lia),hN _ _ _ ⟨?_,az,?_,_,rfl⟩⟩
  .exact λb o e=>by rw[aL (cJ e x)];exact s2 _ _ e
  .rw[dv,aE,aE]
   rfl
 .rintro j m f ⟨s2,e2,rfl,v,rfl⟩;refine⟨p,rfl,_,.inl (ν.of e2),?_⟩;rw[J4];exact k f s2
def DV(T:Txt K I):Sp:=λg H Q _=>E4 λ(a b:Addr)(d e:du)=>g=[.ref a,.ref b]/\ν K H a (d.map V.int)/\ν K H b (e.map V.int)/\d.length<=e.length/\d.length<=100/\(∀c∈d,c.natAbs<Rw)/\(∀c∈e,c.natAbs<Rw)/\∀l f,H l=none->δ H f->f l=some (.lst (((List.range d.length).map λn=>bV (λi=>d.getD i 0) (λi=>e.getD i 0) n).map V.int))->Q (.ref l) f
abbrev sN:Stmt:=top 77
theorem MM:η ["one","other"] ["one","other"] (aB sN):=.of
theorem Cu:ϛ (aB sN) "range":=.of (by kernel_rfl)
theorem No(T:Txt K I)(z:bU (ψ P w))(d:Cb P w K I base "parted_at" o9 ["one","other","at"] 1 (xm T)):Ok P w K I base "parted" sN ["one","other"] 2 (DV T):=λ_ _ D=>by
 refine D.F.ϓ MM (by walk_at "v") λL A l s H O Q E y h=>?_;obtain⟨a,b,j,t,rfl,u,J,R,S,B,C,k⟩:=h;refine⟨_,(aM (bM (g6 rfl (Z5 ["at","one","other"] 1 [0,1]) (j9 Cu.g T.range (aa (pcb jF T.len (aa (ϙ 0) au)) au)) (λ_ _ _ _=>(eE (i:=0) (show(["at","one","other"]:hO).Nodup from by decide +kernel) rfl (Or.inl rfl))) (λ_ _ _ _=>gP) (λ_ _ _ _=>(fF d.G (y.mono (by decide)) (by rfl) d.D.m d.D.F.kp d.D.b .nil (gU z) (aa (pv 1) (aa (pv 2) (aa (pv 0) au)))))))),?_⟩;walk_at "s";walk_at "";refine⟨_,.inl u,?_⟩;rw[ag];refine⟨by lia,by lia,λp r=>?_⟩;rw[cu];refine lm (lo:=0) (n:=j.length) (λi f q c=>δ H c/\c p=some (.lst f)/\f=((List.range i).map λn=>bV (λi=>j.getD i 0) (λi=>t.getD i 0) n).map V.int/\∃v,q=[v,some (V.ref a),some (V.ref b)]) ⟨δ.new _ r,az,rfl,_,rfl⟩ ?_ ?_
 .rintro i f q c N hN hi ⟨s2,e2,rfl,v,rfl⟩;walk_at "";refine⟨a,b,j,t,i,by rw[dC],s2.seq u,s2.seq J,hi,by lia,by lia,B,C,λM x=>⟨x _ _ e2,eW (by rw[ag,ag,cj];lia),hN _ _ _ ⟨?_,az,?_,_,rfl⟩⟩⟩
  .exact λb o e=>by rw[aL (cJ e r)];exact x _ _ (s2 _ _ e)
  .rw[dv,aE,aE]
   rfl
 .rintro f q c ⟨s2,e2,rfl,v,rfl⟩;exact k p c r s2 e2
def zO(T:Txt K I):Sp:=λf H Q _=>E12 λ(t d w g:Addr)(b:List (Str×V))(m:Int)(e:g9)(a:hT)(p k c:Int)(n:Nat)=>f=[.ref t,.int p,.int k,.int n]/\H t=some (.ins T.Tally d b)/\b.lookup ("web":Str)=some (.ref w)/\ι T.Web H w m g e a/\(0<=p/\p<m)/\(0<=k/\k<m)/\ci a k p=some c/\2<=c/\c<=1000000/\Q (.int (((n:Int)+1)*c-1)) H
abbrev rR:Stmt:=top 86
theorem IP:η ["tally","place","kid","given"] ["tally","place","kid","given"] (aB rR):=.of
theorem IE(T:Txt K I)(o:bU (ψ P w))(C:jb P w base T):Ok P w K I base "held_for" rR ["tally","place","kid","given"] 4 (zO T):=λ_ _ D=>by
 refine D.F.ϓ IP (by walk_at "v") λG A b s H L Q E l h=>?_;obtain⟨t,i,w,B,f,m,y,v,p,k,c,n,rfl,g,j,W,r,x,e,M,J,q⟩:=h;refine⟨_,(aM (bM (bi jS (bi lY (bi ja (ζ 3) aQ) (Η C l o (aa (dP (ζ 0) rfl) (aa (ζ 2) (aa (ζ 1) au))))) aQ))),?_⟩;walk_at "s";walk_at "";refine⟨T.Tally,i,f,g,T.gW,T.Φ,_,j,w,B,m,y,v,k,p,rfl,W,λd _ _ _ _ a=>?_,λu=>absurd ⟨x,r⟩ u,λ_ _ _ _ a=>absurd (e.symm.trans a) (by intro z;cases z)⟩;have:d=c:=bq (a.symm.trans e);subst this;exact⟨d,rfl,.inr ⟨by lia,by lia⟩,q⟩
def vF(T:Txt K I):Sp:=λi H Q _=>E11 λ(t h d b ld:Addr)(f:List (Str×V))(g pv:List V)(p:Int)(a:du)(n:Nat)=>i=[.ref t,.int p,.int n]/\H t=some (.ins T.Tally h f)/\f.lookup ("rests":Str)=some (.ref d)/\H d=some (.lst g)/\0<=p/\g[p.toNat]?=some (.ref b)/\H b=some (.lst (.ref ld::pv))/\H ld=some (.lst (a.map V.int))/\a.length<=100/\n<Rw/\(∀c∈a,c.natAbs<Rw)/\(∀k,k<a.length->ch n k<Rw)/\∀e,δ H e->Q (.int (Le a n 0)) e
abbrev qX:Stmt:=top 84
theorem Lq:η ["tally","place","held"] ["tally","place","held"] (aB qX):=.of
theorem Mh(T:Txt K I)(q:bU (ψ P w))(b:Cb P w K I base "value_at" mG ["found","at"] 1 (uB T)):Ok P w K I base "ways_of" qX ["tally","place","held"] 2 (vF T):=λ_ _ D=>by
 refine D.F.ϓ Lq (by walk_at "v") λy A a s H C Q E o h=>?_;obtain⟨t,i,B,z,ld,d,G,pv,p,u,n,rfl,f,g,m,e,r,c,j,l,v,cb,x,k⟩:=h;refine⟨_,(aM (bM (Η b o q (aa (Ι cf (qO cf (dP (ζ 0) rfl) (ζ 1) (λ_ _=>rfl)) aQ) (aa (ζ 2) au))))),?_⟩;walk_at "s";walk_at "";refine⟨T.Tally,i,d,f,T.gW,T.ZS,_,g,Χ m (gn e r) (Χ c (gn (bO 0) rfl) ?_)⟩;exact⟨ld,u,n,rfl,ν.of j,l,by lia,v,cb,x,k⟩
def wD(T:Txt K I):Sp:=λj H Q _=>E18 λ(t i w o e d ld:Addr)(b:List (Str×V))(m:Int)(l:g9)(f:hT)(h pv:List V)(p k:Int)(c n:Nat)(a:du)=>j=[.ref t,.int p,.int k,.int n]/\H t=some (.ins T.Tally i b)/\b.lookup ("web":Str)=some (.ref w)/\b.lookup ("rests":Str)=some (.ref e)/\ι T.Web H w m o l f/\(0<=p/\p<m)/\(0<=k/\k<m)/\ci f k p=some (c:Int)/\2<=c/\c<=1000000/\H e=some (.lst h)/\h[k.toNat]?=some (.ref d)/\H d=some (.lst (.ref ld::pv))/\H ld=some (.lst (a.map V.int))/\a.length<=24/\n<=24/\(∀c∈a,c.natAbs<Rw)/\∀g,δ H g->Q (.int (Le a (ϋ c n) 0)) g
abbrev qh:Stmt:=top 85
theorem ET:η ["tally","place","kid","given"] ["tally","place","kid","given"] (aB qh):=.of
abbrev m2(P w base)(T:Txt K I):=Cb P w K I base "ways_of" qX ["tally","place","held"] 2 (vF T)
theorem EU(T:Txt K I)(l:bU (ψ P w))(L:Cb P w K I base "held_for" rR ["tally","place","kid","given"] 4 (zO T))(N:m2 P w base T):Ok P w K I base "ways_given" qh ["tally","place","kid","given"] 5 (wD T):=λ_ _ D=>by
 refine D.F.ϓ ET (by walk_at "v") λY A a s H vs Q E i h=>?_;obtain⟨t,g,w,U,z,x,ld,d,m,S,O,X,pv,p,k,c,n,M,rfl,f,B,v,W,J,o,R,c2,u,G,b,r,y,Z,C,cb,q⟩:=h;refine⟨_,(aM (bM (Η N i l (aa (ζ 0) (aa (ζ 2) (aa (Η L i l (aa (ζ 0) (aa (ζ 1) (aa (ζ 2) (aa (ζ 3) au))))) au)))))),?_⟩;walk_at "s";walk_at "";have e:((n:Int)+1)*(c:Int)-1=((ϋ c n:Nat):Int):=by
  unfold ϋ;have:1<=(n+1)*c:=dH (show 1<=n+1 by lia) (show 1<=c by lia);rw[Int.natCast_sub this,Int.natCast_mul]
  rfl
 have V:ϋ c n+1<=2^25:=by
  unfold ϋ;have h1:(n+1)*c<=25*1000000:=dH (by lia) u;have h2:(2:Nat)^25=33554432:=rfl
  lia
 refine⟨t,g,w,U,d,m,S,O,p,k,c,n,rfl,f,B,W,J,o,R,by lia,by lia,?_⟩;rw[e];exact⟨t,g,z,x,ld,d,X,pv,k,M,ϋ c n,rfl,f,v,G,o.1,b,r,y,by lia,q8 (k:=25) (by lia) (by decide),cb,λj hj=>KM V (by lia),q⟩
def tL(H:Hp)(b:List Int->Nat)(f:List Int->Nat->Int)(e:g9)(a:List (List Int)):Prop:=Paired (λld c=>∃d:List Int,H ld=some (.lst (d.map V.int))/\Ϩ (b c) d (f c)) e a
structure aeH(H:Hp)(rs:hT)(m p:Int)(rv:List V)(W:Int->Nat->Int)(c d:fz)(k:Int):Prop where
 k0:0<=k
 k1:k<m
 tl:ci rs k p=some (c k:Int)
 c2:2<=c k
 c1:c k<=1000000
 wk:uu (d k) (W k)
 at_:E4 λ(lp ld:Addr)(pv:List V)(cs:du)=>rv[k.toNat]?=some (.ref lp)/\H lp=some (.lst (.ref ld::pv))/\H ld=some (.lst (cs.map V.int))/\Ϩ 15000 cs (W k)
def frK(a:du)(b:Option Int)(c:fz)(p k:Int):Bool:=decide (a.getD k.toNat 0*(c k:Int)=a.getD p.toNat 0)&&decide (b≠some k)
def beK(a:Option Int)(k:Int):Bool:=decide (a=some k)
def zh(T:Txt K I):Sp:=λz H Q _=>E23 λ(t y w B r u j n b:Addr)(a:List (Str×V))(m:Int)(A:g9)(s:hT)(h:du)(o q v:List V)(p:Int)(e:du)(i:Option Int)(W:Int->Nat->Int)(c d:fz)=>z=[.ref t,.int p]/\H t=some (.ins T.Tally y a)/\a.lookup ("web":Str)=some (.ref w)/\a.lookup ("weights":Str)=some (.ref r)/\a.lookup ("bearers":Str)=some (.ref u)/\a.lookup ("kids":Str)=some (.ref j)/\a.lookup ("rests":Str)=some (.ref n)/\ι T.Web H w m B A s/\H r=some (.lst (h.map V.int))/\(h.length:Int)=m/\H u=some (.lst o)/\H j=some (.lst q)/\H n=some (.lst v)/\(0<=p/\p<m)/\o[p.toNat]?=some (chV i)/\q[p.toNat]?=some (.ref b)/\H b=some (.lst (e.map V.int))/\(∀k∈e,aeH H s m p v W c d k)/\((e.map λk=>d k+1).sum:Int)<m/\∀l x f,H l=none->δ H f->f l=some (.lst (x.map V.ref))->tL f (Z4 d) (ϝ (frK h i c p) (beK i) (λk g=>W k (ϋ (c k) g))) x (sfx e)->Q (.ref l) f
abbrev jr:Stmt:=top 82
theorem qT:η ["tally","place","many","rests","kid","ways"] ["tally","place"] (aB jr):=.of
theorem zc:NmC (aB jr) "rests":=.of (by kernel_rfl)
theorem BZ:NmC (aB jr) "kid":=.of (by kernel_rfl)
theorem AX:NmC (aB jr) "ways":=.of (by kernel_rfl)
theorem pO:ϛ (aB jr) "reversed":=.of (by kernel_rfl)
theorem y9:ϛ (aB jr) "range":=.of (by kernel_rfl)
theorem Ah:ϛ (aB jr) "list":=.of (by kernel_rfl)
theorem JK(T:Txt K I)(hq:bU (ψ P w))(pj:Cb P w K I base "differences" kN ["values"] 1 (uU T))(qL:Cb P w K I base "first_values" lU ["found","many"] 2 (tY T))(xE:Cb P w K I base "is_free" uf ["tally","place","kid"] 6 (Ck T))(AV:Cb P w K I base "parted" sN ["one","other"] 2 (DV T))(lS:Cb P w K I base "ways_given" qh ["tally","place","kid","given"] 5 (wD T)):Ok P w K I base "rests_of" jr ["tally","place"] 7 (zh T):=λ_ _ D=>by
 refine D.F.ϓ qT (by walk_at "v") λχ A c3 s H vs Q E hr h=>?_;obtain⟨t,dx,w,tw,lw,lb,lk,lr,dO,fs,m,ps,rs,xs,cv,kv,rv,p,ks,ob,W,c,d,rfl,ht,fw,fg,fb,fk,fr,WA,eg,xl,eb,ek,c5,hp,bo,cC,bk,ad,dm,q⟩:=h;refine⟨_,(aI (Μ 2 (dP (dP (ϙ 0) rfl) rfl)) (aI (pV (i:=3) qT.nd rfl (Or.inr zc.l) (fG (aa (fG (aa aQ au)) au))) (aI (fV PassesOwn.never rfl (vk pO.g T.reversed (Ι cf (dP (ϙ 0) rfl) (ϙ 1))) (eE (i:=4) qT.nd rfl (Or.inr BZ.l)) (aI (pV (i:=5) qT.nd rfl (Or.inr AX.l) (g6 rfl (Z5 ["given","tally","place","kid"] 1 [0,1,4]) (j9 y9.g T.range (aa (ζ 2) au)) (λ_ _ _ _=>(eE (i:=0) (show(["given","tally","place","kid"]:hO).Nodup from by decide +kernel) rfl (Or.inl rfl))) (λ_ _ _ _=>gP) (λ_ _ _ _=>(fF lS.G (hr.mono (by decide)) (by rfl) lS.D.m lS.D.F.kp lS.D.b .nil (gU hq) (aa (pv 1) (aa (pv 2) (aa (pv 3) (aa (pv 0) au)))))))) (aM (fh (pR (Η xE hr hq (aa (ϙ 0) (aa (ϙ 1) (aa (ϙ 4) au))))) (aM (fD (oB PySem.F.plainAttrs_list PySem.F.slot_list_append PySem.F.type_list_append ip (ϙ 3) (aa (Η pj hr hq (aa (Η AV hr hq (aa (ϙ 5) (aa (Η qL hr hq (aa (Ι cf (ϙ 3) (yP uP aQ)) (aa (ζ 2) au))) au))) au)) au)))) (aM (fh (lE kG (ϙ 4) (Ι cf (dP (ϙ 0) rfl) (ϙ 1))) (aM (fD (oB PySem.F.plainAttrs_list PySem.F.slot_list_append PySem.F.type_list_append ip (ϙ 3) (aa (Η pj hr hq (aa (g6 rfl (Z5 ["count","rests"] 1 [3]) (jM (ϙ 5)) (λ_ _ _ _=>(eE (i:=0) (show(["count","rests"]:hO).Nodup from by decide +kernel) rfl (Or.inl rfl))) (λ_ _ _ _=>gP) (λ_ _ _ _=>(bi oz (pv 0) (Ι (nJ K rfl) (qO (nJ K rfl) (pv 1) (yP uP aQ) (λ_ _=>rfl)) aQ)))) au)) au)))) (aM (fD (oB PySem.F.plainAttrs_list PySem.F.slot_list_append PySem.F.type_list_append ip (ϙ 3) (aa (g6 rfl (Z5 ["difference","ways"] 1 [5]) (jM (Ι cf (ϙ 3) (yP uP aQ))) (λ_ _ _ _=>(eE (i:=0) (show(["difference","ways"]:hO).Nodup from by decide +kernel) rfl (Or.inl rfl))) (λ_ _ _ _=>gP) (λ_ _ _ _=>(bi oz (Ι (nJ K rfl) (pv 1) aQ) (pv 0)))) au)))))))))) (aM (bM (T7 rfl pO.g T.reversed Ah.g T.list (ϙ 3))))))),?_⟩;walk_at "s";obtain⟨dw,wb⟩:=WA.ob;refine gJ λN0 h0=>?_;walk_at "";refine⟨T.Tally,dx,fs,ht,T.gW,T.Φ,_,fw,w,rfl,T.Web,dw,_,wb,T.jA,T.ό,_,hZ _ _,h0 _ _ (gJ λN1 h1=>?_)⟩;walk_at "";refine⟨dL (by simp),λq1 bY=>⟨dL (by simp),λl nl=>h1 _ _ (gJ λN2 h2=>?_)⟩⟩;have s1:=δ.new (HO.lst [V.int 1]) bY;have s2:=δ.new (HO.lst [V.ref q1]) nl;have ds:H l=none:=s1.free nl;have e1:=s2 _ _ (az (H:=H) (a:=q1) (o:=HO.lst [V.int 1]));have el:upd (upd H q1 (HO.lst [V.int 1])) l (HO.lst [V.ref q1]) l=some (.lst ([q1].map V.ref)):=az;have ϻ:=s1.trans s2;generalize upd (upd H q1 (HO.lst [V.int 1])) l (HO.lst [V.ref q1])=H2 at e1 el ϻ ⊢;clear s1 s2 nl bY h0 h1;walk_at "";have g:=WA.go;have m1:=g.m1;have Ο:=g.Ο;refine⟨T.Tally,dx,fs,ϻ _ _ ht,T.gW,T.Ϙ,_,fk,Χ (ϻ _ _ ek) (gn hp.1 cC) ⟨dO,rfl,_,ν.of (ϻ _ _ bk),?_⟩⟩;generalize hF:ϝ (frK xs ob c p) (beK ob) (λk g=>W k (ϋ (c k) g))=F at q;have c0:∀k∈ks,uu (d k) (W k):=λk hk=>(ad k hk).wk;have dc:∀k∈ks,1<=c k/\c k<=1000000:=λk hk=>⟨bw (by decide) (ad k hk).c2,(ad k hk).c1⟩;refine wj (K:=K) (xs:=ks.map V.int) (λi J H3=>δ H H3/\(∃(X:g9)(ld:Addr),H3 l=some (.lst ((X++[ld]).map V.ref))/\tL H3 (Z4 d) F (X++[ld]) ((List.range (i+1)).map λj=>ks.drop (ks.length-j)))/\∃v4 v5,J=[some (V.ref t),some (V.int p),some (V.int m),some (V.ref l),v4,v5]) ?_ (λi J H3 _ z=>ν.of (z.1 _ _ bk)) ?_ ?_
 .refine⟨ϻ,⟨[],q1,el,.cons ⟨[1],e1,?_⟩ .nil⟩,_,_,rfl⟩;have e:ks.drop (ks.length-0)=[]:=by rw[fH,dR]
  show Ϩ (Z4 d (ks.drop (ks.length-0))) [1] (F (ks.drop (ks.length-0)));rw[e,<-hF];exact Ϩ.one
 .rintro i x J H3 N hN B ⟨s3,⟨X,ld,e3,ra⟩,v4,v5,rfl⟩;rw[<-eC]at B;obtain⟨k,hk,rfl⟩:=List.τ B;have il:i<ks.length:=by
   have:=(aw.mp hk).1;rw[aZ]at this;exact this
  have cd:ks[ks.length-1-i]?=some k:=by
   rw[dg il]at hk;exact hk
  have eS:ks.drop (ks.length-(i+1))=k::ks.drop (ks.length-i):=by
   rw[show ks.length-(i+1)=ks.length-1-i by lia,iG (by lia),(aw.mp cd).2,show ks.length-1-i+1=ks.length-i by lia]
  have km:=aX cd;have L:=ad k km;obtain⟨kp,kd,pv,cs,c4,k2,k3,kc⟩:=L.at_;have a5:∀x∈k::ks.drop (ks.length-i),x∈ks:=λx B=>by
   rw[<-eS]at B;exact fT B
  have dS:((k::ks.drop (ks.length-i)).map λk=>d k+1).sum<m.toNat:=by
   rw[<-eS];have:=Gn (λk=>d k+1) ks (ks.length-(i+1))
   lia
  have er:(List.range (i+1+1)).map (λj=>ks.drop (ks.length-j))=((List.range (i+1)).map λj=>ks.drop (ks.length-j))++[k::ks.drop (ks.length-i)]:=by rw[dv,aE,<-eS];rfl
  obtain⟨cS,dk,u⟩:∃cS:List Int,H3 ld=some (.lst (cS.map V.int))/\Ϩ (Z4 d (ks.drop (ks.length-i))) cS (F (ks.drop (ks.length-i))):=by
   have:=ra;unfold tL at this;rw[dv,aE]at this;obtain⟨l0,a0,h2,_,h4⟩:=B4 this;have h5:=(g0 (List.append_inj' h2 rfl).2).1;rw[h5];exact h4
  generalize ks.drop (ks.length-i)=S at a5 dS er u eS;have cB:∀{y:Addr}{zs:du},zs≠[]->H3 y=some (.lst (zs.map V.int))->y≠l:=λ{y zs} zn hy z=>by
   rw[z,e3]at hy;injection hy with hy
   injection hy with hy
   cases zs with
   | nil=>exact zn rfl
   | cons z0 zs=>
     cases X with
     | nil=>cases(g0 hy).1
     | cons _ _=>cases(g0 hy).1
  have ab:∀(y:Addr)(Z:du)(f:Hp),δ H3 f->f y=some (.lst (Z.map V.int))->Ϩ (Z4 d (k::S)) Z (F (k::S))->(X++[ld]).length<sizeLine->∀v5,tyV K "list" (V.ref l) f/\iD (V.ref l) [V.ref y] f λ_ H6=>N [some (V.ref t),some (V.int p),some (V.int m),some (V.ref l),some (V.int k),v5] H6:=by
   intro y Z f C ey bl sz v5;have O:=C _ _ e3;refine⟨Z0 O,uj O (by rw[ag];exact sz) (hN _ _ ⟨λb o e=>?_,⟨X++[ld],y,by rw[az,aE (l₂:=[y])];rfl,?_⟩,_,_,rfl⟩)⟩
   .rw[aL (cJ e ds)];exact C _ _ (s3 _ _ e)
   .rw[er];have yl:y≠l:=λz=>by
     rw[z,O]at ey;injection ey with ey
     injection ey with ey
     cases Z with
     | nil=>exact bl.ne rfl
     | cons z0 zs=>
       cases X with
       | nil=>cases(g0 ey).1
       | cons _ _=>cases(g0 ey).1
    refine sJ ⟨Z,by rw[aL yl];exact ey,bl⟩ (Paired.imp' (λb kk ⟨cb,h1,h2⟩=>⟨cb,?_,h2⟩) ra);rw[aL (cB h2.ne h1)];exact C _ _ h1
  have av:(X++[ld]).length<sizeLine:=by
   have:=Paired.length ra;rw[ag,cj]at this;exact eW (by have:=Gn (λk=>d k+1) ks 0;have:ks.length<=(ks.map λk=>d k+1).sum:=MU ks;lia)
  refine gJ λM1 k1=>?_;walk_at "";refine⟨by lia,by lia,λpw bv=>?_⟩;have R:∀{b:Nat}{z:Int},b<=15000->z.natAbs<=2^b->z.natAbs<Rw:=λ{b z} hb hz=>q8 hz (by lia);refine lm (lo:=0) (n:=m.toNat) (λj M J H4=>δ H3 H4/\H4 pw=some (.lst M)/\M=((List.range j).map λg=>W k (ϋ (c k) g)).map V.int/\∃v,J=[v,some (V.ref t),some (V.int p),some (V.int k)]) ⟨δ.new _ bv,az,rfl,_,rfl⟩ ?_ ?_
  .rintro j M J H4 N4 hN4 hj ⟨Y,e4,rfl,v,rfl⟩;walk_at "";have r:=s3.trans Y;refine⟨t,dx,w,tw,lr,kp,kd,fs,m,ps,rs,rv,pv,p,k,c k,j,cs,by rw[dC],r _ _ ht,fw,fr,WA.same r,hp,⟨L.k0,L.k1⟩,L.tl,L.c2,L.c1,r _ _ c5,c4,r _ _ k2,r _ _ k3,kc.len,by lia,λx B=>R (aJ _) (kc.bt x B),λf C=>⟨C _ _ e4,eW (by rw[ag,ag,cj];lia),hN4 _ _ _ ⟨?_,az,?_,_,rfl⟩⟩⟩
   .exact λb o e=>by rw[aL (cJ e bv)];exact C _ _ (Y _ _ e)
   .rw[dv,aE,aE,kc.val]
    rfl
  .rintro M J H4 ⟨Y,e4,rfl,v,rfl⟩;refine k1 _ _ ?_;have r:=s3.trans Y;have b3:∀j,j<m.toNat->(W k (ϋ (c k) j)).natAbs<=2^(d k*(25+20*d k)):=λj hj=>tV (GA L.wk (bw (by decide) L.c2) L.c1 (by lia));have ca:d k*(25+20*d k)<=15000:=by
    have:=Bp (d:=d) (ks:=k::S) (by lia);rw[wd]at this
    lia
   have bs:∀x∈(List.range m.toNat).map λg=>W k (ϋ (c k) g),x.natAbs<Rw:=λx B=>by
    obtain⟨j,hj,rfl⟩:=aR.mp B;exact R ca (b3 j (cQ.mp hj))
   have bS:Z4 d S<=15000:=Bp (by rw[aF,aK]at dS;lia);have aT:∀{f:Hp},δ H4 f->gT ((X++[ld]).map V.ref) (-1)=some (V.ref ld):=λ_=>by rw[aE];exact UC _ _
   have aS:∀x∈k::S,uu (d x) (W x):=λx B=>c0 x (a5 x B);have a4:∀x∈k::S,1<=c x/\c x<=1000000:=λx B=>dc x (a5 x B);walk_at "";refine⟨t,dx,w,tw,lw,lb,fs,m,ps,rs,xs,cv,p,k,c k,ob,rfl,r _ _ ht,fw,fg,fb,WA.same r,r _ _ eg,xl,r _ _ eb,hp,⟨L.k0,L.k1⟩,bo,L.tl,by have:=L.c2;lia,by have:=L.c1;lia,⟨_,rfl,?_⟩⟩;subst hF;change if frK xs ob c p k=true then _ else _;have eN:((m.toNat:Nat):Int)=m:=bW (by lia);have a2:m.toNat<=24:=(by lia);have U:=Y _ _ e3;have ae:=Y _ _ dk;have Zx:((List.range m.toNat).map λg=>W k (ϋ (c k) g)).length=m.toNat:=(by rw[ag,cj]);by_cases hf:frK xs ob c p k=true
   .rw[aj hf];refine⟨Z0 U,Χ U (aT (δ.refl _)) ⟨ld,cS,m.toNat,by rw[eN],ν.of ae,by have:=u.len;lia,by lia,λx B=>R bS (u.bt x B),λl5 f n5 C O=>?_⟩⟩;refine⟨pw,l5,_,_,rfl,ν.of (C _ _ e4),ν.of O,by rw[Zx,ag,cj];exact aJ _,by rw[Zx];lia,bs,λx B=>?_,λl6 H6 n6 s6 e6=>?_⟩
    .obtain⟨j,hj,rfl⟩:=aR.mp B;rw[u.val];exact R (bw (Ds d S) bS) (tV (Eh a2 (λx B=>aS x (.tail _ B)) (λx B=>a4 x (.tail _ B)) j (cQ.mp hj)))
    .refine⟨l6,_,rfl,ν.of e6,by rw[ag,cj,Zx];lia,λl7 H7 n7 s7 e7=>(ab l7 _ H7 (Y.trans (C.trans (s6.trans s7))) e7 ?_ av _).2⟩;refine NL a2 aS a4 dS ?_;rw[Zx];refine bQ λn hn=>?_;have hn:=cQ.mp hn;rw[vK hf];exact M2 (λi hi=>Gd (by lia)) λi hi=>by rw[Gd (by lia),u.val]
   .rw[ah hf];refine⟨T.Tally,dx,fs,r _ _ ht,T.gW,T.xD,_,fb,Χ (r _ _ eb) (gn hp.1 bo) ⟨by cases ob<;>rfl,?_⟩⟩;obtain⟨rS,eh⟩:=u.head;by_cases hb:ob=some k
    .rw[aj (by rw[hb];rfl)];have a6:beK ob k=true:=bE hb;refine⟨Z0 U,⟨_,ν.of e4⟩,λpc Zm=>?_⟩;refine nS (K:=K) (c:=true) (a:=pw) (xs:=((List.range m.toNat).map λg=>W k (ϋ (c k) g)).map V.int) (λj M J f=>δ H4 f/\f pc=some (.lst M)/\M=((((List.range m.toNat).map λg=>W k (ϋ (c k) g)).take j).map λx=>x*ϝ (frK xs ob c p) (beK ob) (λk g=>W k (ϋ (c k) g)) S 0).map V.int/\∃v,J=[v,some (V.ref l)]) ⟨δ.new _ Zm,az,rfl,_,rfl⟩ (λj M J f _ ⟨z,_⟩=>ν.of (z _ _ e4)) ?_ ?_
     .rintro j x M J f N5 hN5 hj ⟨C,O,rfl,v,rfl⟩;obtain⟨z,hz,rfl⟩:=List.τ hj;have et:((List.range m.toNat).map λg=>W k (ϋ (c k) g)).take (j+1)=((List.range m.toNat).map λg=>W k (ϋ (c k) g)).take j++[z]:=(by rw[bp,hz];rfl);walk_at "";refine Χ (C _ _ U) (aT (δ.refl _)) (Χ (v:=V.int (ϝ (frK xs ob c p) (beK ob) (λk g=>W k (ϋ (c k) g)) S 0)) (C _ _ ae) (gn (bO 0) (by rw[eh];rfl)) ⟨_,rfl,ve (bs z (aX hz)) (R bS (u.bt _ (by rw[eh];exact .head _))),O,eW (by rw[ag,ag,bA,Zx];lia),hN5 _ _ _ ⟨?_,az,?_,_,rfl⟩⟩)
      .exact λb o e=>by rw[aL (cJ e Zm)];exact C _ _ e
      .rw[et,aE,aE]
       rfl
     .rintro M J f ⟨C,O,rfl,v,rfl⟩;rw[ag,Zx,cw (by rw[Zx];exact aJ _)]at O;refine⟨pc,_,rfl,ν.of O,by rw[ag,Zx];lia,λl7 H7 n7 s7 e7=>(ab l7 _ H7 (Y.trans (C.trans s7)) e7 ?_ av _).2⟩;refine NL a2 aS a4 dS ?_;rw[ee];refine bQ λn hn=>?_;rw[wc hf a6]
      rfl
    .rw[ah (λz=>hb (by cases ob with
      | none=>cases z
      | some j=>injection z with z;rw[z]))]
     have a6:¬beK ob k=true:=(by unfold beK;rw[bJ];exact hb);have fp:m.toNat=(m.toNat-1)+1:=(by lia);have w0:∀{f:Hp},δ H4 f->f pw=some (.lst (((List.range m.toNat).map λg=>W k (ϋ (c k) g)).map V.int)):=λs=>s _ _ e4;have a0:gT (((List.range m.toNat).map λg=>W k (ϋ (c k) g)).map V.int) 0=some (V.int (W k (ϋ (c k) 0))):=gn (bO 0) (by
      show(((List.range m.toNat).map λg=>W k (ϋ (c k) g)).map V.int)[0]?=_;rw[aG,aG,eA (by lia)]
      rfl)
     refine⟨Z0 U,Χ U (aT (δ.refl _)) ⟨ld,rfl,⟨_,ν.of ae⟩,λpc Zm=>?_⟩⟩;refine nS (K:=K) (c:=true) (a:=ld) (xs:=cS.map V.int) (λj M J f=>δ H4 f/\f pc=some (.lst M)/\M=((cS.take j).map λx=>W k (ϋ (c k) 0)*x).map V.int/\∃v,J=[v,some (V.ref pw)]) ⟨δ.new _ Zm,az,rfl,_,rfl⟩ (λj M J f _ ⟨z,_⟩=>ν.of (z _ _ ae)) ?_ ?_
     .rintro j x M J f N5 hN5 hj ⟨C,O,rfl,v,rfl⟩;obtain⟨z,hz,rfl⟩:=List.τ hj;have et:cS.take (j+1)=cS.take j++[z]:=(by rw[bp,hz];rfl);have cl:=u.len;walk_at "";refine Χ (w0 C) a0 ⟨_,rfl,ve (R ca (b3 0 (by lia))) (R bS (u.bt z (aX hz))),O,eW (by rw[ag,ag,bA];lia),hN5 _ _ _ ⟨?_,az,?_,_,rfl⟩⟩
      .exact λb o e=>by rw[aL (cJ e Zm)];exact C _ _ e
      .rw[et,aE,aE]
       rfl
     .rintro M J f ⟨C,O,rfl,v,rfl⟩;rw[ag,bC]at O;exact(ab pc _ f (Y.trans C) O (UW L.wk (bw (by decide) L.c2) L.c1 hf a6 u) av _).2
 .rintro J H3 ⟨s3,⟨X,ld,e3,ra⟩,v4,v5,rfl⟩;refine h2 _ _ ?_;unfold Tu;walk_at "";rw[ag]at ra;refine⟨_,ν.of e3,λl2 b6=>?_⟩;have Y:=δ.new (HO.lst ((X++[ld]).map V.ref).reverse) b6;refine q l2 (X++[ld]).reverse _ (s3.free b6) (s3.trans Y) (by rw[az,eC]) ?_;have e:sfx ks=((List.range (ks.length+1)).map λj=>ks.drop (ks.length-j)).reverse:=by rw[<-Kh,mf]
  rw[e];exact C8 (Paired.imp' (λb kk ⟨cb,h1,h2⟩=>⟨cb,Y _ _ h1,h2⟩) ra)
def kI(p ld c d b a:Addr):List (Str×V):=bf "rests" (.ref a) (bf "kids" (.ref b) (bf "bearers" (.ref d) (bf "weights" (.ref c) (bf "down" (.ref ld) (bf "web" (.ref p) [])))))
theorem uo(p ld c d b a:Addr):(kI p ld c d b a).lookup ("rests":Str)=some (.ref a):=by
 unfold kI;rw[bT,aj rfl]
theorem Mj(p ld c d a b:Addr):(kI p ld c d a b).lookup ("kids":Str)=some (.ref a):=by
 unfold kI;rw[bT,ah (by decide +kernel),bT,aj rfl]
theorem Fo(p ld d a c b:Addr):(kI p ld d a c b).lookup ("bearers":Str)=some (.ref a):=by
 unfold kI;rw[bT,ah (by decide +kernel),bT,ah (by decide +kernel),bT,aj rfl]
theorem Fc(p ld a d c b:Addr):(kI p ld a d c b).lookup ("weights":Str)=some (.ref a):=by
 unfold kI;rw[bT,ah (by decide +kernel),bT,ah (by decide +kernel),bT,ah (by decide +kernel),bT,aj rfl]
theorem LP(p ld c d b a:Addr):(kI p ld c d b a).lookup ("down":Str)=some (.ref ld):=by
 unfold kI;rw[bT,ah (by decide +kernel),bT,ah (by decide +kernel),bT,ah (by decide +kernel),bT,ah (by decide +kernel),bT,aj rfl]
theorem MV(p ld c d b a:Addr):(kI p ld c d b a).lookup ("web":Str)=some (.ref p):=by
 unfold kI;rw[bT,ah (by decide +kernel),bT,ah (by decide +kernel),bT,ah (by decide +kernel),bT,ah (by decide +kernel),bT,ah (by decide +kernel),bT,aj rfl]
def frW(m:Int)(c:hT)(r:Int)(a:fc)(b:fz)(d:du)(k:Int):Bool:=decide (Ξ m c r a b k*tup c a k=Ξ m c r a b (a k))&&decide (Zt m c r a b d (a k)≠some k)
def beW(m:Int)(c:hT)(r:Int)(a:fc)(b:fz)(d:du)(k:Int):Bool:=decide (Zt m c r a b d (a k)=some k)
def cK(b:hT)(a:fc)(k:Int):Nat:=(tup b a k).toNat
def wyT(m:Int)(c:hT)(r:Int)(a:fc)(b:fz)(d:du)(v:Int):Nat->Int:=wy m c r a b (frW m c r a b d) (beW m c r a b d) (cK c a) v
structure iN(C O:Addr)(H:Hp)(o p t:Addr)(m:Int)(ps:g9)(rs:hT)(r:Int)(par:fc)(dep:fz)(tl:du)(ld lw lb lk lr:Addr)(kl:g9)(rv:List V)(S:Int->Prop):Prop where
 ob:∃dx,H o=some (.ins O dx (kI p ld lw lb lk lr))
 web:ι C H p m t ps rs
 rt:ε m rs r par dep
 et:cT m rs r par dep r=r::tl
 or:Order m r par tl
 hd:H ld=some (.lst ((cT m rs r par dep r).map V.int))
 hw:H lw=some (.lst ((jO m rs r par dep).map V.int))
 hb:H lb=some (.lst (chL m (Zt m rs r par dep tl)))
 hk:H lk=some (.lst (kl.map V.ref))
 kp:Paired (λa v=>H a=some (.lst ((kd m rs r par v).map V.int))) kl (bG m.toNat)
 hr:H lr=some (.lst rv)
 rl:rv.length=m.toNat
 rn:∀x∈rv,x=.ς\/∃a,x=.ref a
 ϱ:∀v,S v->0<=v/\∃(lp:Addr)(ϴ:g9),rv[v.toNat]?=some (.ref lp)/\lp≠lr/\H lp=some (.lst (ϴ.map V.ref))/\tL H (Z4 (dgr m rs r par dep)) (ϝ (frW m rs r par dep tl) (beW m rs r par dep tl) (λk g=>wyT m rs r par dep tl k (ϋ (cK rs par k) g))) ϴ (sfx (kd m rs r par v))
theorem iN.same{C O:Addr}{H k:Hp}{o p t:Addr}{m:Int}{l:g9}{j:hT}{r:Int}{par:fc}{c:fz}{tl:du}{ld g n d f:Addr}{i:g9}{s:List V}{S:Int->Prop}(e:δ H k)(h:iN C O H o p t m l j r par c tl ld g n d f i s S):iN C O k o p t m l j r par c tl ld g n d f i s S where
 ob:=let ⟨dx,q⟩:=h.ob;⟨dx,e _ _ q⟩
 web:=h.web.same e
 rt:=h.rt
 et:=h.et
 or:=h.or
 hd:=e _ _ h.hd
 hw:=e _ _ h.hw
 hb:=e _ _ h.hb
 hk:=e _ _ h.hk
 kp:=Paired.imp' (λ_ _ z=>e _ _ z) h.kp
 hr:=e _ _ h.hr
 rl:=h.rl
 rn:=h.rn
 ϱ:=λv x=>let ⟨v0,lp,ϴ,h1,h2,h3,h4⟩:=h.ϱ v x;⟨v0,lp,ϴ,h1,h2,e _ _ h3,Paired.imp' (λ_ _ ⟨u,a,b⟩=>⟨u,e _ _ a,b⟩) h4⟩
theorem ι.abk{C O:Addr}{H c:Hp}{o p:Addr}{m:Int}{t a:Addr}{f:g9}{d:hT}(e:Z3 o H c)(b:H o=some (.ins O a []))(h:ι C H p m t f d):ι C c p m t f d:=⟨let ⟨a,q⟩:=h.ob;⟨a,e _ _ q (fS q b (by intro z;cases z))⟩,e _ _ h.tu (fS h.tu b (by intro z;cases z)),Paired.imp' (λq x z=>e _ _ z (fS z b (by intro z;cases z))) h.ro,h.go⟩
theorem iN.put{C O:Addr}{H:Hp}{o p t:Addr}{m:Int}{ps:g9}{j:hT}{r:Int}{a:fc}{i:fz}{D:du}{ld Q Z L d:Addr}{R:g9}{A:List V}{S:Int->Prop}(h:iN C O H o p t m ps j r a i D ld Q Z L d R A S)(ϋ:ld≠d)(X:Q≠d)(N:Z≠d)(T:L≠d)(U:∀q∈R,q≠d){v:Int}(v0:0<=v)(v1:v<m)(hS:∀c,S c->c≠v){l:Addr}{B:g9}(nl:l≠d)(hl:H l=some (.lst (B.map V.ref)))(ra:tL H (Z4 (dgr m j r a i)) (ϝ (frW m j r a i D) (beW m j r a i D) (λk g=>wyT m j r a i D k (Pb.ϋ (cK j a k) g))) B (sfx (kd m j r a v))):iN C O (upd H d (.lst (A.set v.toNat (.ref l)))) o p t m ps j r a i D ld Q Z L d R (A.set v.toNat (.ref l)) (λc=>c=v\/S c):=by
 have vm:v.toNat<A.length:=by rw[h.rl];lia
 have ne:∀{y:Addr}{s:du},s≠[]->H y=some (.lst (s.map V.int))->y≠d:=λ{y s} cn hy z=>by
  rw[z,h.hr]at hy;injection hy with hy
  injection hy with hy
  cases s with
  | nil=>exact cn rfl
  | cons c0 s=>
    rcases h.rn (.int c0) (by rw[hy];exact .head _)with e|⟨_,e⟩<;>cases e
 have up:∀{b:Addr}{x:HO},H b=some x->b≠d->upd H d (.lst (A.set v.toNat (.ref l))) b=some x:=λe n=>by rw[aL n];exact e
 have G:∀{B:g9}{E:List (List Int)}{b:List Int->Nat}{f:List Int->Nat->Int},tL H b f B E->tL (upd H d (.lst (A.set v.toNat (.ref l)))) b f B E:=λY=>Paired.imp' (λy kk ⟨s,J,F⟩=>⟨s,up J (ne F.ne J),F⟩) Y;obtain⟨dx,ob⟩:=h.ob;have W:=h.web;obtain⟨dw,wb⟩:=W.ob;refine⟨⟨dx,up ob (fS ob h.hr (by intro z;cases z))⟩,⟨⟨dw,up wb (fS wb h.hr (by intro z;cases z))⟩,up W.tu (fS W.tu h.hr (by intro z;cases z)),Paired.imp' (λq x e=>up e (fS e h.hr (by intro z;cases z))) W.ro,W.go⟩,h.rt,h.et,h.or,up h.hd ϋ,up h.hw X,up h.hb N,up h.hk T,u4 (λq x hq e=>up e (U q hq)) h.kp,az,by rw[b8];exact h.rl,λx M=>?_,λu hu=>?_⟩
 .rcases kq M with M|rfl
  .exact h.rn x M
  .exact .inr ⟨l,rfl⟩
 .rcases hu with rfl|hu
  .exact⟨v0,l,B,dG vm,nl,up hl nl,G ra⟩
  .obtain⟨u0,lp,alK,J,F,h3,h4⟩:=h.ϱ u hu;refine⟨u0,lp,alK,?_,F,up h3 F,G h4⟩;rw[cP (by have:=hS u hu;lia)];exact J
def rK(T:Txt K I):Sp:=λk H Q _=>E8 λ(o i p t:Addr)(m:Int)(f:g9)(d:hT)(r:Int)=>k=[.ref o,.ref p,.int r]/\H o=some (.ins T.Tally i [])/\ι T.Web H p m t f d/\(0<=r/\r<m)/\∃a c,ε m d r a c/\∀g ld l q h j n s e,iN T.Web T.Tally e o p t m f d r a c g ld l q h j n s (λv=>0<=v/\v<m)->(∀b x,H b=some x->b≠o->e b=some x)->Q .ς e
abbrev f9:Stmt:=DB (top 81) 0
theorem za:η ["self","web","r","place"] ["self","web","r"] (aB f9):=.of
theorem re:ϛ (aB f9) "enumerate":=.of (by kernel_rfl)
theorem rH:ϛ (aB f9) "reversed":=.of (by kernel_rfl)
theorem y3(T:Txt K I)(hq:bU (ψ P w)){f:Addr}{fd:FuncData}(F:Fun K "__init__" "Tally.__init__" f9 f fd)(kO:i6 P w base T)(wV:Cb P w K I base "bearers" rp ["web","r"] 9 (Bi T))(vd:Cb P w K I base "down" vA ["web","r"] 6 (DR T))(iZ:i5 P w base T)(gC:jz P w base T)(vN:Cb P w K I base "rests_of" jr ["tally","place"] 7 (zh T)):Ψ P w K I base (ψ P w) 10 f fd ["self","web","r"] (rK T):=by
 refine F.ϓ za (by walk_at "v") λχ A dS s H vs Q E hr h=>?_;obtain⟨o,C,p,t,m,ps,B,r,rfl,ho,W,rr,par,d,R,k⟩:=h;have g:=W.go;have Ο:=g.Ο;refine⟨_,(aI (mN (ζ 0) (ϙ 1) rfl) (aI (mN (ζ 0) (Η vd hr hq (aa (ϙ 1) (aa (ζ 2) au))) rfl) (aI (mN (ζ 0) (Η gC hr hq (aa (ϙ 1) (aa (ζ 2) au))) rfl) (aI (mN (ζ 0) (Η wV hr hq (aa (ϙ 1) (aa (ζ 2) au))) rfl) (aI (mN (ζ 0) (g6 rfl (Z5 ["place","front","web"] 2 [1]) (yR true re.g T.enumerate (Η kO hr hq (aa (ϙ 1) (aa (ζ 2) au)))) (λ_ _ _ _=>(yA K rfl (n:=2) rfl (dj (eE (i:=0) (show(["place","front","web"]:hO).Nodup from by decide +kernel) rfl (Or.inl rfl)) (dj (eE (i:=1) (show(["place","front","web"]:hO).Nodup from by decide +kernel) rfl (Or.inl rfl)) jH)))) (λ_ _ _ _=>gP) (λ_ _ _ _=>(fF iZ.G (hr.mono (by decide)) (by rfl) iZ.D.m iZ.D.F.kp iZ.D.b .nil (gU hq) (aa (pv 2) (aa (pv 0) (aa (pv 1) au)))))) rfl) (aI (mN (ζ 0) (bi pY (fG (aa vo au)) (dP (ϙ 1) rfl)) rfl) (aM (fV PassesOwn.never rfl (vk rH.g T.reversed (dP (ζ 0) rfl)) (ϫ 3) (aM (rc (Η vN hr hq (aa (ζ 0) (aa (ζ 3) au))) (rB (dP (ζ 0) rfl) (ζ 3) jP))))))))))),?_⟩;walk_at "s";walk_at "";refine⟨T.Tally,C,[],ho,T.gW,T.Φ,by decide,?_⟩;have k1:Z3 o H (upd H o (.ins T.Tally C (bf "web" (.ref p) []))):=Z3.refl.put _;have o1:upd H o (.ins T.Tally C (bf "web" (.ref p) [])) o=some (.ins T.Tally C (bf "web" (.ref p) [])):=az;generalize upd H o (.ins T.Tally C (bf "web" (.ref p) []))=H1 at k1 o1 ⊢;refine⟨p,t,m,ps,B,r,rfl,W.abk k1 ho,λ_ _=>⟨par,d,R,λld H2 n2 s2 e2 ds cp=>?_⟩,λz=>absurd rr z⟩;dsimp only;have bx:∀{a:Addr}{G:Hp}{x:HO},G o=some x->G a=none->a≠o:=λh1 h2 z=>by rw[z,h1]at h2;cases h2
 refine⟨T.Tally,C,_,s2 _ _ o1,T.gW,T.NR,by show 1<1000;decide,?_⟩;have ai:ld≠o:=bx o1 n2;have k3:=(k1.then s2).put (.ins T.Tally C (bf "down" (.ref ld) (bf "web" (.ref p) [])));have o3:upd H2 o (.ins T.Tally C (bf "down" (.ref ld) (bf "web" (.ref p) []))) o=some (.ins T.Tally C (bf "down" (.ref ld) (bf "web" (.ref p) []))):=az;have e3:upd H2 o (.ins T.Tally C (bf "down" (.ref ld) (bf "web" (.ref p) []))) ld=_:=(aL ai).trans e2;generalize upd H2 o (.ins T.Tally C (bf "down" (.ref ld) (bf "web" (.ref p) [])))=H3 at k3 o3 e3 ⊢;refine⟨p,t,m,ps,B,r,rfl,W.abk k3 ho,λ_ _=>⟨par,d,R,λJ H4 n4 s4 e4=>?_⟩,λz=>absurd rr z⟩;refine⟨T.Tally,C,_,s4 _ _ o3,T.gW,T.ZK,by show 2<1000;decide,?_⟩;have ar:J≠o:=bx o3 n4;have k5:=(k3.then s4).put (.ins T.Tally C (bf "weights" (.ref J) (bf "down" (.ref ld) (bf "web" (.ref p) []))));have o5:upd H4 o (.ins T.Tally C (bf "weights" (.ref J) (bf "down" (.ref ld) (bf "web" (.ref p) [])))) o=some (.ins T.Tally C (bf "weights" (.ref J) (bf "down" (.ref ld) (bf "web" (.ref p) [])))):=az;have a5:upd H4 o (.ins T.Tally C (bf "weights" (.ref J) (bf "down" (.ref ld) (bf "web" (.ref p) [])))) ld=_:=(aL ai).trans (s4 _ _ e3);have bl:upd H4 o (.ins T.Tally C (bf "weights" (.ref J) (bf "down" (.ref ld) (bf "web" (.ref p) [])))) J=_:=(aL ar).trans e4;generalize upd H4 o (.ins T.Tally C (bf "weights" (.ref J) (bf "down" (.ref ld) (bf "web" (.ref p) []))))=Z at k5 o5 a5 bl ⊢;refine⟨p,t,m,ps,B,r,rfl,W.abk k5 ho,λ_ _=>⟨par,d,R,λU L H6 et Or n6 s6 e6=>?_⟩,λz=>absurd rr z⟩;refine⟨T.Tally,C,_,s6 _ _ o5,T.gW,T.xD,by show 3<1000;decide,?_⟩;have a7:L≠o:=bx o5 n6;have k7:=(k5.then s6).put (.ins T.Tally C (bf "bearers" (.ref L) (bf "weights" (.ref J) (bf "down" (.ref ld) (bf "web" (.ref p) [])))));have o7:upd H6 o (.ins T.Tally C (bf "bearers" (.ref L) (bf "weights" (.ref J) (bf "down" (.ref ld) (bf "web" (.ref p) []))))) o=some (.ins T.Tally C (bf "bearers" (.ref L) (bf "weights" (.ref J) (bf "down" (.ref ld) (bf "web" (.ref p) []))))):=az;have ca:upd H6 o (.ins T.Tally C (bf "bearers" (.ref L) (bf "weights" (.ref J) (bf "down" (.ref ld) (bf "web" (.ref p) []))))) ld=_:=(aL ai).trans (s6 _ _ a5);have co:upd H6 o (.ins T.Tally C (bf "bearers" (.ref L) (bf "weights" (.ref J) (bf "down" (.ref ld) (bf "web" (.ref p) []))))) J=_:=(aL ar).trans (s6 _ _ bl);have cc:upd H6 o (.ins T.Tally C (bf "bearers" (.ref L) (bf "weights" (.ref J) (bf "down" (.ref ld) (bf "web" (.ref p) []))))) L=_:=(aL a7).trans e6;generalize upd H6 o (.ins T.Tally C (bf "bearers" (.ref L) (bf "weights" (.ref J) (bf "down" (.ref ld) (bf "web" (.ref p) [])))))=H7 at k7 o7 ca co cc ⊢;have W3:=W.abk k7 ho;clear k1 k3 k5 o1 o3 o5 e2 e3 e4 a5 bl e6 s2 s4 s6 n2 n4 n6;refine⟨p,t,m,ps,B,r,rfl,W3,λ_ _=>⟨par,d,R,λla H4 n4 s4 e4=>⟨la,rfl,⟨_,ν.of e4⟩,λO br=>?_⟩⟩,λz=>absurd rr z⟩;have fs:=s4.free br;refine Ek (K:=K) (c:=true) (xs:=m5 m r par) (λi ys σ Z=>δ H4 Z/\Z O=some (.lst ys)/\(∃kl:List Addr,ys=kl.map V.ref/\Paired (λa v=>Z a=some (.lst ((kd m B r par v).map V.int))) kl ((bG m.toNat).take i)/\∀q∈kl,q≠O)/\∃v w,σ=[v,w,some (V.ref p)]) ⟨δ.new _ br,az,⟨[],rfl,.nil,by simp⟩,_,_,rfl⟩ (λi ys σ Z z=>ν.of (z.1 _ _ e4)) ?_ ?_
 .rintro i x ys σ Z q N hN hx ⟨s5,e5,⟨kl,rfl,pk,hkq⟩,v,w,rfl⟩ nq;have il:i<m.toNat:=by
   have:=(aw.mp hx).1;unfold m5 at this
   rwa [ag,bR]at this
  have ex:x=Pb.front r par (i:Int):=by
   have:=wm (m:=m) (r:=r) (par:=par) (v:=(i:Int)) (by lia) (by lia);rw[show((i:Int)).toNat=i from rfl,hx]at this;exact bq this
  have qe:=s5 _ _ e4;have s6:=δ.new (.tup [V.int i,x]) nq;have dO:=s5.trans s6;have et:(bG m.toNat).take (i+1)=(bG m.toNat).take i++[(i:Int)]:=by rw[bp,fq il];rfl
  have fa:kl.length<=24:=by
   have:=Paired.length pk;rw[bA]at this
   lia
  walk_at "";refine⟨_,Κ.of az,rfl,_,_,rfl,_,_,rfl,rfl,?_⟩;refine⟨p,t,m,ps,B,i,x,rfl,W3.same (s4.trans dO),by lia,by lia,?_,λl6 H6 n6 s7 e7=>?_⟩
  .rw[ex];unfold Pb.front;split
   .exact .inl rfl
   .exact .inr ⟨_,rfl⟩
  have bv:=s6.trans s7;refine⟨bv _ _ e5,eW (by rw[ag];lia),hN _ _ _ ⟨(s5.trans bv).put br _,az,⟨kl++[l6],by rw[aE];rfl,?_,λq hq=>?_⟩,_,_,rfl⟩⟩;have nk:l6≠O:=λz=>by rw[z,s6 _ _ e5]at n6;cases n6
  rotate_left
  .rcases bd.mp hq with h|h
   .exact hkq q h
   .rw[aO.mp h];exact λz=>by rw[z,s6 _ _ e5]at n6;cases n6
  rw[et];refine sJ (by rw[aL nk,e7,ex]) (u4 (λq v hq h=>?_) pk);have e:q≠O:=λz=>hkq q hq z;rw[aL e];exact bv _ _ h
 .rintro ys σ Z ⟨s5,e5,⟨kl,rfl,pk,hkq⟩,v,w,rfl⟩;rw[show(m5 m r par).length=m.toNat by unfold m5;rw[ag,bR],cw (by rw[bR];exact aJ _)]at pk;have o5:=s5 _ _ (s4 _ _ o7);have k5:=(k7.then s4).then s5;have a8:=s4.trans s5;refine⟨T.Tally,C,_,o5,T.gW,T.Ϙ,by show 4<1000;decide,by decide,λl1 n1=>?_⟩;have b2:O≠o:=λz=>by rw[z,o5]at e5;cases e5
  have k6:=k5.put (.ins T.Tally C (bf "kids" (.ref O) (bf "bearers" (.ref L) (bf "weights" (.ref J) (bf "down" (.ref ld) (bf "web" (.ref p) []))))));have o6:upd Z o (.ins T.Tally C (bf "kids" (.ref O) (bf "bearers" (.ref L) (bf "weights" (.ref J) (bf "down" (.ref ld) (bf "web" (.ref p) [])))))) o=some (.ins T.Tally C (bf "kids" (.ref O) (bf "bearers" (.ref L) (bf "weights" (.ref J) (bf "down" (.ref ld) (bf "web" (.ref p) [])))))):=az;have e6:upd Z o (.ins T.Tally C (bf "kids" (.ref O) (bf "bearers" (.ref L) (bf "weights" (.ref J) (bf "down" (.ref ld) (bf "web" (.ref p) [])))))) O=_:=(aL b2).trans e5;have a2:upd Z o (.ins T.Tally C (bf "kids" (.ref O) (bf "bearers" (.ref L) (bf "weights" (.ref J) (bf "down" (.ref ld) (bf "web" (.ref p) [])))))) ld=_:=(aL ai).trans (a8 _ _ ca);have aS:upd Z o (.ins T.Tally C (bf "kids" (.ref O) (bf "bearers" (.ref L) (bf "weights" (.ref J) (bf "down" (.ref ld) (bf "web" (.ref p) [])))))) J=_:=(aL ar).trans (a8 _ _ co);have am:upd Z o (.ins T.Tally C (bf "kids" (.ref O) (bf "bearers" (.ref L) (bf "weights" (.ref J) (bf "down" (.ref ld) (bf "web" (.ref p) [])))))) L=_:=(aL a7).trans (a8 _ _ cc);have a0:Paired (λa v=>upd Z o (.ins T.Tally C (bf "kids" (.ref O) (bf "bearers" (.ref L) (bf "weights" (.ref J) (bf "down" (.ref ld) (bf "web" (.ref p) [])))))) a=some (.lst ((kd m B r par v).map V.int))) kl (bG m.toNat):=Paired.imp' (λq v h=>by rw[aL (fS h o5 (by intro z;cases z))];exact h) pk;generalize upd Z o (.ins T.Tally C (bf "kids" (.ref O) (bf "bearers" (.ref L) (bf "weights" (.ref J) (bf "down" (.ref ld) (bf "web" (.ref p) []))))))=H6 at k6 o6 e6 a2 aS am a0 n1 ⊢;have s7:=δ.new (.lst [V.ς]) n1;obtain⟨d8,b6⟩:=(W.abk k6 ho).ob;refine⟨T.Web,d8,_,s7 _ _ b6,T.jA,T.ό,_,hZ _ _,?_⟩;refine⟨l1,m,[V.ς],rfl,rfl,az,by lia,by lia,dL (by simp;lia),λS cd=>?_⟩;rw[wo];have s8:=s7.trans (δ.new (.lst (List.replicate m.toNat V.ς)) cd);have i8:upd (upd H6 l1 (.lst [V.ς])) S (.lst (List.replicate m.toNat V.ς)) S=some (.lst (List.replicate m.toNat V.ς)):=az;have By:=s7.free cd;generalize upd (upd H6 l1 (.lst [V.ς])) S (.lst (List.replicate m.toNat V.ς))=H8 at s8 i8 ⊢;have o8:=s8 _ _ o6;refine⟨T.Tally,C,_,o8,T.gW,T.ZS,by show 5<1000;decide,?_⟩;have k8:=(k6.then s8).put (.ins T.Tally C (kI p ld J L O S));have b3:S≠o:=λz=>by rw[z,o6]at By;cases By
  have Y:iN T.Web T.Tally (upd H8 o (.ins T.Tally C (kI p ld J L O S))) o p t m ps B r par d U ld J L O S kl (List.replicate m.toNat V.ς) (λ_=>False):=⟨⟨C,az⟩,W.abk k8 ho,R,et,Or,(aL ai).trans (s8 _ _ a2),(aL ar).trans (s8 _ _ aS),(aL a7).trans (s8 _ _ am),(aL b2).trans (s8 _ _ e6),Paired.imp' (λq v h=>by rw[aL (fS h o6 (by intro z;cases z))];exact s8 _ _ h) a0,(aL b3).trans i8,by rw[cD],λx hx=>.inl (List.eq_of_mem_replicate hx),λv z=>z.elim⟩
  have ϋ:ld≠S:=λz=>by rw[<-z,a2]at By;cases By
  have ei:J≠S:=λz=>by rw[<-z,aS]at By;cases By
  have c4:L≠S:=λz=>by rw[<-z,am]at By;cases By
  have eg:O≠S:=λz=>by rw[<-z,e6]at By;cases By
  have d4:∀q∈kl,q≠S:=λq hq z=>by
   obtain⟨v,hv⟩:=DK a0 hq;rw[z,By]at hv;cases hv
  have d7:H S=none:=by
   cases e:H S with
   | none=>rfl
   | some x=>rw[k6 _ _ e b3]at By;cases By
  have k9:=k8;change ∃x dn dw,upd H8 o (.ins T.Tally C (kI p ld J L O S)) o=some (HO.ins x dn dw)/\_;obtain⟨H9,bk⟩:∃H9,H9=upd H8 o (.ins T.Tally C (kI p ld J L O S)):=⟨_,rfl⟩;refine⟨T.Tally,C,_,az,T.gW,T.NR,_,LP p ld J L O S,ld,rfl,_,ν.of Y.hd,?_⟩;rw[<-bk]at Y k9;change rX _ _ _ _ _ (upd H8 o (.ins T.Tally C (kI p ld J L O S)));rw[<-bk];clear bk k8 i8 s8 s7 n1 a0 e6 a2 aS am o6 k6 k5 o5 o8 b6;refine wj (K:=K) (xs:=(cT m B r par d r).map V.int) (λi σ ab=>Z3 o H ab/\∃(rv:List V)(v3:Option V),iN T.Web T.Tally ab o p t m ps B r par d U ld J L O S kl rv (λv=>v∈(cT m B r par d r).reverse.take i)/\σ=[some (V.ref o),some (V.ref p),some (V.int r),v3]) ⟨k9,List.replicate m.toNat V.ς,none,?_,rfl⟩ (λi σ ab _ ⟨_,rv,v3,z,_⟩=>ν.of z.hd) ?_ ?_
  .exact⟨Y.ob,Y.web,Y.rt,Y.et,Y.or,Y.hd,Y.hw,Y.hb,Y.hk,Y.kp,Y.hr,Y.rl,Y.rn,λv hv=>by cases hv⟩
  .rintro i x σ ab N hN hx ⟨k10,rv,v3,RW,rfl⟩;rw[<-eC]at hx;obtain⟨v,hv,rfl⟩:=List.τ hx;have X:=(cp v).mp (cY.mp (aX hv));have dd:∀k∈kd m B r par v,k∈(cT m B r par d r).reverse.take i:=by
    rw[et]at hv ⊢;exact XD g R Or hv X.1 X.2
   have d1:(bG m.toNat)[v.toNat]?=some v:=by
    rw[fq (by lia),bW X.1]
   obtain⟨eh,dK,d5⟩:=HF RW.kp d1;obtain⟨dm,dt⟩:=RW.ob;have cg:∀k∈kd m B r par v,frK (jO m B r par d) (Zt m B r par d U v) (cK B par) v k=frW m B r par d U k/\beK (Zt m B r par d U v) k=beW m B r par d U k:=λk hk=>by
    have w:=(ce g R X.1 X.2).mp hk;have ec:((cK B par k:Nat):Int)=tup B par k:=bW (by have:=(CB g R w.1.1 w.1.2 w.2.1).1;lia);unfold frK frW beK beW;rw[ec,w.2.2,show(jO m B r par d).getD k.toNat 0=Ξ m B r par d k from pE w.1.1 w.1.2,show(jO m B r par d).getD v.toNat 0=Ξ m B r par d v from pE X.1 X.2];exact⟨rfl,rfl⟩
   walk_at "";refine⟨o,dm,p,t,J,L,O,S,eh,_,m,ps,B,jO m B r par d,_,_,rv,v,kd m B r par v,Zt m B r par d U v,wyT m B r par d U,cK B par,dgr m B r par d,rfl,dt,MV _ _ _ _ _ _,Fc _ _ _ _ _ _,Fo _ _ _ _ _ _,Mj _ _ _ _ _ _,uo _ _ _ _ _ _,RW.web,RW.hw,?_,RW.hb,RW.hk,RW.hr,X,?_,?_,d5,?_,?_,?_⟩
   .have:(jO m B r par d).length=m.toNat:=uV
    lia
   .exact(xc X.1).symm.trans (UN X.1 X.2)
   .rw[aG,dK]
    rfl
   .intro k hk;have w:=(ce g R X.1 X.2).mp hk;obtain⟨k',tk,t2,t6⟩:=lV g R w.1.1 w.1.2 w.2.1;have dp:tup B par k=k':=by
     unfold tup;rw[tk]
     rfl
    have ek:((cK B par k:Nat):Int)=k':=by
     unfold cK;rw[dp];exact bW (by lia)
    obtain⟨_,lp,ϴ,h1,h2,h3,h4⟩:=RW.ϱ k (dd k hk);have d0:=sx (fr:=frW m B r par d U) (be:=beW m B r par d U) (c:=cK B par) g R w.1.1 w.1.2;refine⟨w.1.1,w.1.2,by rw[ek,<-w.2.2];exact tk,by lia,by lia,TD g R (λu u0 u1 ur=>?_) (m.toNat-d k) w.1.1 w.1.2 (aJ _),?_⟩
    .have:=CB g R u0 u1 ur;unfold cK
     lia
    .obtain⟨sr,es⟩:=Hx (kd m B r par k);rw[es]at h4;cases h4 with
     | cons e he=>
       obtain⟨cs,c1,c2⟩:=e;refine⟨lp,_,_,cs,h1,h3,c1,?_⟩;have:=c2.le (b':=15000) (Bp (by have:=vR g R w.1.1 w.1.2;have:=Hs g R w.1.1 w.1.2;lia));refine⟨this.ne,this.len,this.bt,λn=>(this.val n).trans ?_⟩;show _=wy m B r par d (frW m B r par d U) (beW m B r par d U) (cK B par) k n;rw[d0]
       rfl
   .rw[vR g R X.1 X.2];exact Hs g R X.1 X.2
   .intro l ϴ H11 nl s11 e11 ra;have av:=RW.same s11;obtain⟨dc,aT⟩:=av.ob;have cC:l≠S:=λz=>by rw[z,RW.hr]at nl;cases nl
    have cS:tL H11 (Z4 (dgr m B r par d)) (ϝ (frW m B r par d U) (beW m B r par d U) (λk g=>wyT m B r par d U k (Pb.ϋ (cK B par k) g))) ϴ (sfx (kd m B r par v)):=HX (λa dQ cn ⟨cs,c1,c2⟩=>⟨cs,c1,by
     have e:=yk (fr:=frK (jO m B r par d) (Zt m B r par d U v) (cK B par) v) (be:=beK (Zt m B r par d U v)) (ws:=λk g=>wyT m B r par d U k (Pb.ϋ (cK B par k) g)) (fr':=frW m B r par d U) (be':=beW m B r par d U) (ws':=λk g=>wyT m B r par d U k (Pb.ϋ (cK B par k) g)) (ks:=dQ) λk hk=>⟨(cg k (Dj cn k hk)).1,(cg k (Dj cn k hk)).2,rfl⟩;rw[<-e];exact c2⟩) ra
    refine⟨T.Tally,dc,_,aT,T.gW,T.ZS,_,uo _ _ _ _ _ _,sQ av.hr X.1 (by rw[av.rl];lia) (hN _ _ ⟨?_,rv.set v.toNat (.ref l),some (V.int v),?_,rfl⟩)⟩
    .exact λb y hb nb=>by rw[aL (cJ hb d7)];exact s11 _ _ (k10 b y hb nb)
    .have nv:∀u,u∈(cT m B r par d r).reverse.take i->u≠v:=λu hu z=>by
      have nd:(cT m B r par d r).reverse.Nodup:=((List.reverse_perm _).nodup_iff).mpr ds;have il:=(aw.mp hv).1;rw[z]at hu;obtain⟨j,hj⟩:=bZ hu;have jl:=(aw.mp hj).1;rw[bA]at jl;rw[iE (by lia)]at hj;have:=(List.getElem?_inj (by lia) nd).mp (hj.trans hv.symm)
      lia
     have M:=av.put ϋ ei c4 eg d4 X.1 X.2 nv cC e11 cS;refine⟨M.ob,M.web,M.rt,M.et,M.or,M.hd,M.hw,M.hb,M.hk,M.kp,M.hr,M.rl,M.rn,λu hu=>M.ϱ u ?_⟩;rw[bp,hv]at hu;rcases bd.mp hu with hu|hu
     .exact .inr hu
     .exact .inl (by simpa using hu)
  .rintro σ ab ⟨k10,rv,v3,RW,rfl⟩;refine k U ld J L O S kl rv ab ⟨RW.ob,RW.web,RW.rt,RW.et,RW.or,RW.hd,RW.hw,RW.hb,RW.hk,RW.kp,RW.hr,RW.rl,RW.rn,λv hv=>RW.ϱ v ?_⟩ k10;rw[ag,<-aZ,bC,cY];exact(cp v).mpr hv
def qm(T:Txt K I):Sp:=λc H Q E=>E7 λ(p t:Addr)(m:Int)(b:g9)(a:hT)(r x:Int)=>c=[.ref p,.int r,.int x]/\ι T.Web H p m t b a/\(0<=r->r<m->1<=x->Q .ς H)/\(¬(0<=r/\r<m)->E (.ref T.NoPlace) none H)/\(0<=r->r<m->x<1->E (.ref T.BadWish) none H)
abbrev ko:Stmt:=top 55
theorem Bw:η ["web","r","wanted"] ["web","r","wanted"] (aB ko):=.of
theorem oJ:ϛ (aB ko) "BadWish":=.of (by kernel_rfl)
theorem Bc(T:Txt K I)(u:bU (ψ P w))(i:iy P w base T):Ok P w K I base "check_wanted" ko ["web","r","wanted"] 3 (qm T):=λ_ _ D=>by
 refine D.F.Io Bw (by walk_at "v") λo A a s H q Q E j h=>?_;obtain⟨p,t,m,n,l,r,x,rfl,W,k,e,f⟩:=h;refine⟨_,(aI (fD (Ϛ i j dq (aa (ζ 0) (aa (ζ 1) au)))) (aM (fh (lE Fz (ζ 2) aQ) (aM (qB T.tJ rfl sg oJ.g T.EA (aa uK au) (hdb:=oJ.d))) dI))),?_⟩;walk_at "s";walk_at "";refine⟨p,t,m,n,l,r,rfl,W,λc b=>?_,e⟩;show if x<1 then _ else _;by_cases z:x<1
 .rw[aj z];exact⟨by decide,f c b z⟩
 .rw[ah z];exact k c b (by lia)
def zz(T:Txt K I):Sp:=λh H Q E=>E10 λ(p b t:Addr)(c:Bool)(m:Int)(i:g9)(e:hT)(d:du)(r w:Int)=>h=[.ref p,.int r,.int w,.ref b]/\ι T.Web H p m t i e/\ϑ K c H b (d.map V.int)/\(d.length:Int)=m/\(∀x∈d,x.natAbs<2^4000)/\(w-1).natAbs<2^4000/\(0<=r->r<m->1<=w->∃a f,ε m e r a f/\∀g,δ H g->Q (.int (bnd m e r a d w)) g)/\(¬(0<=r/\r<m)->E (.ref T.NoPlace) none H)/\(0<=r->r<m->w<1->E (.ref T.BadWish) none H)
abbrev pU:Stmt:=top 54
theorem zH:η ["web","r","wanted","weights","bound","place","front"] ["web","r","wanted","weights"] (aB pU):=.of
theorem yY:NmL (aB pU) "bound":=.of (by kernel_rfl)
abbrev oe(P w base)(T:Txt K I):=Cb P w K I base "check_wanted" ko ["web","r","wanted"] 3 (qm T)
theorem JN(T:Txt K I)(hq:bU (ψ P w))(kh:oe P w base T)(fA:jx P w base T)(cg:jb P w base T):Ok P w K I base "bound_by" pU ["web","r","wanted","weights"] 8 (zz T):=λ_ _ D=>by
 refine D.F.Io zH (by walk_at "v") λχ A y s H vs Q E C h=>?_;obtain⟨p,b,t,c,m,S,o,xs,r,w,rfl,W,hb,xl,xb,wb,k,e,e'⟩:=h;have g:=W.go;refine⟨_,(aI (fD (Ϛ kh C dq (aa (ζ 0) (aa (ζ 1) (aa (ζ 2) au))))) (aI (Μ 4 (bi oz (Ι (AZ c) (ζ 3) (ζ 1)) (bi jS (ζ 2) aQ))) (aI (fV PassesOwn.leaving rfl (jM (Ϛ fA C dq (aa (ζ 0) (aa (ζ 1) au)))) (nM (n:=2) rfl (dj (ϫ 5) (dj (ϫ 6) jH))) (aM (Ny (i:=4) zH.nd rfl (Or.inl yY.l) (bi lY (Ι (AZ c) (ζ 3) (ζ 5)) (bi jS (Ϛ cg C dq (aa (ζ 0) (aa (ζ 5) (aa (ζ 6) au)))) aQ)) uS))) (aM (bM (ζ 4)))))),?_⟩;walk_at "s";walk_at "";refine⟨p,t,m,S,o,r,w,rfl,W,λB r1 w1=>?_,e,e'⟩;obtain⟨a,U,R,k⟩:=k B r1 w1;have gr:=BV (xs:=xs) B (by lia);have hm:=UK (cs:=xs) (i:=r.toNat) (by lia);refine ixX hb gr ⟨_,rfl,BH (xb _ hm) wb,?_⟩;refine⟨p,t,m,S,o,r,?_⟩;refine an4 rfl W (λ_ _=>⟨a,U,R,λl2 Z Y H2 _ n2 L e2 pa O=>?_⟩) (λz=>absurd ⟨B,r1⟩ z);refine⟨l2,rfl,⟨_,ν.of e2⟩,?_⟩;have ql:Z.length=Y.reverse.length:=Paired.length pa;refine mq (K:=K) (xs:=Z.map V.ref) (λi f j=>j=H2/\∃(J G:Option V),f=[some (V.ref p),some (V.int r),some (V.int w),some (V.ref b),some (V.int (xs.getD r.toNat 0*(w-1)+((Y.reverse.take i).map (slk o a xs)).sum)),J,G]) ⟨rfl,_,_,by rw[dY,eu,List.sum_nil,dE]⟩ (λi f j _ z=>by rw[z.1];exact ν.of e2) ?_ ?_
 .rintro i x f j N BB Ϭ hN hx ⟨rfl,J,G,rfl⟩;refine Ϭ _ _ ?_;obtain⟨q,v,rfl,hq,hv,eq⟩:=pa.get hx;have X:=cY.mp (aX hv);have d:=O.Δ v X;have u:=R.up v d.1 d.2 (O.ne X);obtain⟨kk,M,k0,k1⟩:=lV g R d.1 d.2 (O.ne X);walk_at "";refine⟨_,Κ.of eq,rfl,_,_,rfl,_,_,rfl,rfl,?_⟩;refine ixX (δ.Ac L hb) (BV d.1 (by lia)) ?_;refine⟨p,t,m,S,o,v,a v,rfl,W.same L,λk' _ _ _ _ h=>?_,λz=>absurd ⟨d,u.1⟩ z,λ_ _ _ _ z=>by rw[M]at z;cases z⟩;rw[M]at h;cases h;refine⟨_,rfl,_,rfl,.inr ⟨by lia,by lia⟩,hN _ _ ⟨rfl,some (V.int v),some (V.int (a v)),?_⟩⟩;rw[Q2 hv];unfold slk;rw[M,Int.add_assoc]
  rfl
 .rintro BB f j Ϭ ⟨rfl,J,G,rfl⟩;refine Ϭ _ _ ?_;rw[ag,ql,bC,eC,List.sum_reverse,O.sums];walk_at "";exact k _ L
def DX(T:Txt K I):Sp:=λf H Q E=>E7 λ(p t:Addr)(m:Int)(e:g9)(d:hT)(r w:Int)=>f=[.ref p,.int r,.int w]/\ι T.Web H p m t e d/\w<=10^60/\-(10^60)<=w/\(0<=r->r<m->1<=w->∃b c,ε m d r b c/\∀a,δ H a->Q (.int (bnd m d r b (jO m d r b c) w+1)) a)/\(¬(0<=r/\r<m)->∀a,δ H a->E (.ref T.NoPlace) none a)/\(0<=r->r<m->w<1->∀a,δ H a->E (.ref T.BadWish) none a)
abbrev vI:Stmt:=top 57
theorem OC:η ["web","r","wanted"] ["web","r","wanted"] (aB vI):=.of
theorem Np(T:Txt K I)(O:bU (ψ P w))(L:Cb P w K I base "bound_by" pU ["web","r","wanted","weights"] 8 (zz T))(y:jz P w base T):Ok P w K I base "enough" vI ["web","r","wanted"] 9 (DX T):=λ_ _ D=>by
 refine D.F.Io OC (by walk_at "v") λM A f s H N Q E u h=>?_;obtain⟨p,t,m,n,a,r,w,rfl,W,G,B,k,e,x⟩:=h;have g:=W.go;have m1:=g.m1;refine⟨_,(aM (bM (bi ja (Ϛ L u dq (aa (ζ 0) (aa (ζ 1) (aa (ζ 2) (aa (Ϛ y u dq (aa (ζ 0) (aa (ζ 1) au))) au))))) aQ))),?_⟩;walk_at "s";walk_at "";refine⟨p,t,m,n,a,r,rfl,W,λc b=>?_,e⟩;have v:(w-1).natAbs<2^4000:=LS B G;by_cases j:1<=w
 .obtain⟨par,dep,R,k⟩:=k c b j;refine⟨par,dep,R,λl q nl d o=>?_⟩;have i:((jO m a r par dep).length:Int)=m:=by rw[uV];lia
  exact⟨p,l,t,true,m,n,a,jO m a r par dep,r,w,rfl,W.same d,ν.of o,i,EK g R,v,λ_ _ _=>⟨par,dep,R,λC J=>⟨_,rfl,k C (d.trans J)⟩⟩,λz=>absurd ⟨c,b⟩ z,λ_ _ z=>absurd j (by lia)⟩
 .obtain⟨par,dep,R⟩:=Ω g c b;refine⟨par,dep,R,λl q nl d o=>?_⟩;have i:((jO m a r par dep).length:Int)=m:=by rw[uV];lia
  exact⟨p,l,t,true,m,n,a,jO m a r par dep,r,w,rfl,W.same d,ν.of o,i,EK g R,v,λ_ _ z=>absurd z j,λz=>absurd ⟨c,b⟩ z,λ_ _ z=>x c b z q d⟩
def b9(m:Int)(a:du):Bool:=decide ((a.length:Int)=m)&&a.all λx=>decide (0<=x)
theorem tW{m:Int}{a:du}(h:(a.length:Int)=m)(b:∀x∈a,0<=x):b9 m a=true:=by
 unfold b9;rw[bE h,jc,gm];exact λx c=>bE (b x c)
theorem Lj{m:Int}{a:du}(h:b9 m a=true):(a.length:Int)=m:=by
 unfold b9 at h;rw[bD]at h;exact bF h.1
theorem OE{m:Int}{a:du}(h:b9 m a=true):∀x∈a,0<=x:=by
 unfold b9 at h;rw[bD,gm]at h;exact λx b=>bF (h.2 x b)
def tf(T:Txt K I):Sp:=λg H Q _=>E8 λ(p a t:Addr)(c:Bool)(m:Int)(f:g9)(e:hT)(b:du)=>g=[.ref p,.ref a]/\ι T.Web H p m t f e/\ϑ K c H a (b.map V.int)/\b.length<=1000/\∀d,δ H d->Q (.bl (b9 m b)) d
abbrev oX:Stmt:=top 24
theorem GV:η ["web","numbers"] ["web","numbers"] (aB oX):=.of
theorem FM(T:Txt K I)(G:bU (ψ P w)):Ok P w K I base "is_filled" oX ["web","numbers"] 1 (tf T):=λ_ _ D=>by
 refine D.F.ϓ GV (by walk_at "v") λu A n s H B Q E C h=>?_;obtain⟨p,a,t,c,m,L,J,xs,rfl,W,g,M,k⟩:=h;refine⟨_,(aM (bM (MT (ss kG (pcb jF T.len (aa (ζ 1) au)) (dP (ζ 0) rfl) (oY _)) (Oi (pcb (OX rfl) T.all (aa (g6 rfl (vX (Nc:=["number"]) 1 (by decide +kernel) (by decide +kernel) rfl (by decide +kernel) rfl) (u8 c (ζ 1)) (λ_ _ _ _=>(eE (i:=0) (show(["number"]:hO).Nodup from by decide +kernel) rfl (Or.inl rfl))) (λ_ _ _ _=>gP) (λ_ _ _ _=>(ss Tt (pv 0) aQ (oY _)))) au)))))),?_⟩;walk_at "s";walk_at "";obtain⟨q,ob⟩:=W.ob;have o:ν K H a (xs.map V.int)\/Κ K H a (xs.map V.int):=by
  cases c
  .exact .inr g
  .exact .inl g
 refine⟨_,o,T.Web,q,_,ob,T.jA,T.ό,_,hZ m t,rfl,?_⟩;rw[ag];by_cases j:(xs.length:Int)=m
 .rw[aj (by rw[j])];refine⟨⟨_,g⟩,λl nl=>?_⟩;refine nS (K:=K) (c:=c) (xs:=xs.map V.int) (λi d f b=>δ H b/\b l=some (.lst d)/\d=((xs.take i).map λx=>decide (0<=x)).map V.bl/\∃v,f=[v]) ⟨δ.new _ nl,az,rfl,_,rfl⟩ (λi d f b _ z=>δ.Ac z.1 g) ?_ ?_
  .rintro i x d f b N hN hx ⟨s2,e2,rfl,v,rfl⟩;rw[aG]at hx;obtain⟨y,r,rfl⟩:=bN.mp hx;walk_at "";refine⟨e2,eW (by rw[ag,ag,bA];lia),hN _ _ _ ⟨s2.put nl _,az,?_,_,rfl⟩⟩;rw[bp,r,aE,aE]
   rfl
  .rintro d f b ⟨s2,e2,rfl,v,rfl⟩;refine⟨l,rfl,_,ν.of e2,?_⟩;have e:(((xs.take (xs.map V.int).length).map λx=>decide (0<=x)).all id)=b9 m xs:=by
    rw[ag,bC,List.all_map];unfold b9;rw[bE j,jc]
    rfl
   rw[e];exact k _ s2
 .rw[ah (λz=>j (by injection z))];have e:b9 m xs=false:=by
   unfold b9;rw[cV j,kJ]
  rw[e]at k;exact k H (δ.refl _)
def sP(T:Txt K I):Sp:=λg H Q E=>E8 λ(p a t:Addr)(c:Bool)(m:Int)(f:g9)(e:hT)(d:du)=>g=[.ref p,.ref a]/\ι T.Web H p m t f e/\ϑ K c H a (d.map V.int)/\d.length<=1000/\(b9 m d=true->∀l b,δ H b->(b l=some (.tup (d.map V.int))\/(c=false/\l=a))->Κ K b l (d.map V.int)->Q (.ref l) b)/\(b9 m d=false->∀b,δ H b->E (.ref T.BadLaying) none b)
abbrev mS:Stmt:=top 23
theorem Hq:η ["web","numbers"] ["web","numbers"] (aB mS):=.of
theorem oW:ϛ (aB mS) "BadLaying":=.of (by kernel_rfl)
theorem Ga(T:Txt K I)(C:bU (ψ P w))(q:Cb P w K I base "is_filled" oX ["web","numbers"] 1 (tf T)):Ok P w K I base "laying_of" mS ["web","numbers"] 2 (sP T):=λ_ _ D=>by
 refine D.F.Io Hq (by walk_at "v") λy A j s H B Q E r h=>?_;obtain⟨p,a,t,c,m,v,u,i,rfl,W,f,x,k,e⟩:=h;refine⟨_,(aI (fh (sH (pR (Ϛ q r dq (aa (ζ 0) (aa (ζ 1) au))))) (aM (qB T.uF rfl sg oW.g T.IH (aa uK au) (hdb:=oW.d))) dI) (aM (bM (pct mO T.tuple (aa (ζ 1) au))))),?_⟩;walk_at "s";walk_at "";refine⟨p,a,t,c,m,v,u,i,rfl,W,f,x,λn b=>⟨_,rfl,?_⟩⟩;by_cases z:b9 m i=false
 .rw[aj z];exact⟨by decide,e z n b⟩
 .rw[ah z];have o:b9 m i=true:=by simpa using z
  cases c
  .exact⟨_,.inr ⟨δ.Ac (c:=false) b f,k o a n b (.inr ⟨rfl,rfl⟩) (δ.Ac (c:=false) b f)⟩⟩
  .exact⟨_,.inl ⟨δ.Ac (c:=true) b f,λl nl=>k o l _ (b.trans (δ.new _ nl)) (.inl az) (Κ.of az)⟩⟩
def zx(T:Txt K I):Sp:=λh H Q E=>E9 λ(p a t:Addr)(c:Bool)(m:Int)(i:g9)(g:hT)(e:du)(r:Int)=>h=[.ref p,.ref a,.int r]/\ι T.Web H p m t i g/\ϑ K c H a (e.map V.int)/\e.length<=1000/\(b9 m e=true->0<=r->r<m->∃d f,ε m g r d f/\∀l b,H l=none->δ H b->b l=some (.lst ((sB m g r d f (λv=>e.getD v.toNat 0) (giv g d)).map V.int))->Q (.ref l) b)/\(b9 m e=false->∀b,δ H b->E (.ref T.BadLaying) none b)/\(b9 m e=true->¬(0<=r/\r<m)->∀b,δ H b->E (.ref T.NoPlace) none b)
abbrev rT:Stmt:=top 50
theorem IR:η ["web","laying","r","counts","place","front"] ["web","laying","r"] (aB rT):=.of
theorem JB(T:Txt K I)(hq:bU (ψ P w))(fA:jx P w base T)(mU:Cb P w K I base "laying_of" mS ["web","numbers"] 2 (sP T))(cg:jb P w base T):Ok P w K I base "gathered" rT ["web","laying","r"] 8 (zx T):=λ_ _ D=>by
 refine D.F.Io IR (by walk_at "v") λχ A Z s H vs Q E X h=>?_;obtain⟨p,a,t,c,m,ps,o,xs,r,rfl,W,ha,hz,k,e,e'⟩:=h;have g:=W.go;have Ο:=g.Ο;refine⟨_,(aI (Μ 3 (pct pZ T.list (aa (Ϛ mU X dq (aa (ζ 0) (aa (ζ 1) au))) au))) (aI (fV PassesOwn.leaving rfl (jM (Ϛ fA X dq (aa (ζ 0) (aa (ζ 2) au)))) (nM (n:=2) rfl (dj (ϫ 4) (dj (ϫ 5) jH))) (aM (yL (ζ 3) (ζ 5) vU (bi iT (Ι cf (ζ 3) (ζ 4)) (Ϛ cg X dq (aa (ζ 0) (aa (ζ 4) (aa (ζ 5) au))))) uS jP))) (aM (bM (ζ 3))))),?_⟩;walk_at "s";walk_at "";refine⟨p,a,t,c,m,ps,o,xs,?_⟩;refine an6 rfl W ha hz (λfi l0 H0 s0 _ e0=>?_) e;have xl:(xs.length:Int)=m:=by
  unfold b9 at fi;rw[bD]at fi;exact bF fi.1
 refine⟨l0,rfl,_,.inr e0,λl n1=>?_⟩;have s1:=δ.new (.lst (xs.map V.int)) n1;have f:=s0.trans s1;have nl:=s0.free n1;have e1:upd H0 l (.lst (xs.map V.int)) l=some (.lst (xs.map V.int)):=az;generalize upd H0 l (.lst (xs.map V.int))=H1 at s1 f e1 ⊢;refine⟨p,t,m,ps,o,r,?_⟩;refine an4 rfl (W.same f) (λr0 r1=>?_) (λz=>e' fi z H1 f);obtain⟨d,B,R,k⟩:=k fi r0 r1;refine⟨d,B,R,λS G J H2 _ n2 s2 e2 pa O=>?_⟩;have M:S≠l:=λz=>by rw[z,e1]at n2;cases n2
 refine⟨S,rfl,⟨_,ν.of e2⟩,?_⟩;have ql:G.length=J.reverse.length:=Paired.length pa;refine mq (K:=K) (xs:=G.map V.ref) (λi L j=>δ H j/\j S=some (.lst (G.map V.ref))/\ω j d G J.reverse/\E3 λ(C:du)(U Y:Option V)=>j l=some (.lst (C.map V.int))/\ϔ m o r d B (λv=>xs.getD v.toNat 0) (giv o d) (J.drop (J.length-i)) C/\L=[some (V.ref p),some (V.ref a),some (V.int r),some (V.ref l),U,Y]) ⟨f.trans s2,e2,pa,xs,_,_,s2 _ _ e1,by rw[fH,dR];exact ϔ.nil xl,rfl⟩ (λi L j _ z=>ν.of z.2.1) ?_ ?_
 .rintro i x L j N BB Ϭ hN hx ⟨s3,e3,pa3,C,U,Y,c3,so,rfl⟩;refine Ϭ _ _ ?_;obtain⟨q,v,rfl,hq,hv,eq⟩:=pa3.get hx;obtain⟨⟨y,vn⟩,ev,ac⟩:=O.turn g R so hv;have u:=R.up v y.1 y.2 vn;obtain⟨kk,hk,k0,k1⟩:=lV g R y.1 y.2 vn;have cl:=so.len;walk_at "";refine⟨_,Κ.of eq,rfl,_,_,rfl,_,_,rfl,rfl,?_⟩;refine Χ c3 (BV u.1.1 (by lia)) (Χ c3 (BV y.1 (by lia)) ?_);refine⟨p,t,m,ps,o,v,d v,rfl,W.same s3,λk' _ _ _ _ h=>?_,λz=>absurd ⟨y,u.1⟩ z,λ_ _ _ _ z=>by rw[hk]at z;cases z⟩;rw[hk]at h;cases h;refine⟨_,rfl,_,rfl,⟨by lia,by lia⟩,_,rfl,sQ c3 u.1.1 (by rw[ag];lia) (hN _ _ ⟨s3.put nl _,?_,?_,qS d (giv o d) C v,_,_,?_,ac,rfl⟩)⟩
  .rw[aL M];exact e3
  .exact Paired.imp' (λa b h=>by rw[aL (fS h c3 (by intro z;cases z))];exact h) pa3
  .rw[az,<-gB];unfold qS giv;rw[hk]
   rfl
 .rintro BB L j Ϭ ⟨s3,e3,pa3,C,U,Y,c3,so,rfl⟩;refine Ϭ _ _ ?_;rw[ag,ql,aZ,d9,gh]at so;rw[O.done g R so]at c3;walk_at "";exact k l j nl s3 c3
def KA(T:Txt K I):Sp:=λi H Q E=>E9 λ(p a t:Addr)(c:Bool)(m:Int)(h:g9)(g:hT)(e:du)(r:Int)=>i=[.ref p,.ref a,.int r]/\ι T.Web H p m t h g/\ϑ K c H a (e.map V.int)/\e.length<=1000/\(b9 m e=true->0<=r->r<m->∃d f,ε m g r d f/\∀b,δ H b->Q (.int (Α m g r d f (λv=>e.getD v.toNat 0) (giv g d) r)) b)/\(b9 m e=false->∀b,δ H b->E (.ref T.BadLaying) none b)/\(b9 m e=true->¬(0<=r/\r<m)->∀b,δ H b->E (.ref T.NoPlace) none b)
abbrev Bn:Stmt:=top 51
theorem Ux:η ["web","laying","r"] ["web","laying","r"] (aB Bn):=.of
theorem UZ(T:Txt K I)(M:bU (ψ P w))(n:Cb P w K I base "gathered" rT ["web","laying","r"] 8 (zx T)):Ok P w K I base "most" Bn ["web","laying","r"] 9 (KA T):=λ_ _ D=>by
 refine D.F.Io Ux (by walk_at "v") λG A b s H L Q E x h=>?_;obtain⟨p,a,t,c,m,B,z,o,r,rfl,W,u,C,k,e,j⟩:=h;refine⟨_,(aM (bM (qO cf (Ϛ n x dq (aa (ζ 0) (aa (ζ 1) (aa (ζ 2) au)))) (ζ 2) (λ_ _=>rfl)))),?_⟩;walk_at "s";walk_at "";refine⟨p,a,t,c,m,B,z,o,r,?_⟩;refine an7 rfl W u C (λfi f i=>?_) e j;obtain⟨d,g,R,k⟩:=k fi f i;refine⟨d,g,R,λl q J y v=>?_⟩;refine Χ v (BV f ?_) ?_
 .unfold sB;rw[ag,bR];lia
 .rw[zU f i];exact k q y
def rN(T:Txt K I):Sp:=λg H Q E=>E8 λ(p a t:Addr)(c:Bool)(m:Int)(f:g9)(e:hT)(d:du)=>g=[.ref p,.ref a]/\ι T.Web H p m t f e/\ϑ K c H a (d.map V.int)/\d.length<=1000/\(b9 m d=true->∀l b,δ H b->Κ K b l (d.map V.int)->Q (.ref l) b)/\(b9 m d=false->∀b,δ H b->E (.ref T.BadWish) none b)
abbrev nI:Stmt:=top 32
theorem Mr:η ["web","numbers"] ["web","numbers"] (aB nI):=.of
theorem q9:ϛ (aB nI) "BadWish":=.of (by kernel_rfl)
theorem L9(T:Txt K I)(C:bU (ψ P w))(q:Cb P w K I base "is_filled" oX ["web","numbers"] 1 (tf T)):Ok P w K I base "wish_of" nI ["web","numbers"] 2 (rN T):=λ_ _ D=>by
 refine D.F.Io Mr (by walk_at "v") λy A j s H B Q E r h=>?_;obtain⟨p,a,t,c,m,v,u,i,rfl,W,f,x,k,e⟩:=h;refine⟨_,(aI (fh (sH (pR (Ϛ q r dq (aa (ζ 0) (aa (ζ 1) au))))) (aM (qB T.tJ rfl sg q9.g T.EA (aa uK au) (hdb:=q9.d))) dI) (aM (bM (pct mO T.tuple (aa (ζ 1) au))))),?_⟩;walk_at "s";walk_at "";refine⟨p,a,t,c,m,v,u,i,rfl,W,f,x,λn b=>⟨_,rfl,?_⟩⟩;by_cases z:b9 m i=false
 .rw[aj z];exact⟨by decide,e z n b⟩
 .rw[ah z];have o:b9 m i=true:=by simpa using z
  cases c
  .exact⟨_,.inr ⟨δ.Ac (c:=false) b f,k o a n b (δ.Ac (c:=false) b f)⟩⟩
  .exact⟨_,.inl ⟨δ.Ac (c:=true) b f,λl nl=>k o l _ (b.trans (δ.new _ nl)) (Κ.of az)⟩⟩
def AG(T:Txt K I):Sp:=λh H Q E=>E9 λ(p a t:Addr)(c:Bool)(m:Int)(i:g9)(g:hT)(e:du)(r:Int)=>h=[.ref p,.ref a,.int r]/\ι T.Web H p m t i g/\ϑ K c H a (e.map V.int)/\e.length<=1000/\(b9 m e=true->0<=r->r<m->∃d f,ε m g r d f/\∀l b,H l=none->δ H b->b l=some (.lst ((sB m g r d f (λv=>e.getD v.toNat 0) (Z2 g d)).map V.int))->Q (.ref l) b)/\(b9 m e=false->∀b,δ H b->E (.ref T.BadWish) none b)/\(b9 m e=true->¬(0<=r/\r<m)->∀b,δ H b->E (.ref T.NoPlace) none b)
abbrev vg:Stmt:=top 38
theorem Ss:η ["web","wish","r","found","place","front"] ["web","wish","r"] (aB vg):=.of
abbrev oy(P w base)(T:Txt K I):=Cb P w K I base "wish_of" nI ["web","numbers"] 2 (rN T)
theorem Pi(T:Txt K I)(hq:bU (ψ P w))(fA:jx P w base T)(cg:jb P w base T)(kX:oy P w base T):Ok P w K I base "needs" vg ["web","wish","r"] 8 (AG T):=λ_ _ D=>by
 refine D.F.Io Ss (by walk_at "v") λχ A Z s H vs Q E X h=>?_;obtain⟨p,a,t,c,m,ps,o,xs,r,rfl,W,ha,hz,k,e,e'⟩:=h;have g:=W.go;have Ο:=g.Ο;refine⟨_,(aI (Μ 3 (pct pZ T.list (aa (Ϛ kX X dq (aa (ζ 0) (aa (ζ 1) au))) au))) (aI (fV PassesOwn.leaving rfl (jM (Ϛ fA X dq (aa (ζ 0) (aa (ζ 2) au)))) (nM (n:=2) rfl (dj (ϫ 4) (dj (ϫ 5) jH))) (aM (yL (ζ 3) (ζ 5) vU (bi lY (Ι cf (ζ 3) (ζ 4)) (Ϛ cg X dq (aa (ζ 0) (aa (ζ 5) (aa (ζ 4) au))))) uS jP))) (aM (bM (ζ 3))))),?_⟩;walk_at "s";walk_at "";refine⟨p,a,t,c,m,ps,o,xs,?_⟩;refine an6 rfl W ha hz (λfi l0 H0 s0 e0=>?_) e;have xl:(xs.length:Int)=m:=by
  unfold b9 at fi;rw[bD]at fi;exact bF fi.1
 refine⟨l0,rfl,_,.inr e0,λl n1=>?_⟩;have s1:=δ.new (.lst (xs.map V.int)) n1;have f:=s0.trans s1;have nl:=s0.free n1;have e1:upd H0 l (.lst (xs.map V.int)) l=some (.lst (xs.map V.int)):=az;generalize upd H0 l (.lst (xs.map V.int))=H1 at s1 f e1 ⊢;refine⟨p,t,m,ps,o,r,?_⟩;refine an4 rfl (W.same f) (λr0 r1=>?_) (λz=>e' fi z H1 f);obtain⟨d,B,R,k⟩:=k fi r0 r1;refine⟨d,B,R,λS G J H2 _ n2 s2 e2 pa O=>?_⟩;have M:S≠l:=λz=>by rw[z,e1]at n2;cases n2
 refine⟨S,rfl,⟨_,ν.of e2⟩,?_⟩;have ql:G.length=J.reverse.length:=Paired.length pa;refine mq (K:=K) (xs:=G.map V.ref) (λi L j=>δ H j/\j S=some (.lst (G.map V.ref))/\ω j d G J.reverse/\E3 λ(C:du)(U Y:Option V)=>j l=some (.lst (C.map V.int))/\ϔ m o r d B (λv=>xs.getD v.toNat 0) (Z2 o d) (J.drop (J.length-i)) C/\L=[some (V.ref p),some (V.ref a),some (V.int r),some (V.ref l),U,Y]) ⟨f.trans s2,e2,pa,xs,_,_,s2 _ _ e1,by rw[fH,dR];exact ϔ.nil xl,rfl⟩ (λi L j _ z=>ν.of z.2.1) ?_ ?_
 .rintro i x L j N BB Ϭ hN hx ⟨s3,e3,pa3,C,U,Y,c3,so,rfl⟩;refine Ϭ _ _ ?_;obtain⟨q,v,rfl,hq,hv,eq⟩:=pa3.get hx;obtain⟨⟨y,vn⟩,ev,ac⟩:=O.turn g R so hv;have u:=R.up v y.1 y.2 vn;obtain⟨kk,hk,k0,k1⟩:=yQ g R y.1 y.2 vn;have cl:=so.len;walk_at "";refine⟨_,Κ.of eq,rfl,_,_,rfl,_,_,rfl,rfl,?_⟩;refine Χ c3 (BV u.1.1 (by lia)) (Χ c3 (BV y.1 (by lia)) ?_);refine⟨p,t,m,ps,o,d v,v,rfl,W.same s3,λk' _ _ _ _ h=>?_,λz=>absurd ⟨u.1,y⟩ z,λ_ _ _ _ z=>by rw[hk]at z;cases z⟩;rw[hk]at h;cases h;refine⟨_,rfl,_,rfl,.inr ⟨by lia,by lia⟩,_,rfl,sQ c3 u.1.1 (by rw[ag];lia) (hN _ _ ⟨s3.put nl _,?_,?_,qS d (Z2 o d) C v,_,_,?_,ac,rfl⟩)⟩
  .rw[aL M];exact e3
  .exact Paired.imp' (λa b h=>by rw[aL (fS h c3 (by intro z;cases z))];exact h) pa3
  .rw[az,<-gB];unfold qS Z2;rw[hk]
   rfl
 .rintro BB L j Ϭ ⟨s3,e3,pa3,C,U,Y,c3,so,rfl⟩;refine Ϭ _ _ ?_;rw[ag,ql,aZ,d9,gh]at so;rw[O.done g R so]at c3;walk_at "";exact k l j nl s3 c3
def yw(T:Txt K I):Sp:=λi H Q E=>E9 λ(p a t:Addr)(c:Bool)(m:Int)(h:g9)(g:hT)(e:du)(r:Int)=>i=[.ref p,.ref a,.int r]/\ι T.Web H p m t h g/\ϑ K c H a (e.map V.int)/\e.length<=1000/\(b9 m e=true->0<=r->r<m->∃d f,ε m g r d f/\∀b,δ H b->Q (.int (Α m g r d f (λv=>e.getD v.toNat 0) (Z2 g d) r)) b)/\(b9 m e=false->∀b,δ H b->E (.ref T.BadWish) none b)/\(b9 m e=true->¬(0<=r/\r<m)->∀b,δ H b->E (.ref T.NoPlace) none b)
abbrev qN:Stmt:=top 37
theorem GD:η ["web","wish","v"] ["web","wish","v"] (aB qN):=.of
theorem G1(T:Txt K I)(M:bU (ψ P w))(x:Cb P w K I base "needs" vg ["web","wish","r"] 8 (AG T)):Ok P w K I base "pile_need" qN ["web","wish","v"] 9 (yw T):=λ_ _ D=>by
 refine D.F.Io GD (by walk_at "v") λG A b s H L Q E v h=>?_;obtain⟨p,a,t,c,m,B,z,n,r,rfl,W,q,C,k,e,j⟩:=h;refine⟨_,(aM (bM (qO cf (Ϛ x v dq (aa (ζ 0) (aa (ζ 1) (aa (ζ 2) au)))) (ζ 2) (λ_ _=>rfl)))),?_⟩;walk_at "s";walk_at "";refine⟨p,a,t,c,m,B,z,n,r,?_⟩;refine an7 rfl W q C (λfi f i=>?_) e j;obtain⟨d,g,R,k⟩:=k fi f i;refine⟨d,g,R,λl o J y u=>?_⟩;refine Χ u (BV f ?_) ?_
 .unfold sB;rw[ag,bR];lia
 .rw[zU f i];exact k o y
def xh(T:Txt K I):Sp:=λe H Q _=>E10 λ(p t:Addr)(m:Int)(d:g9)(c:hT)(x v u a b:Int)=>e=[.ref p,.int x,.int v,.int u]/\ι T.Web H p m t d c/\(0<=v/\v<m)/\(0<=u/\u<m)/\ci c v u=some a/\ci c u v=some b/\(2<=a/\a<=1000000)/\(2<=b/\b<=1000000)/\Q (.int (if 0<=x then x/a else x*b)) H
abbrev qP:Stmt:=top 34
theorem G0:η ["web","over","place","front"] ["web","over","place","front"] (aB qP):=.of
theorem FP(T:Txt K I)(B:bU (ψ P w))(l:jb P w base T):Ok P w K I base "handed_on" qP ["web","over","place","front"] 4 (xh T):=λ_ _ D=>by
 refine D.F.Io G0 (by walk_at "v") λr A a s H y Q E d h=>?_;obtain⟨p,t,m,j,g,x,v,u,G,C,rfl,W,f,b,i,e,o,n,k⟩:=h;refine⟨_,(aI (fh (lE Tt (ζ 1) aQ) (aM (bM (bi iT (ζ 1) (Ϛ l d dq (aa (ζ 0) (aa (ζ 2) (aa (ζ 3) au))))))) dI) (aM (bM (bi lY (ζ 1) (Ϛ l d dq (aa (ζ 0) (aa (ζ 3) (aa (ζ 2) au)))))))),?_⟩;walk_at "s";walk_at "";by_cases c:0<=x
 .rw[aj c]at k ⊢;refine⟨p,t,m,j,g,v,u,rfl,W,λq _ _ _ _ h=>?_,λz=>absurd ⟨f,b⟩ z,λ_ _ _ _ z=>by rw[i]at z;cases z⟩;rw[i]at h;cases h;exact⟨_,rfl,⟨by lia,by lia⟩,k⟩
 .rw[ah c]at k ⊢;refine⟨p,t,m,j,g,u,v,rfl,W,λq _ _ _ _ h=>?_,λz=>absurd ⟨b,f⟩ z,λ_ _ _ _ z=>by rw[e]at z;cases z⟩;rw[e]at h;cases h;exact⟨_,rfl,.inr ⟨by lia,by lia⟩,k⟩
def xZ(T:Txt K I):Sp:=λk H Q E=>E12 λ(p a b t:Addr)(c d:Bool)(m:Int)(n:g9)(j:hT)(f h:du)(r:Int)=>k=[.ref p,.ref a,.ref b,.int r]/\ι T.Web H p m t n j/\ϑ K c H a (f.map V.int)/\f.length<=1000/\ϑ K d H b (h.map V.int)/\h.length<=1000/\(b9 m f=true->b9 m h=true->0<=r->r<m->∃g i,ε m j r g i/\∀l e,H l=none->δ H e->e l=some (.lst ((sB m j r g i (λv=>(dA m f h).getD v.toNat 0) (Τ j g)).map V.int))->Q (.ref l) e)/\(b9 m f=false->∀e,δ H e->E (.ref T.BadLaying) none e)/\(b9 m f=true->b9 m h=false->∀e,δ H e->E (.ref T.BadWish) none e)/\(b9 m f=true->b9 m h=true->¬(0<=r/\r<m)->∀e,δ H e->E (.ref T.NoPlace) none e)
abbrev j8:Stmt:=top 33
theorem p9:η ["web","laying","wish","r","has","wanted","over","place","front"] ["web","laying","wish","r"] (aB j8):=.of
theorem zR:NmC (aB j8) "has":=.of (by kernel_rfl)
theorem wR:NmC (aB j8) "wanted":=.of (by kernel_rfl)
theorem y6:NmL (aB j8) "over":=.of (by kernel_rfl)
theorem xf:ϛ (aB j8) "range":=.of (by kernel_rfl)
theorem Gi(T:Txt K I)(hq:bU (ψ P w))(ug:Cb P w K I base "handed_on" qP ["web","over","place","front"] 4 (xh T))(fA:jx P w base T)(mU:Cb P w K I base "laying_of" mS ["web","numbers"] 2 (sP T))(kX:oy P w base T):Ok P w K I base "standings" j8 ["web","laying","wish","r"] 8 (xZ T):=λ_ _ D=>by
 refine D.F.Io p9 (by walk_at "v") λχ A av s H vs Q E hr h=>?_;obtain⟨p,a,b,t,c,d,m,ps,C,xs,J,r,rfl,W,ha,hz,hb,hy,k,e1,e2,e3⟩:=h;have g:=W.go;have m1:=g.m1;have Ο:=g.Ο;refine⟨_,(aI (pV (i:=4) p9.nd rfl (Or.inr zR.l) (Ϛ mU hr dq (aa (ζ 0) (aa (ζ 1) au)))) (aI (pV (i:=5) p9.nd rfl (Or.inr wR.l) (Ϛ kX hr dq (aa (ζ 0) (aa (ζ 2) au)))) (aI (rP (i:=6) p9.nd rfl y6.l rfl (Z5 ["place","has","wanted"] 1 [4,5]) (j9 xf.g T.range (aa (dP (ζ 0) rfl) au)) (λ_ _ _ _=>(eE (i:=0) (show(["place","has","wanted"]:hO).Nodup from by decide +kernel) rfl (Or.inl rfl))) (λ_ _ _ _=>gP) (λ_ _ _ _=>(bi jS (Ι (pH K rfl) (pv 1) (pv 0)) (Ι (pH K rfl) (pv 2) (pv 0))))) (aI (fV PassesOwn.leaving rfl (jM (Ϛ fA hr dq (aa (ζ 0) (aa (ζ 3) au)))) (nM (n:=2) rfl (dj (ϫ 7) (dj (ϫ 8) jH))) (aM (yL (ζ 6) (ζ 8) vU (Ϛ ug hr dq (aa (ζ 0) (aa (Ι cf (ζ 6) (ζ 7)) (aa (ζ 7) (aa (ζ 8) au))))) uS jP))) (aM (bM (ζ 6))))))),?_⟩;walk_at "s";walk_at "";refine⟨p,a,t,c,m,ps,C,xs,rfl,W,ha,hz,λfi la H1 Z _ ea=>?_,e1⟩;refine⟨p,b,t,d,m,ps,C,J,rfl,W.same Z,δ.Ac Z hb,hy,λX lb H2 s2 eb=>?_,λX H2 s2=>e2 fi X H2 (Z.trans s2)⟩;have U:∀{j:du},b9 m j=true->(j.length:Int)=m:=λ{j} f=>by
  unfold b9 at f;rw[bD]at f;exact bF f.1
 have xl:=U fi;have yl:=U X;have ϻ:=Z.trans s2;have W2:=W.same ϻ;obtain⟨dx,ob⟩:=W2.ob;refine⟨T.Web,dx,_,ob,T.jA,T.ό,_,hZ m t,m,rfl,by lia,by lia,λlo no=>?_⟩;have an:=δ.tup s2 ea;refine lm (λi j y L=>δ H2 L/\L lo=some (.lst j)/\j=((List.range i).map λi=>xs.getD i 0-J.getD i 0).map V.int/\∃v,y=[v,some (V.ref la),some (V.ref lb)]) ⟨δ.new _ no,az,rfl,_,rfl⟩ ?_ ?_
 .rintro i j y L N hN hi ⟨s3,e3',rfl,v,rfl⟩;rw[dC];have i0:(0:Int)<=(i:Int):=by lia
  have ga:=BV (xs:=xs) i0 (by lia);have gb:=BV (xs:=J) i0 (by lia);rw[cu]at ga gb;walk_at "";refine xO (δ.tup s3 an) ga (xO (δ.tup s3 eb) gb ⟨_,rfl,_,rfl,e3',eW (by simp;lia),hN _ _ _ ⟨s3.put no _,az,?_,_,rfl⟩⟩);rw[dv,aE,aE]
  rfl
 .rintro j y L ⟨s3,e3',rfl,v,rfl⟩;have M:=ϻ.free no;have G:=ϻ.trans s3;have ol:=Nr (m:=m) (by lia) xs J;change L lo=some (.lst ((dA m xs J).map V.int))at e3';refine⟨p,t,m,ps,C,r,rfl,W.same G,λr0 r1=>?_,λz=>e3 fi X z L G⟩;obtain⟨e,S,R,k⟩:=k fi X r0 r1;refine⟨e,S,R,λl2 qs tl H4 _ n2 s4 e4 pa O=>?_⟩;have ai:l2≠lo:=λz=>by rw[z,e3']at n2;cases n2
  refine⟨l2,rfl,⟨_,ν.of e4⟩,?_⟩;have ql:qs.length=tl.reverse.length:=Paired.length pa;refine yo (K:=K) (xs:=qs.map V.ref) (λi y o=>δ H o/\o l2=some (.lst (qs.map V.ref))/\ω o e qs tl.reverse/\E3 λ(Y:du)(v4 v5:Option V)=>o lo=some (.lst (Y.map V.int))/\ϔ m C r e S (λv=>(dA m xs J).getD v.toNat 0) (Τ C e) (tl.drop (tl.length-i)) Y/\y=[some (V.ref p),some (V.ref a),some (V.ref b),some (V.int r),some (V.ref la),some (V.ref lb),some (V.ref lo),v4,v5]) ⟨G.trans s4,e4,pa,dA m xs J,_,_,s4 _ _ e3',by rw[fH,dR];exact ϔ.nil ol,rfl⟩ (λi y o _ z=>ν.of z.2.1) ?_ ?_
  .rintro i x y o N hN hx ⟨s5,e5,pa5,Y,v4,v5,c5,so,rfl⟩;obtain⟨q,v,rfl,hq,hv,eq⟩:=pa5.get hx;obtain⟨⟨B,vn⟩,ev,aS⟩:=O.turn g R so hv;have u:=R.up v B.1 B.2 vn;obtain⟨kk,hk,k0,k1⟩:=lV g R B.1 B.2 vn;obtain⟨kd,hd,d0,d1⟩:=yQ g R B.1 B.2 vn;have cl:=so.len;walk_at "";refine⟨_,Κ.of eq,rfl,_,_,rfl,_,_,rfl,rfl,?_⟩;refine Χ c5 (BV u.1.1 (by lia)) (Χ c5 (BV B.1 (by lia)) ?_);refine⟨p,t,m,ps,C,_,v,e v,kk,kd,rfl,W.same s5,B,u.1,hk,hd,⟨k0,k1⟩,⟨d0,d1⟩,?_⟩;refine⟨_,rfl,_,rfl,sQ c5 u.1.1 (by rw[ag];lia) (hN _ _ ⟨s5.put M _,?_,?_,qS e (Τ C e) Y v,_,_,?_,aS,rfl⟩)⟩
   .rw[aL ai];exact e5
   .exact Paired.imp' (λa b h=>by rw[aL (fS h c5 (by intro z;cases z))];exact h) pa5
   .rw[az,<-gB];unfold qS Τ;rw[hk,hd]
    rfl
  .rintro y o ⟨s5,e5,pa5,Y,v4,v5,c5,so,rfl⟩;rw[ag,ql,aZ,d9,gh]at so;rw[O.done g R so]at c5;walk_at "";exact k lo o M s5 c5
def zy(T:Txt K I):Sp:=λk H Q E=>E12 λ(p a b t:Addr)(c d:Bool)(m:Int)(l:g9)(j:hT)(f h:du)(r:Int)=>k=[.ref p,.ref a,.ref b,.int r]/\ι T.Web H p m t l j/\ϑ K c H a (f.map V.int)/\f.length<=1000/\ϑ K d H b (h.map V.int)/\h.length<=1000/\(b9 m f=true->b9 m h=true->0<=r->r<m->∃g i,ε m j r g i/\∀e,δ H e->Q (.int (Α m j r g i (λv=>(dA m f h).getD v.toNat 0) (Τ j g) r)) e)/\(b9 m f=false->∀e,δ H e->E (.ref T.BadLaying) none e)/\(b9 m f=true->b9 m h=false->∀e,δ H e->E (.ref T.BadWish) none e)/\(b9 m f=true->b9 m h=true->¬(0<=r/\r<m)->∀e,δ H e->E (.ref T.NoPlace) none e)
abbrev rO:Stmt:=top 35
theorem Jh:η ["web","laying","wish","r"] ["web","laying","wish","r"] (aB rO):=.of
theorem IX(T:Txt K I)(X:bU (ψ P w))(G:Cb P w K I base "standings" j8 ["web","laying","wish","r"] 8 (xZ T)):Ok P w K I base "standing" rO ["web","laying","wish","r"] 9 (zy T):=λ_ _ D=>by
 refine D.F.Io Jh (by walk_at "v") λS A e s H V Q E y h=>?_;obtain⟨p,a,b,t,c,d,m,J,C,o,q,r,rfl,W,x,O,M,B,k,f,N,u⟩:=h;refine⟨_,(aM (bM (qO cf (Ϛ G y dq (aa (ζ 0) (aa (ζ 1) (aa (ζ 2) (aa (ζ 3) au))))) (ζ 3) (λ_ _=>rfl)))),?_⟩;walk_at "s";walk_at "";refine⟨p,a,b,t,c,d,m,J,C,o,q,r,rfl,W,x,O,M,B,λfi L i n=>?_,f,N,u⟩;obtain⟨g,j,R,k⟩:=k fi L i n;refine⟨g,j,R,λl v U z f=>?_⟩;refine Χ f (BV i ?_) ?_
 .unfold sB;rw[ag,bR];lia
 .rw[zU i n];exact k v z
def wE(T:Txt K I):Sp:=λg H Q _=>E7 λ(p t:Addr)(m:Int)(f:g9)(c:hT)(r:Int)(n:Nat)=>g=[.ref p,.int r,.int (n+1:Nat)]/\ι T.Web H p m t f c/\(0<=r/\r<m)/\n+1<=2^4000/\∃a b,ε m c r a b/\∀d e,Order m r a d->cT m c r a b r=r::d->δ H e->Q (.int (wyT m c r a b d r n)) e
abbrev nU:Stmt:=top 80
theorem Fd:η ["web","r","wanted"] ["web","r","wanted"] (aB nU):=.of
theorem qu:ϛ (aB nU) "Tally":=.of (by kernel_rfl)
theorem Fm(T:Txt K I)(C:bU (ψ P w)){y:Addr}{v:FuncData}(mI:Fun K "__init__" "Tally.__init__" f9 y v)(DF:Binds K v ["self","web","r"] [])(Z:Mk K T.Tally y)(ϩ:Ψ P w K I base (ψ P w) 10 y v ["self","web","r"] (rK T))(kh:oe P w base T)(pM:m2 P w base T):Ok P w K I base "worst_many" nU ["web","r","wanted"] 12 (wE T):=λ_ _ D=>by
 refine D.F.ϓ Fd (by walk_at "v") λχ A J s H vs Q E hr h=>?_;obtain⟨p,t,m,U,l,r,n,rfl,W,f,nb,a,i,R,k⟩:=h;have g:=W.go;refine⟨_,(aI (fD (Η kh hr C (aa (ζ 0) (aa (ζ 1) (aa (ζ 2) au))))) (aM (bM (Η pM hr C (aa (yD Z ϩ (hr.mono (by decide)) qu.g T.Uz DF .nil (gU C) (aa (ζ 0) (aa (ζ 1) au)) (hdb:=qu.d)) (aa (ζ 1) (aa (bi jS (ζ 2) aQ) au))))))),?_⟩;walk_at "s";walk_at "";refine⟨p,t,m,U,l,r,((n+1:Nat):Int),rfl,W,λ_ _ _=>?_,λz=>absurd f z,λ_ _ z=>absurd z (by lia)⟩;dsimp only;intro x q O N ne;have B:upd H q (.own x) x=none:=by rw[aL ne.symm];exact O
 have S:δ H (upd (upd H q (.own x)) x (.ins T.Tally q [])):=(δ.new _ N).trans (δ.new _ B);refine⟨x,q,p,t,m,U,l,r,rfl,az,W.same S,f,a,i,R,λM ld lw lb lk lr kl rv H2 TA kp=>⟨rfl,?_⟩⟩;have s2:δ H H2:=λb o e=>kp b o (S b o e) (cJ e O);obtain⟨_,X,ϴ,h1,h2,h3,V⟩:=TA.ϱ r f;obtain⟨sr,es⟩:=Hx (kd m l r a r);rw[es]at V;obtain⟨u,ob⟩:=TA.ob;have L:=sx (fr:=frW m l r a i M) (be:=beW m l r a i M) (c:=cK l a) g R f.1 f.2;have e1:((n+1:Nat):Int)-1=(n:Int):=by lia
 have e4:(2:Nat)^4000<=2^4000:=aJ _;cases V with
 | cons e he=>
   obtain⟨cs,c1,c2⟩:=e;have G:=c2.le (b':=15000) (Bp (by have:=vR g R f.1 f.2;have:=Hs g R f.1 f.2;have:=g.Ο;lia));have cl:=G.len;rw[e1];refine⟨x,u,lr,X,_,_,rv,_,r,cs,n,rfl,ob,uo _ _ _ _ _ _,TA.hr,f.1,h1,h3,c1,by lia,q8 (k:=4000) (by lia) (by decide),λc hc=>q8 (G.bt c hc) (by decide),λj hj=>KM (x:=4000) nb (by lia),λH3 Y=>?_⟩;rw[G.val];have:=k M H3 TA.or TA.et (s2.trans Y);unfold wyT at this;rw[L]at this;exact this
def tP(T:Txt K I):Sp:=λj H Q _=>E11 λ(p a b t:Addr)(m:Int)(k:g9)(e:hT)(g f:du)(r:Int)(n:Nat)=>j=[.ref p,.ref a,.ref b,.int r]/\ι T.Web H p m t k e/\H a=some (.lst (g.map V.int))/\H b=some (.lst (f.map V.int))/\(g.length:Int)=m/\(f.length:Int)=m/\(∀x∈g,0<=x)/\(∀y∈f,0<=y)/\(0<=r/\r<m)/\(n:Int)=f.getD r.toNat 0%10^Int.toNat 9/\∃c d,ε m e r c d/\∀(l:Addr)(h:du)(i:Hp),cT m e r c d r=r::h->Order m r c h->H l=none->δ H i->i l=some (.lst ([Α m e r c d (λv=>(dA m g f).getD v.toNat 0) (Τ e c) r,Α m e r c d (λv=>g.getD v.toNat 0) (giv e c) r,Α m e r c d (λv=>f.getD v.toNat 0) (Z2 e c) r,bnd m e r c (jO m e r c d) (n+1:Nat)+1,wyT m e r c d h r n].map V.int))->Q (.ref l) i
abbrev om:Stmt:=top 96
theorem Cn:η ["web","laying","wish","r","told","wanted"] ["web","laying","wish","r"] (aB om):=.of
theorem BK(T:Txt K I)(x:bU (ψ P w))(Ai:Cb P w K I base "enough" vI ["web","r","wanted"] 9 (DX T))(HG:Cb P w K I base "most" Bn ["web","laying","r"] 9 (KA T))(uv:Cb P w K I base "pile_need" qN ["web","wish","v"] 9 (yw T))(vY:Cb P w K I base "standing" rO ["web","laying","wish","r"] 9 (zy T))(sO:Cb P w K I base "worst_many" nU ["web","r","wanted"] 12 (wE T)):Ok P w K I base "_law_all_told" om ["web","laying","wish","r"] 13 (tP T):=λ_ _ D=>by
 refine D.F.ϓ Cn (by walk_at "v") λχ A N s H vs Q E q h=>?_;obtain⟨p,a,b,t,m,G,e,f,i,r,n,rfl,W,ha,Y,xl,yl,x0,y0,l,en,c,d,R,k⟩:=h;have g:=W.go;have m1:=g.m1;have Ο:=g.Ο;have y:=tW xl x0;have u:=tW yl y0;refine⟨_,(aI (Μ 4 (fG (aa (Η vY q x (aa (ζ 0) (aa (ζ 1) (aa (ζ 2) (aa (ζ 3) au))))) (aa (Η HG q x (aa (ζ 0) (aa (ζ 1) (aa (ζ 3) au)))) (aa (Η uv q x (aa (ζ 0) (aa (ζ 2) (aa (ζ 3) au)))) au))))) (aI (Μ 5 (bi ja aQ (bi fW (Ι cf (ζ 2) (ζ 3)) (bi qf aQ aQ)))) (aM (bM (bi VA (ζ 4) (fG (aa (Η Ai q x (aa (ζ 0) (aa (ζ 3) (aa (ζ 5) au)))) (aa (Η sO q x (aa (ζ 0) (aa (ζ 3) (aa (ζ 5) au)))) au)))))))),?_⟩;walk_at "s";refine gJ λN1 h1=>?_;walk_at "";refine⟨p,a,b,t,true,true,m,G,e,f,i,r,rfl,W,ν.of ha,by lia,ν.of Y,by lia,λ_ _ _ _=>⟨c,d,R,λH1 J=>?_⟩,λz=>(by rw[y]at z;cases z),λ_ z=>(by rw[u]at z;cases z),λ_ _ z=>absurd l z⟩;refine⟨p,a,t,true,m,G,e,f,r,rfl,W.same J,ν.of (J _ _ ha),by lia,λ_ _ _=>⟨c,d,R,λH2 s2=>?_⟩,λz=>(by rw[y]at z;cases z),λ_ z=>absurd l z⟩;have M:=J.trans s2;refine⟨p,b,t,true,m,G,e,i,r,rfl,W.same M,ν.of (M _ _ Y),by lia,λ_ _ _=>⟨c,d,R,λX s3=>⟨dL (by simp),λo n1=>h1 _ _ (gJ λN2 h2=>?_)⟩⟩,λz=>(by rw[u]at z;cases z),λ_ z=>absurd l z⟩;have L:=M.trans s3;have j:=L.trans (δ.new (HO.lst ([Α m e r c d (λv=>(dA m f i).getD v.toNat 0) (Τ e c) r,Α m e r c d (λv=>f.getD v.toNat 0) (giv e c) r,Α m e r c d (λv=>i.getD v.toNat 0) (Z2 e c) r].map V.int)) n1);have e4:upd X o (HO.lst ([Α m e r c d (λv=>(dA m f i).getD v.toNat 0) (Τ e c) r,Α m e r c d (λv=>f.getD v.toNat 0) (giv e c) r,Α m e r c d (λv=>i.getD v.toNat 0) (Z2 e c) r].map V.int)) o=some (.lst ([Α m e r c d (λv=>(dA m f i).getD v.toNat 0) (Τ e c) r,Α m e r c d (λv=>f.getD v.toNat 0) (giv e c) r,Α m e r c d (λv=>i.getD v.toNat 0) (Z2 e c) r].map V.int)):=az;generalize C:upd X o (HO.lst ([Α m e r c d (λv=>(dA m f i).getD v.toNat 0) (Τ e c) r,Α m e r c d (λv=>f.getD v.toNat 0) (giv e c) r,Α m e r c d (λv=>i.getD v.toNat 0) (Z2 e c) r].map V.int))=H4 at j e4;rw[show upd X o (HO.lst [V.int (Α m e r c d (λv=>(dA m f i).getD v.toNat 0) (Τ e c) r),V.int (Α m e r c d (λv=>f.getD v.toNat 0) (giv e c) r),V.int (Α m e r c d (λv=>i.getD v.toNat 0) (Z2 e c) r)])=H4 from C];clear C;walk_at "";refine Χ (j _ _ Y) (BV l.1 (by lia)) ⟨⟨by decide,by decide,by decide⟩,_,rfl,by decide,?_⟩;rw[<-en,show 1+(n:Int)=((n+1:Nat):Int) by lia];have n9:(n:Int)<10^Int.toNat 9:=by rw[en];exact bX _ (by decide)
 have e9:(10:Int)^Int.toNat 9=1000000000:=by decide
 have a2:(1000000001:Int)<=10^60:=by decide
 refine h2 _ _ ?_;walk_at "";refine⟨p,t,m,G,e,r,_,rfl,W.same j,by lia,by lia,λ_ _ _=>⟨c,d,R,λH5 S=>?_⟩,λz=>absurd l z,λ_ _ z=>absurd z (by lia)⟩;refine⟨p,t,m,G,e,r,n,rfl,W.same (j.trans S),l,bw (show n+1<=2^64 by lia) (by decide +kernel),c,d,R,λtl H6 O et s6=>⟨dL (by simp),λl2 n2=>?_⟩⟩;have B:=j.trans (S.trans s6);have U:=δ.new (HO.lst [V.int (bnd m e r c (jO m e r c d) (n+1:Nat)+1),V.int (wyT m e r c d tl r n)]) n2;refine⟨o,l2,_,_,rfl,rfl,U _ _ (s6 _ _ (S _ _ e4)),az,dL (by simp),λl3 Z=>?_⟩;exact k l3 tl _ et O (B.free (U.free Z)) (B.trans (U.trans (δ.new _ Z))) az
theorem S4(c i:Int)(g:0<=i)(h:i<=1000):Z7 7919 i/\Z7 (c%998244353+7919*i+11) 48271/\Z7 ((c%998244353+7919*i+11)*48271%2147483647) ((c%998244353+7919*i+11)*48271%2147483647)/\Z7 (((c%998244353+7919*i+11)*48271%2147483647)*((c%998244353+7919*i+11)*48271%2147483647)%2147483629) (((c%998244353+7919*i+11)*48271%2147483647)*((c%998244353+7919*i+11)*48271%2147483647)%2147483629)/\Z7 ((((c%998244353+7919*i+11)*48271%2147483647)*((c%998244353+7919*i+11)*48271%2147483647)%2147483629)*(((c%998244353+7919*i+11)*48271%2147483647)*((c%998244353+7919*i+11)*48271%2147483647)%2147483629)) (((c%998244353+7919*i+11)*48271%2147483647)+12345678901)/\Xx ((((c%998244353+7919*i+11)*48271%2147483647)*((c%998244353+7919*i+11)*48271%2147483647)%2147483629)*(((c%998244353+7919*i+11)*48271%2147483647)*((c%998244353+7919*i+11)*48271%2147483647)%2147483629)*(((c%998244353+7919*i+11)*48271%2147483647)+12345678901)) 7/\0<=(((c%998244353+7919*i+11)*48271%2147483647)*((c%998244353+7919*i+11)*48271%2147483647)%2147483629)*(((c%998244353+7919*i+11)*48271%2147483647)*((c%998244353+7919*i+11)*48271%2147483647)%2147483629)*(((c%998244353+7919*i+11)*48271%2147483647)+12345678901)/7:=by
 have b:=b5 ((c%998244353+7919*i+11)*48271) (show(2147483647:Int)≠0 by decide);have d:=bX ((c%998244353+7919*i+11)*48271) (show(0:Int)<2147483647 by decide);generalize (c%998244353+7919*i+11)*48271%2147483647=n at b d ⊢;have a:=b5 (n*n) (show(2147483629:Int)≠0 by decide);have e:=bX (n*n) (show(0:Int)<2147483629 by decide);generalize n*n%2147483629=f at a e ⊢;refine⟨.inl ⟨by decide,by decide⟩,.inr ⟨by decide,by decide⟩,.inl ⟨by lia,by lia⟩,.inl ⟨by lia,by lia⟩,.inr ⟨by lia,by lia⟩,⟨by decide,by decide⟩,?_⟩;exact fL (dW (dW a a) (by lia)) (by decide)
def me(T:Txt K I):Sp:=λc H Q _=>E3 λ(a:Addr)(b:du)(k:Int)=>c=[.ref a,.int k]/\ν K H a (b.map V.int)/\0<=k/\k<=1000/\∀v,0<=v->Q (.int v) H
abbrev j7:Stmt:=top 88
theorem F8:η ["script","k","cell","near","far"] ["script","k"] (aB j7):=.of
theorem Gs(T:Txt K I)(U:bU (ψ P w)):Ok P w K I base "_law_drawn" j7 ["script","k"] 1 (me T):=λ_ _ D=>by
 refine D.F.ϓ F8 (by walk_at "v") λN A f s H R Q E S h=>?_;obtain⟨a,g,i,rfl,e,j,t,k⟩:=h;refine⟨_,(aI (Μ 2 aQ) (aI (fh (lE Fz (ζ 1) (pcb jF T.len (aa (ζ 0) au))) (aM (Μ 2 (bi fW (Ι cf (ζ 0) (ζ 1)) (bi qf aQ aQ)))) dI) (aI (fh (PW.pt (GS (lE FA (pcb jF T.len (aa (ζ 0) au)) aQ) (Dw (lE kG (bi fW (Ι cf (ζ 0) aQ) aQ) aQ)))) (aI (Μ 3 (bi fW (bi lY (bi ja (bi ja (bi fW (ζ 2) aQ) (bi lY aQ (ζ 1))) aQ) aQ) aQ)) (aI (Μ 4 (bi fW (bi lY (ζ 3) (ζ 3)) aQ)) (aM (Μ 2 (bi iT (bi lY (bi lY (ζ 4) (ζ 4)) (bi ja (ζ 3) aQ)) aQ))))) dI) (aM (bM (ζ 2)))))),?_⟩;walk_at "s";refine gJ λO J=>?_;walk_at "";refine J _ _ (gJ λL B=>?_);have n:∀c,0<=c->L [some (V.ref a),some (V.int i),some (V.int c),none,none] H:=λc d=>B _ _ (gJ λq v=>by
  have b:∀c l m,0<=c->q [some (V.ref a),some (V.int i),some (V.int c),l,m] H:=λc l m d=>v _ _ (by
   walk_at "";exact k c d)
  obtain⟨o,u,G,r,M,p,C⟩:=S4 c i j t;walk_at "";refine⟨_,.inl e,?_⟩;rw[ag];by_cases x:0<(g.length:Int)
  .rw[aj x];refine ixS e (BV (by decide) x) ⟨_,rfl,by decide,?_⟩;by_cases y:g.getD (0:Int).toNat 0%2=1
   .rw[aj y];exact⟨by decide,o,u,by decide,G,by decide,r,M,p,b _ _ _ C⟩
   .rw[ah y];exact b _ _ _ d
  .rw[ah x];exact b _ _ _ d)
 walk_at "";refine⟨_,.inl e,?_⟩;rw[ag];by_cases z:i<(g.length:Int)
 .rw[aj z];exact ixS e (BV j z) ⟨⟨by decide,by decide,by decide⟩,_,rfl,p60,n _ (b5 _ (cH p60))⟩
 .rw[ah z];exact n 0 (by decide)
def yh(T:Txt K I):Sp:=λe H Q _=>∃(a:Addr)(d:du),e=[.ref a]/\ν K H a (d.map V.int)/\∀b c,2<=b->b<=10^60->δ H c->Q (.int b) c
abbrev qQ:Stmt:=top 91
theorem FR:η ["script","head"] ["script"] (aB qQ):=.of
abbrev p3(P w base)(T:Txt K I):=Cb P w K I base "_law_drawn" j7 ["script","k"] 1 (me T)
theorem GF(T:Txt K I)(g:bU (ψ P w))(n:p3 P w base T):Ok P w K I base "_law_bound" qQ ["script"] 2 (yh T):=λ_ _ D=>by
 refine D.F.ϓ FR (by walk_at "v") λp A d s H r Q E f h=>?_;obtain⟨a,m,rfl,e,k⟩:=h;refine⟨_,(aI (Μ 1 (bi iT (Η n f g (aa (ζ 0) (aa aQ au))) aQ)) (aM (bM (qO cf (fG (aa aQ (aa aQ (aa aQ (aa (bi qf aQ aQ) au))))) (bi fW (ζ 1) aQ) (λ_ _=>rfl))))),?_⟩;walk_at "s";walk_at "";refine⟨a,m,0,rfl,e,by decide,by decide,λc o=>⟨c,rfl,⟨by decide,by decide⟩,⟨by decide,by decide,by decide⟩,dL (by simp),λq b=>⟨by decide,?_⟩⟩⟩;have l:=b5 (c/1200) (show(4:Int)≠0 by decide);have i:=bX (c/1200) (show(0:Int)<4 by decide);generalize c/1200%4=j at l i ⊢;rcases(show j=0\/j=1\/j=2\/j=3 by lia)with z|z|z|z
 .rw[z];exact Χ az rfl (k _ _ (by decide) (by decide) (δ.new _ b))
 .rw[z];exact Χ az rfl (k _ _ (by decide) (by decide) (δ.new _ b))
 .rw[z];exact Χ az rfl (k _ _ (by decide) (by decide) (δ.new _ b))
 .rw[z];exact Χ az rfl (k _ _ (by decide) (by decide) (δ.new _ b))
def wC(T:Txt K I):Sp:=λf H Q _=>E4 λ(a:Addr)(e:du)(m b:Int)=>f=[.ref a,.int m,.int b]/\ν K H a (e.map V.int)/\e.length<=63/\1<=m/\m<=24/\1<=b/\∀(l:Addr)(d:du)(c:Hp),H l=none->δ H c->c l=some (.lst (d.map V.int))->(d.length:Int)=m->(∀x∈d,0<=x)->Q (.ref l) c
abbrev nY:Stmt:=top 92
theorem Fj:η ["script","many","bound","laying","k","place"] ["script","many","bound"] (aB nY):=.of
theorem wJ:ϛ (aB nY) "range":=.of (by kernel_rfl)
theorem Fp(T:Txt K I)(M:bU (ψ P w))(S:p3 P w base T):Ok P w K I base "_law_laying" nY ["script","many","bound"] 2 (wC T):=λ_ _ D=>by
 refine D.F.ϓ Fj (by walk_at "v") λχ A o s H vs Q E L h=>?_;obtain⟨a,R,m,b,rfl,B,hn,m0,m1,b0,k⟩:=h;refine⟨_,(aI (Μ 3 (bi pY (fG (aa aQ au)) (ζ 1))) (aI (fV PassesOwn.never rfl (xQ wJ.g T.range (aa (ζ 1) (aa (pcb jF T.len (aa (ζ 0) au)) au))) (ϫ 4) (aM (fh (lE kG (bi fW (ζ 4) aQ) aQ) (aI (Μ 5 (bi fW (Η S L M (aa (ζ 0) (aa (ζ 4) au))) (ζ 1))) (aM (rc (bi fW (bi ja (bi lY (Ι cf (ζ 3) (ζ 5)) aQ) (bi iT (Η S L M (aa (ζ 0) (aa (ζ 4) au))) (ζ 1))) (ζ 2)) (rB (ζ 3) (ζ 5) jP)))) dI))) (aM (bM (ζ 3))))),?_⟩;walk_at "s";walk_at "";refine⟨dL (by simp),λf Z=>?_⟩;refine⟨f,m,_,rfl,rfl,az,by lia,by lia,dL (by simp;lia),λl C=>?_⟩;rw[Bs];have O:δ H (upd H f (.lst [.int 0])):=δ.new _ Z;have u:=O.trans (δ.new (.lst (List.replicate m.toNat (V.int 0))) C);have nl:=O.free C;refine⟨_,.inl (δ.seq u B),m,_,⟨rfl,rfl⟩,⟨by lia,by lia,by lia,by rw[ag];lia⟩,?_⟩;rw[ag];have G:upd (upd H f (.lst [.int 0])) l (.lst (List.replicate m.toNat (V.int 0))) l=some (.lst ((List.replicate m.toNat (0:Int)).map V.int)):=by rw[az,iz]
 generalize upd (upd H f (.lst [.int 0])) l (.lst (List.replicate m.toNat (V.int 0)))=H1 at u G ⊢;refine qj (λi q e=>δ H e/\E3 λ(d:du)(r v:Option V)=>e l=some (.lst (d.map V.int))/\(d.length:Int)=m/\(∀x∈d,0<=x)/\q=[some (.ref a),some (.int m),some (.int b),some (.ref l),r,v]) ⟨u,_,_,_,G,by rw[cD];lia,λx U=>by rw[(j5.mp U).2];decide,rfl⟩ ?_ ?_
 .rintro i q e N hN hi ⟨s2,d,r,v,e2,xl,x0,rfl⟩;have n:0<=m+(i:Int):=by lia
  have t:m+(i:Int)<=1000:=by lia
  generalize m+(i:Int)=j at n t ⊢;have J:=δ.seq s2 B;walk_at "";refine⟨by decide,?_⟩;by_cases z:j%2=0
  .rw[aj z];refine⟨a,R,j,rfl,J,n,t,λc c0=>⟨c,rfl,by lia,?_⟩⟩;have y:=b5 c (show m≠0 by lia);have Y:=bX c (show 0<m by lia);generalize c%m=p at y Y ⊢;refine Χ e2 (BV y (by lia)) ⟨_,rfl,.inr ⟨by decide,by decide⟩,a,R,j,rfl,J,n,t,λW X=>⟨W,rfl,⟨by lia,by lia⟩,by lia,sQ e2 y (by rw[ag];lia) (hN _ _ ⟨s2.put nl _,d.set p.toNat _,_,_,by rw[az,gB],by rw[b8];exact xl,B3 x0 (b5 _ (by lia)),rfl⟩)⟩⟩
  .rw[ah z];exact hN _ _ ⟨s2,d,_,_,e2,xl,x0,rfl⟩
 .rintro q e ⟨s2,d,r,v,e2,xl,x0,rfl⟩;exact⟨_,rfl,k l d e nl s2 e2 xl x0⟩
def xH(T:Txt K I):Sp:=λb H Q _=>∃(c m:Int),b=[.int c,.int m]/\1<=m/\m<=24/\∀(l:Addr)(os:du)(a:Hp),H l=none->δ H a->a l=some (.lst (os.map V.int))->Ε m.toNat os->Q (.ref l) a
abbrev oZ:Stmt:=top 94
theorem Ip:η ["cell","many","order","place"] ["cell","many"] (aB oZ):=.of
theorem wU:ϛ (aB oZ) "range":=.of (by kernel_rfl)
theorem FL(T:Txt K I)(y:bU (ψ P w)):Ok P w K I base "_law_order" oZ ["cell","many"] 1 (xH T):=λ_ _ D=>by
 refine D.F.ϓ Ip (by walk_at "v") λq A f s H u Q E x h=>?_;obtain⟨c,m,rfl,t,p,k⟩:=h;refine⟨_,(aI (Μ 2 (fG au)) (aI (fV PassesOwn.never rfl (j9 wU.g T.range (aa (ζ 1) au)) (ϫ 3) (aI (fD (oB PySem.F.plainAttrs_list iC PySem.F.type_list_insert Ee (ζ 2) (aa (bi fW (ζ 0) (bi ja (ζ 3) aQ)) (aa (ζ 3) au)))) (aM (Μ 0 (bi iT (ζ 0) (bi ja (ζ 3) aQ)))))) (aM (bM (ζ 2))))),?_⟩;walk_at "s";walk_at "";refine⟨by decide,λl b=>⟨by lia,by lia,?_⟩⟩;refine qj (λi j e=>δ H e/\(∃a,e l=some (.lst (a.map V.int))/\Ε i a)/\∃(d:Int)(v:Option V),j=[some (V.int d),some (V.int m),some (V.ref l),v]) ⟨δ.new _ b,⟨[],az,.nil⟩,_,_,rfl⟩ ?_ ?_
 .rintro i j e N hN hi ⟨s2,⟨a,e2,L⟩,d,v,rfl⟩;rw[dC];have r:=L.len;walk_at "";refine⟨Z0 e2,by lia,?_⟩;have n:=b5 d (show(i:Int)+1≠0 by lia);have o:=bX d (show 0<(i:Int)+1 by lia);generalize d%((i:Int)+1)=w at n o ⊢;refine XA e2 n (by rw[ag];lia) (eW (by rw[ag];lia)) ?_;refine⟨⟨by lia,by lia⟩,hN _ _ ⟨s2.put b _,⟨_,?_,L.put w.toNat (by lia)⟩,_,_,rfl⟩⟩;rw[az,aE,aF,List.map_take,mE]
 .rintro j e ⟨s2,⟨os,e2,L⟩,d,v,rfl⟩;walk_at "";exact k l os e b s2 e2 L
def Cw(T:Txt K I):Sp:=λf H Q _=>E4 λ(a b:Addr)(c:List V)(os:du)=>f=[.ref a,.ref b]/\H a=some (.lst c)/\H b=some (.lst (os.map V.int))/\Ε c.length os/\c.length<=24/\∀(l:Addr)(e:List V)(d:Hp),H l=none->δ H d->d l=some (.lst e)->e.length=c.length->(∀(i:Nat)(x:V),c[i]?=some x->e[(os.getD i 0).toNat]?=some x)->Q (.ref l) d
abbrev rm:Stmt:=top 95
theorem Me:η ["numbers","order","told","place","number"] ["numbers","order"] (aB rm):=.of
theorem vW:ϛ (aB rm) "enumerate":=.of (by kernel_rfl)
theorem ME(T:Txt K I)(hq:bU (ψ P w)):Ok P w K I base "_law_put" rm ["numbers","order"] 1 (Cw T):=λ_ _ D=>by
 refine D.F.ϓ Me (by walk_at "v") λχ A u s H vs Q E hr h=>?_;obtain⟨a,b,d,os,rfl,B,hb,L,ac,k⟩:=h;refine⟨_,(aI (Μ 2 (bi pY (fG (aa aQ au)) (pcb jF T.len (aa (ζ 0) au)))) (aI (fV PassesOwn.never rfl (yR true vW.g T.enumerate (ζ 0)) (nM (n:=2) rfl (dj (ϫ 3) (dj (ϫ 4) jH))) (aM (rc (ζ 4) (rB (ζ 2) (Ι cf (ζ 1) (ζ 3)) jP)))) (aM (bM (ζ 2))))),?_⟩;walk_at "s";refine gJ λN1 h1=>?_;walk_at "";refine⟨by decide,λr m=>⟨_,.inl (ν.of (δ.new _ m _ _ B)),?_⟩⟩;have R:=δ.new (HO.lst [V.int 0]) m;have S:upd H r (HO.lst [V.int 0]) r=some (.lst [V.int 0]):=az;generalize upd H r (HO.lst [V.int 0])=Z at R S ⊢;refine⟨r,(d.length:Int),[V.int 0],rfl,rfl,S,by lia,by lia,dL (by simp;lia),λf p=>h1 _ _ (gJ λN2 h2=>?_)⟩;rw[Bs,cu];have J:=R.trans (δ.new (HO.lst (List.replicate d.length (V.int 0))) p);have X:upd Z f (HO.lst (List.replicate d.length (V.int 0))) f=some (.lst (List.replicate d.length (V.int 0))):=az;have q:=R.free p;generalize upd Z f (HO.lst (List.replicate d.length (V.int 0)))=H1 at J X ⊢;walk_at "";refine⟨⟨_,ν.of (J _ _ B)⟩,?_⟩;have ol:=L.len;refine HS (K:=K) (c:=true) (xs:=d) (λi t e=>δ H e/\E3 λ(l:List V)(C M:Option V)=>e f=some (.lst l)/\l.length=d.length/\(∀(j:Nat)(x:V),j<i->d[j]?=some x->l[(os.getD j 0).toNat]?=some x)/\t=[some (V.ref a),some (V.ref b),some (V.ref f),C,M]) ⟨J,_,_,_,X,cD ..,λj x Y=>absurd Y (by lia),rfl⟩ (λi t e y=>ν.of (y.1 _ _ B)) ?_ ?_
 .rintro i x t e q' N hN o ⟨s2,l,C,M,e2,zl,hz,rfl⟩ nq;have W:=(aw.mp o).1;have G:=s2.trans (δ.new (HO.tup [V.int (i:Int),x]) nq);have U:=δ.new (HO.tup [V.int (i:Int),x]) nq _ _ e2;have v:upd e q' (HO.tup [V.int (i:Int),x]) q'=some (.tup [V.int (i:Int),x]):=az;walk_at "";refine⟨_,Κ.of v,rfl,_,_,rfl,_,_,rfl,rfl,?_⟩;generalize upd e q' (HO.tup [V.int (i:Int),x])=H3 at G U ⊢;have rg:=L.Δ _ (sD L W);refine Χ (G _ _ hb) (BV (by lia) (by lia)) ?_;rw[cu];refine sQ U rg.1 (by lia) (hN _ _ ⟨G.put q _,_,_,_,az,by rw[b8];exact zl,λj y Y O=>?_,rfl⟩);rw[List.getElem?_set];by_cases c:j=i
  .subst c;rw[aj rfl,aj (by lia)];exact o.symm.trans O
  .have jl:=(aw.mp O).1;have rj:=L.Δ _ (sD L jl);rw[ah λz=>c (AF L jl W (by lia))];exact hz j y (by lia) O
 .rintro t e ⟨s2,l,C,M,e2,zl,hz,rfl⟩;refine h2 _ _ ?_;walk_at "";exact k f l e q s2 e2 zl λi x o=>hz i x (aw.mp o).1 o
def zo(T:Txt K I):Sp:=λa H Q _=>∃(c:Int),a=[.int c]/\∀t,2<=t->t<=1000000->Q (.int t) H
abbrev rY:Stmt:=top 89
theorem Jo:η ["part"] ["part"] (aB rY):=.of
theorem IC(T:Txt K I)(j:bU (ψ P w)):Ok P w K I base "_law_toll" rY ["part"] 1 (zo T):=λ_ _ D=>by
 refine D.F.ϓ Jo (by walk_at "v") λd A a s H g Q E i h=>?_;obtain⟨c,rfl,k⟩:=h;refine⟨_,(aI (fh (lE kG (bi fW (ζ 0) aQ) aQ) (aM (bM (bi ja aQ (bi fW (bi iT (ζ 0) aQ) (bi jS (bi qf aQ aQ) aQ))))) dI) (aM (bM (bi ja aQ (bi fW (bi iT (ζ 0) aQ) aQ))))),?_⟩;walk_at "s";walk_at "";have b:(10:Int)^Int.toNat 6-1=999999:=by decide
 have e:=b5 (c/8) (show(999999:Int)≠0 by decide);have f:=bX (c/8) (show(0:Int)<999999 by decide);have m:=b5 (c/8) (show(4:Int)≠0 by decide);have l:=bX (c/8) (show(0:Int)<4 by decide);refine⟨by decide,?_⟩;by_cases z:c%8=7
 .rw[aj z];refine⟨⟨by decide,by decide⟩,⟨by decide,by decide,by decide⟩,by decide,?_⟩;rw[b];exact k _ (by lia) (by lia)
 .rw[ah z];exact⟨⟨by decide,by decide⟩,by decide,k _ (by lia) (by lia)⟩
def yt(T:Txt K I):Sp:=λf H Q _=>E4 λ(a:Addr)(e:du)(m s:Int)=>f=[.ref a,.int m,.int s]/\ν K H a (e.map V.int)/\1<=m/\m<=24/\0<=s/\s<4/\∀(l:Addr)(d:g9)(c:hT)(b:Hp),H l=none->δ H b->b l=some (.lst (d.map V.ref))->ξ b d c->Good m c->Q (.ref l) b
abbrev oV:Stmt:=top 90
theorem HR:η ["script","many","shape","roads","k","part","to","there","back"] ["script","many","shape"] (aB oV):=.of
theorem xS:ϛ (aB oV) "range":=.of (by kernel_rfl)
theorem GY(T:Txt K I)(X:bU (ψ P w))(dQ:p3 P w base T)(rQ:Cb P w K I base "_law_toll" rY ["part"] 1 (zo T)):Ok P w K I base "_law_roads" oV ["script","many","shape"] 2 (yt T):=λ_ _ D=>by
 refine D.F.ϓ HR (by walk_at "v") λχ A a7 s H vs Q E hr h=>?_;obtain⟨a,ns,m,O,rfl,ha,m1,Ο,b6,bx,k⟩:=h;refine⟨_,(aI (Μ 3 (fG au)) (aI (fV PassesOwn.never rfl (xQ xS.g T.range (aa aQ (aa (ζ 1) au))) (ϫ 4) (aI (Μ 5 (Η dQ hr X (aa (ζ 0) (aa (ζ 4) au)))) (aI (Μ 6 (qO cf (fG (aa (bi fW (ζ 5) (ζ 4)) (aa (bi jS (ζ 4) aQ) (aa aQ (aa (bi fW (ζ 5) (ζ 4)) au))))) (ζ 2) (λ_ _=>rfl))) (aI (Μ 5 (bi iT (ζ 5) (ζ 4))) (aI (Μ 7 (Η rQ hr X (aa (bi fW (ζ 5) (bi qf aQ aQ)) au))) (aI (Μ 8 (Η rQ hr X (aa (bi fW (bi iT (ζ 5) (bi qf aQ aQ)) (bi qf aQ aQ)) au))) (aI (fh (lE kG (bi fW (bi Hj (ζ 5) (bi qf aQ aQ)) aQ) aQ) (aM (Μ 8 (ζ 7))) dI) (aM (fh (lE kG (bi fW (bi Hj (ζ 5) (bi qf aQ aQ)) aQ) aQ) (aM (fD (oB PySem.F.plainAttrs_list PySem.F.slot_list_append PySem.F.type_list_append ip (ζ 3) (aa (tj (aa (ζ 6) (aa (ζ 4) (aa (ζ 7) (aa (ζ 8) au))))) au)))) (aM (fD (oB PySem.F.plainAttrs_list iC PySem.F.type_list_insert Ee (ζ 3) (aa aQ (aa (tj (aa (ζ 4) (aa (ζ 6) (aa (ζ 8) (aa (ζ 7) au))))) au)))))))))))))) (aM (bM (ζ 3))))),?_⟩;walk_at "s";walk_at "";refine⟨by decide,λlo ac=>⟨1,m,⟨rfl,rfl⟩,⟨by decide,by decide,by lia,by lia⟩,?_⟩⟩;refine qj (λi σ S=>E8 λ(Y:g9)(Z:hT)(v:List Row)(v4 o G u t:Option V)=>σ=[some (V.ref a),some (V.int m),some (V.int O),some (V.ref lo),v4,o,G,u,t]/\δ H S/\S lo=some (.lst (Y.map V.ref))/\ξ S Y Z/\Rows i v/\Put (bG m.toNat) v Z) ⟨[],[],[],_,_,_,_,_,rfl,δ.new _ ac,az,.nil,⟨rfl,λi r h=>by cases h⟩,Put.nil _⟩ ?_ ?_
 .rintro i σ S N hN hi ⟨Y,Z,v,v4,o,G,u,t,rfl,s3,hl3,ro3,R,P⟩;have k0:(1:Int)<=1+(i:Int):=by lia
  have k1:1+(i:Int)<m:=by lia
  generalize hk:(1:Int)+(i:Int)=f at k0 k1 ⊢;have bv:Y.length=Z.length:=Paired.length ro3;have rl:=R.len;have pl:=P.len;walk_at "";refine⟨a,ns,f,rfl,δ.seq s3 ha,by lia,by lia,λc c0=>?_⟩;have em:∀(x n:Int),0<n->0<=x%n/\x%n<n:=λx n h=>⟨b5 x (cH h),bX x h⟩;have hg:=em c f (by lia);have ad:Xz 10 9:=⟨by decide,by decide,by decide⟩;have e9:(10:Int)^Int.toNat 9=1000000000:=by decide
  have a2:(10:Int)^Int.toNat 18=1000000000000000000:=by decide
  have a4:(10:Int)^Int.toNat 19=10000000000000000000:=by decide
  refine⟨c,rfl,by lia,c,rfl,by lia,dL (by simp),λq1 a0=>?_⟩;have s4:=δ.new (.lst [.int (c%f),.int (f-1),.int 0,.int (c%f)]) a0;obtain⟨l,a5,u0,u1⟩:∃l:Int,gT [V.int (c%f),V.int (f-1),V.int 0,V.int (c%f)] O=some (.int l)/\0<=l/\l<f:=by
   rcases(show O=0\/O=1\/O=2\/O=3 by lia)with z|z|z|z
   .exact⟨_,by rw[z];rfl,hg.1,hg.2⟩
   .exact⟨_,by rw[z];rfl,by lia,by lia⟩
   .exact⟨_,by rw[z];rfl,by lia,by lia⟩
   .exact⟨_,by rw[z];rfl,hg.1,hg.2⟩
  refine Χ az a5 ?_;generalize upd S q1 (.lst [.int (c%f),.int (f-1),.int 0,.int (c%f)])=H4 at s4 ⊢;rw[e9,a2,a4];refine⟨c,rfl,⟨by lia,by lia⟩,ad,by decide,_,rfl,λB W U=>⟨ad,⟨by decide,by decide⟩,ad,by decide,_,rfl,λJ b0 b1=>⟨⟨by decide,by decide,by decide⟩,⟨by decide,by decide⟩,by decide,?_⟩⟩⟩;have am:=s4 _ _ hl3;have bS:=ξ.same s4 ro3;have lu:=CI (n:=m.toNat) u0 (by lia);have lk:=CI (n:=m.toNat) (show 0<=f by lia) (by lia);have ab:∀{j:Hp}{zs:List V}{q:Addr}{r':Road},δ S j->j q=some (.tup (lL r'))->upd j lo (.lst zs) q=some (.tup (lL r')):=λ{j zs q r'} L h=>by rw[aL (fS h (L _ _ hl3) (by intro z;cases z))];exact h
  have al:∀(j:Hp)(q:Addr)(e:Row)(n:Nat)(o G u t:Option V),δ S j->e.k=f->ZE e->j q=some (.tup (lL (lQ (bG m.toNat) e)))->N [some (V.ref a),some (V.int m),some (V.int O),some (V.ref lo),some (V.int f),o,G,u,t] (upd j lo (.lst ((Y.take n++q::Y.drop n).map V.ref))):=by
   intro j q e n o G u t L rk M X;refine hN _ _ ⟨_,Z.take n++lQ (bG m.toNat) e::Z.drop n,v++[e],_,_,_,_,_,rfl,(s3.trans L).put ac _,az,?_,Nh R (by lia) M,P.step e n⟩;exact Vp n (Paired.imp' (λp r h=>ab L h) (ξ.same L ro3)) (ab L X)
  have a6:∀(j:Hp)(q:Addr)(e:Row)(o G u t:Option V),δ S j->e.k=f->ZE e->j q=some (.tup (lL (lQ (bG m.toNat) e)))->iD (V.ref lo) [V.ref q] j λ_ H1=>N [some (V.ref a),some (V.int m),some (V.int O),some (V.ref lo),some (V.int f),o,G,u,t] H1:=λj q e o G u t L rk M X=>by
   refine uj (L _ _ hl3) (eW (by rw[ag];lia)) ?_;have:=al j q e Y.length o G u t L rk M X;rw[bC,dR,aE]at this;exact this
  have a8:∀(j:Hp)(q:Addr)(e:Row)(o G u t:Option V),δ S j->e.k=f->ZE e->j q=some (.tup (lL (lQ (bG m.toNat) e)))->Ze (V.ref lo) [V.int 0,V.ref q] j λ_ H1=>N [some (V.ref a),some (V.int m),some (V.int O),some (V.ref lo),some (V.int f),o,G,u,t] H1:=λj q e o G u t L rk M X=>by
   refine XA (L _ _ hl3) (bO _) (by lia) (eW (by rw[ag];lia)) ?_;have:=al j q e 0 o G u t L rk M X;rw[dY,gh,fC]at this;exact this
  have e1:∀x y:Int,lL (lQ (bG m.toNat) ⟨f,l,x,y,1,0⟩)=[V.int l,V.int f,V.int x,V.int y]:=λx y=>by
   unfold lQ;rw[aj rfl];show[V.int ((bG m.toNat).getD l.toNat 0),V.int ((bG m.toNat).getD f.toNat 0),V.int x,V.int y]=_;rw[lu,lk]
  have e2:∀x y:Int,lL (lQ (bG m.toNat) ⟨f,l,x,y,0,0⟩)=[V.int f,V.int l,V.int x,V.int y]:=λx y=>by
   unfold lQ;rw[ah (show ¬(0:Int)=1 by decide)];show[V.int ((bG m.toNat).getD f.toNat 0),V.int ((bG m.toNat).getD l.toNat 0),V.int x,V.int y]=_;rw[lu,lk]
  have ar:∀(x y w:Int),2<=x->x<=1000000->2<=y->y<=1000000->ZE ⟨f,l,x,y,w,0⟩:=λx y w a b c d=>⟨u0,u1,a,b,c,d,bO _,by show(0:Int)<f;lia⟩;have C:∀(B J:Int)(o u t:Option V),2<=B->B<=1000000->2<=J->J<=1000000->(tyV K "list" (V.ref lo) H4/\[V.int l,V.int f,V.int B,V.int J].length<=sizeLine/\∀p,H4 p=none->iD (V.ref lo) [V.ref p] (upd H4 p (.tup [V.int l,V.int f,V.int B,V.int J])) λ_ H1=>N [some (V.ref a),some (V.int m),some (V.int O),some (V.ref lo),some (V.int f),o,some (V.int l),u,t] H1)/\(tyV K "list" (V.ref lo) H4/\[V.int f,V.int l,V.int J,V.int B].length<=sizeLine/\∀p,H4 p=none->Ze (V.ref lo) [V.int 0,V.ref p] (upd H4 p (.tup [V.int f,V.int l,V.int J,V.int B])) λ_ H1=>N [some (V.ref a),some (V.int m),some (V.int O),some (V.ref lo),some (V.int f),o,some (V.int l),u,t] H1):=λB J o u t W U b0 b1=>
   ⟨⟨Z0 am,dL (by simp),λp hp=>a6 _ p ⟨f,l,B,J,1,0⟩ _ _ _ _ (s4.trans (δ.new _ hp)) rfl (ar _ _ _ W U b0 b1) (by rw[az,e1])⟩,⟨Z0 am,dL (by simp),λp hp=>a8 _ p ⟨f,l,J,B,0,0⟩ _ _ _ _ (s4.trans (δ.new _ hp)) rfl (ar _ _ _ b0 b1 W U) (by rw[az,e2])⟩⟩
  by_cases y1:c/f/1000000000000000000%3=0
  .rw[aj y1];refine⟨⟨by decide,by decide,by decide⟩,⟨by decide,by decide⟩,by decide,?_⟩;by_cases y2:c/f/10000000000000000000%2=0
   .rw[aj y2];exact(C B B _ _ _ W U W U).1
   .rw[ah y2];exact(C B B _ _ _ W U W U).2
  .rw[ah y1];refine⟨⟨by decide,by decide,by decide⟩,⟨by decide,by decide⟩,by decide,?_⟩;by_cases y2:c/f/10000000000000000000%2=0
   .rw[aj y2];exact(C B J _ _ _ W U b0 b1).1
   .rw[ah y2];exact(C B J _ _ _ W U b0 b1).2
 .rintro σ S ⟨Y,Z,v,v4,o,G,u,t,rfl,s3,hl3,ro3,R,P⟩;have g:=UR (n:=m.toNat) (by lia) (by lia) (Ii _) (by rw[show m.toNat-1=(m-1).toNat by lia];exact R) P;rw[bW (by lia)]at g;walk_at "";exact k lo Y Z S ac s3 hl3 ro3 g
def zP(T:Txt K I):Sp:=λf H Q _=>E4 λ(a:Addr)(e:du)(m b:Int)=>f=[.ref a,.int m,.int b]/\ν K H a (e.map V.int)/\e.length<=63/\1<=m/\m<=24/\1<=b/\∀(l:Addr)(d:du)(c:Hp),H l=none->δ H c->c l=some (.lst (d.map V.int))->(d.length:Int)=m->(∀x∈d,0<=x)->Q (.ref l) c
abbrev pQ:Stmt:=top 93
theorem II:η ["script","many","bound","wish","k","place"] ["script","many","bound"] (aB pQ):=.of
theorem yZ:ϛ (aB pQ) "range":=.of (by kernel_rfl)
theorem Jc(T:Txt K I)(O:bU (ψ P w))(X:p3 P w base T):Ok P w K I base "_law_wish" pQ ["script","many","bound"] 2 (zP T):=λ_ _ D=>by
 refine D.F.ϓ II (by walk_at "v") λχ A o s H vs Q E M h=>?_;obtain⟨a,W,m,b,rfl,C,hn,m0,m1,b0,k⟩:=h;refine⟨_,(aI (Μ 3 (bi pY (fG (aa aQ au)) (ζ 1))) (aI (fV PassesOwn.never rfl (xQ yZ.g T.range (aa (ζ 1) (aa (pcb jF T.len (aa (ζ 0) au)) au))) (ϫ 4) (aM (fh (lE kG (bi fW (ζ 4) aQ) aQ) (aI (Μ 5 (bi fW (Η X M O (aa (ζ 0) (aa (ζ 4) au))) (ζ 1))) (aM (rc (bi fW (bi iT (Η X M O (aa (ζ 0) (aa (ζ 4) au))) (ζ 1)) (Ι cf (fG (aa (ζ 2) (aa aQ (aa aQ au)))) (bi fW (bi iT (ζ 4) aQ) aQ))) (rB (ζ 3) (ζ 5) jP)))) dI))) (aM (bM (ζ 3))))),?_⟩;walk_at "s";walk_at "";refine⟨dL (by simp),λf n0=>?_⟩;refine⟨f,m,_,rfl,rfl,az,by lia,by lia,dL (by simp;lia),λl G=>?_⟩;rw[Bs];have S:δ H (upd H f (.lst [.int 0])):=δ.new _ n0;have v:=S.trans (δ.new (.lst (List.replicate m.toNat (V.int 0))) G);have nl:=S.free G;refine⟨_,.inl (δ.seq v C),m,_,⟨rfl,rfl⟩,⟨by lia,by lia,by lia,by rw[ag];lia⟩,?_⟩;rw[ag];have J:upd (upd H f (.lst [.int 0])) l (.lst (List.replicate m.toNat (V.int 0))) l=some (.lst ((List.replicate m.toNat (0:Int)).map V.int)):=by rw[az,iz]
 generalize upd (upd H f (.lst [.int 0])) l (.lst (List.replicate m.toNat (V.int 0)))=H1 at v J ⊢;refine qj (λi r e=>δ H e/\E3 λ(d:du)(t y:Option V)=>e l=some (.lst (d.map V.int))/\(d.length:Int)=m/\(∀x∈d,0<=x)/\r=[some (.ref a),some (.int m),some (.int b),some (.ref l),t,y]) ⟨v,_,_,_,J,by rw[cD];lia,λx Y=>by rw[(j5.mp Y).2];decide,rfl⟩ ?_ ?_
 .rintro i r e N hN hi ⟨s2,d,t,y,e2,xl,x0,rfl⟩;have n:0<=m+(i:Int):=by lia
  have u:m+(i:Int)<=1000:=by lia
  generalize m+(i:Int)=j at n u ⊢;have L:=δ.seq s2 C;walk_at "";refine⟨by decide,?_⟩;by_cases z:j%2=1
  .rw[aj z];refine⟨a,W,j,rfl,L,n,u,λc c0=>⟨c,rfl,by lia,?_⟩⟩;have U:=b5 c (show m≠0 by lia);have h2:=bX c (show 0<m by lia);generalize c%m=p at U h2 ⊢;refine⟨a,W,j,rfl,L,n,u,λB ad=>?_⟩;refine⟨B,rfl,⟨by lia,by lia⟩,dL (by simp),λq Z=>⟨⟨by decide,by decide⟩,by decide,?_⟩⟩;have R:=δ.new (.lst [V.int b,V.int 3,V.int 2]) Z;obtain⟨w,hw,w0⟩:∃w:Int,gT [V.int b,V.int 3,V.int 2] (j/2%3)=some (.int w)/\0<w:=by
    rcases(show j/2%3=0\/j/2%3=1\/j/2%3=2 by lia)with z|z|z
    .exact⟨_,by rw[z];rfl,b0⟩
    .exact⟨_,by rw[z];rfl,by decide⟩
    .exact⟨_,by rw[z];rfl,by decide⟩
   refine Χ az hw ⟨w,rfl,w0,sQ (R _ _ e2) U (by rw[ag];lia) (hN _ _ ⟨(s2.trans R).put nl _,d.set p.toNat (B/m%w),_,_,by rw[az,gB],by rw[b8];exact xl,B3 x0 (b5 _ (by lia)),rfl⟩)⟩
  .rw[ah z];exact hN _ _ ⟨s2,d,_,_,e2,xl,x0,rfl⟩
 .rintro r e ⟨s2,d,t,y,e2,xl,x0,rfl⟩;exact⟨_,rfl,k l d e nl s2 e2 xl x0⟩
def sA(T:Txt K I):Sp:=λf H Q _=>E4 λ(a b:Addr)(d e:du)=>f=[.ref a,.ref b]/\H a=some (.lst (d.map V.int))/\H b=some (.lst (e.map V.int))/\d.length<=1000/\∀l c,H l=none->δ H c->c l=some (.lst ((m8 d e).map V.int))->Q (.ref l) c
abbrev pL:Stmt:=top 46
theorem R4:η ["one","other"] ["one","other"] (aB pL):=.of
theorem HV:ϛ (aB pL) "zip":=.of (by kernel_rfl)
theorem R5(T:Txt K I)(y:bU (ψ P w)):Ok P w K I base "added" pL ["one","other"] 1 (sA T):=λ_ _ D=>by
 refine D.F.ϓ R4 (by walk_at "v") λM A r s H O Q E R h=>?_;obtain⟨a,b,xs,f,rfl,u,G,S,k⟩:=h;refine⟨_,(aM (bM (g6 rfl (vX (Nc:=["left","right"]) 2 (by decide +kernel) (by decide +kernel) rfl (by decide +kernel) rfl) (Ow true true HV.g T.zip (aa (ζ 0) (aa (ζ 1) au))) (λ_ _ _ _=>(yA K rfl (n:=2) rfl (dj (eE (i:=0) (show(["left","right"]:hO).Nodup from by decide +kernel) rfl (Or.inl rfl)) (dj (eE (i:=1) (show(["left","right"]:hO).Nodup from by decide +kernel) rfl (Or.inl rfl)) jH)))) (λ_ _ _ _=>gP) (λ_ _ _ _=>(bi ja (pv 0) (pv 1)))))),?_⟩;walk_at "s";walk_at "";refine⟨a,b,⟨rfl,rfl⟩,⟨_,ν.of u⟩,⟨_,ν.of G⟩,λp t=>?_⟩;refine Gh (K:=K) (c:=true) (d:=true) (xs:=xs.map V.int) (zs:=f.map V.int) (λi l m j=>δ H j/\j p=some (.lst l)/\l=(((xs.zip f).take i).map λq=>q.1+q.2).map V.int/\∃v w,m=[v,w]) ⟨δ.new _ t,az,rfl,_,_,rfl⟩ (λi l m j z=>⟨ν.of (z.1 _ _ u),ν.of (z.1 _ _ G)⟩) ?_ ?_
 .rintro i x z l m j q N hN hx hz' ⟨s2,e2,rfl,v,w,rfl⟩ y;rw[aG]at hx hz';obtain⟨x,C,rfl⟩:=bN.mp hx;obtain⟨z,J,rfl⟩:=bN.mp hz';have B:=δ.new (.tup [V.int x,V.int z]) y;have L:=(aw.mp C).1;walk_at "";refine⟨_,Κ.of az,rfl,_,_,rfl,_,_,rfl,rfl,?_⟩;walk_at "";refine⟨B _ _ e2,eW (by simp;lia),hN _ _ _ ⟨(s2.trans B).put t _,az,?_,_,_,rfl⟩⟩;have o:(xs.zip f)[i]?=some (x,z):=by rw[kC];exact⟨C,J⟩
  rw[bp,o,aE,aE]
  rfl
 .rintro l m j ⟨s2,e2,rfl,v,w,rfl⟩;have e:(((xs.zip f).take (min (xs.map V.int).length (f.map V.int).length)).map λq=>q.1+q.2)=m8 xs f:=by
   rw[cw (by rw[jo,ag,ag];exact aJ _)];unfold m8;rw[List.zip,List.map_zipWith]
  rw[e]at e2;exact k p j t s2 e2
def ow(p b a c:Addr):List (Str×V):=bf "idle" (.ref c) (bf "kids" (.ref a) (bf "needs" (.ref b) (bf "web" (.ref p) [])))
theorem tZ(p b a c:Addr):(ow p b a c).lookup ("web":Str)=some (.ref p):=by
 unfold ow;rw[bT,ah (by decide +kernel),bT,ah (by decide +kernel),bT,ah (by decide +kernel),bT,aj rfl]
theorem uE(p a b c:Addr):(ow p a b c).lookup ("needs":Str)=some (.ref a):=by
 unfold ow;rw[bT,ah (by decide +kernel),bT,ah (by decide +kernel),bT,aj rfl]
theorem CD(p b a c:Addr):(ow p b a c).lookup ("kids":Str)=some (.ref a):=by
 unfold ow;rw[bT,ah (by decide +kernel),bT,aj rfl]
theorem B5(p c b a:Addr):(ow p c b a).lookup ("idle":Str)=some (.ref a):=by
 unfold ow;rw[bT,aj rfl]
structure Ϗ(C O:Addr)(H:Hp)(o p t:Addr)(m:Int)(ps:g9)(rs:hT)(r:Int)(par:fc)(dep:fz)(nd:fc)(na ka ia:Addr)(kl:g9)(bs:List V)(S:Int->Prop):Prop where
 ob:∃dx,H o=some (.ins O dx (ow p na ka ia))
 web:ι C H p m t ps rs
 rt:ε m rs r par dep
 hn:H na=some (.lst (((bG m.toNat).map nd).map V.int))
 hk:H ka=some (.lst (kl.map V.ref))
 kp:Paired (λa v=>H a=some (.lst ((kd m rs r par v).map V.int))) kl (bG m.toNat)
 hi:H ia=some (.lst bs)
 done:∀c,S c->∃a,gT bs c=some (.ref a)/\H a=some (.lst ((Υ m rs r par dep nd c).map V.int))
 cl:∀u,0<=u->u<m->S u->∀c∈kd m rs r par u,S c
theorem Ϗ.same{C O:Addr}{H k:Hp}{o p t:Addr}{m:Int}{l:g9}{j:hT}{r:Int}{par:fc}{b:fz}{nd:fc}{f d g:Addr}{i:g9}{bs:List V}{S:Int->Prop}(e:δ H k)(h:Ϗ C O H o p t m l j r par b nd f d g i bs S):Ϗ C O k o p t m l j r par b nd f d g i bs S where
 ob:=let ⟨dx,q⟩:=h.ob;⟨dx,e _ _ q⟩
 web:=h.web.same e
 rt:=h.rt
 hn:=e _ _ h.hn
 hk:=e _ _ h.hk
 kp:=Paired.imp' (λq v x=>e q _ x) h.kp
 hi:=e _ _ h.hi
 done:=λc hc=>let ⟨a,h1,h2⟩:=h.done c hc;⟨a,h1,e _ _ h2⟩
 cl:=h.cl
theorem Ϗ.kids{C O:Addr}{H:Hp}{o p t:Addr}{m:Int}{s:g9}{f:hT}{r:Int}{b:fc}{c:fz}{i:fc}{j g n:Addr}{e:g9}{u:List V}{S:Int->Prop}(h:Ϗ C O H o p t m s f r b c i j g n e u S){v:Int}(d:0<=v)(l:v<m):∃a,gT (e.map V.ref) v=some (.ref a)/\H a=some (.lst ((kd m f r b v).map V.int)):=by
 obtain⟨a,k,q⟩:=HF h.kp (EC d l);exact⟨a,gn d (by rw[aG,k];rfl),q⟩
theorem Y5{m:Int}{b:hT}(g:Good m b){r:Int}{a:fc}{v:Int}:(kd m b r a v).length<=24:=by
 have c:=dM (λu=>decide (V.int u≠front r a v)) (ie m b v);have d:=dM (λq=>decide (q∈fM b v)) (bG m.toNat);rw[bR]at d;have:=g.Ο;show((ie m b v).filter λu=>decide (V.int u≠front r a v)).length<=24;unfold ie at c ⊢
 lia
def nR(T:Txt K I):Sp:=λj H Q _=>E18 λ(o p t:Addr)(m:Int)(q:g9)(d:hT)(r:Int)(a:fc)(b:fz)(f:fc)(h g k:Addr)(n:g9)(s:List V)(S:Int->Prop)(v:Int)(x:V)=>j=[.ref o,.int v,x]/\Ϗ T.Web T.Outlook H o p t m q d r a b f h g k n s S/\(0<=v/\v<m)/\(x=.ς\/∃i,x=.int i)/\(∀c∈kd m d r a v,S c)/\∀l e,H l=none->δ H e->e l=some (.lst ((ϭ m d r a (Υ m d r a b f) v x).map V.int))->Q (.ref l) e
abbrev lG:Stmt:=top 45
theorem Hb:η ["outlook","place","left_out","load","kid"] ["outlook","place","left_out"] (aB lG):=.of
abbrev p5(P w base)(T:Txt K I):=Cb P w K I base "added" pL ["one","other"] 1 (sA T)
theorem GN(T:Txt K I)(hq:bU (ψ P w))(kf:p5 P w base T):Ok P w K I base "idle_kids" lG ["outlook","place","left_out"] 2 (nR T):=λ_ _ D=>by
 refine D.F.ϓ Hb (by walk_at "v") λχ A W s H vs Q E hr h=>?_;obtain⟨o,p,t,m,ps,b,r,a,n,Z,na,ka,ia,kl,bs,S,v,x,rfl,O,G,hx,hS,k⟩:=h;have g:=O.web.go;have R:=O.rt;have Ο:=g.Ο;obtain⟨M,ob⟩:=O.ob;obtain⟨dw,wb⟩:=O.web.ob;refine⟨_,(aI (Μ 3 (bi pY (fG (aa aQ au)) (dP (dP (ζ 0) rfl) rfl))) (aI (fV PassesOwn.never rfl (jM (Ι cf (dP (ζ 0) rfl) (ζ 1))) (ϫ 4) (aM (fh (lE vE (ζ 4) (ζ 2)) (aM (Μ 3 (Η kf hr hq (aa (ζ 3) (aa (Ι cf (dP (ζ 0) rfl) (ζ 4)) au))))) dI))) (aM (bM (ζ 3))))),?_⟩;walk_at "s";walk_at "";refine⟨by decide,λL n1=>?_⟩;have q:=δ.new (.lst [V.int 0]) n1;refine⟨T.Outlook,M,_,q _ _ ob,T.f8,T.Γ,_,tZ _ _ _ _,p,rfl,?_⟩;refine⟨T.Web,dw,_,q _ _ wb,T.jA,T.ό,_,hZ _ _,?_⟩;refine⟨L,m,[V.int 0],rfl,rfl,az,by lia,by lia,dL (by simp;lia),λf n2=>?_⟩;rw[wo,<-Up];have j:=q.trans (δ.new (.lst ((zrs m).map V.int)) n2);have Y:H f=none:=q.free n2;have e2:upd (upd H L (.lst [V.int 0])) f (.lst ((zrs m).map V.int)) f=some (.lst ((zrs m).map V.int)):=az;generalize upd (upd H L (.lst [V.int 0])) f (.lst ((zrs m).map V.int))=H2 at j e2 ⊢;obtain⟨ak,X,e⟩:=O.kids G.1 G.2;refine⟨T.Outlook,M,_,j _ _ ob,T.f8,T.Ν,_,CD _ _ _ _,Χ (j _ _ O.hk) X ⟨ak,rfl,⟨_,ν.of (j _ _ e)⟩,?_⟩⟩;have kr:∀c∈kd m b r a v,0<=c/\c<m:=λc u=>((ce g R G.1 G.2).mp u).1;refine mq (K:=K) (xs:=(kd m b r a v).map V.int) (λi B d=>δ H d/\∃(l:Addr)(U:Option V),H l=none/\d l=some (.lst ((rM m ((((kd m b r a v).take i).filter λk=>decide (V.int k≠x)).map (Υ m b r a n Z))).map V.int))/\B=[some (V.ref o),some (V.int v),some x,some (V.ref l),U]) ⟨j,f,_,Y,e2,rfl⟩ (λi B d _ z=>ν.of (z.1 _ _ e)) ?_ ?_
 .rintro i y B d N BB Ϭ hN J ⟨s3,l,U,nl,el,rfl⟩;refine Ϭ _ _ ?_;rw[aG]at J;obtain⟨c,u,rfl⟩:=bN.mp J;have cm:c∈kd m b r a v:=aX u;have et:(kd m b r a v).take (i+1)=(kd m b r a v).take i++[c]:=by rw[bp,u];rfl
  walk_at "";have sc:uD (V.int c) x=true:=by
   rcases hx with rfl|⟨i,rfl⟩<;>rfl
  refine⟨sc,?_⟩;by_cases C:V.int c=x
  .rw[ah (λz=>z C)];refine hN _ _ ⟨s3,l,_,nl,?_,rfl⟩;rw[et,c9]
   simpa[C]using el
  .rw[aj C];obtain⟨ai,h1,h2⟩:=O.done c (hS c cm);refine⟨T.Outlook,M,_,s3 _ _ ob,T.f8,T.aaD,_,B5 _ _ _ _,Χ (s3 _ _ O.hi) h1 ?_⟩;have ll:(rM m ((((kd m b r a v).take i).filter λk=>decide (V.int k≠x)).map (Υ m b r a n Z))).length=m.toNat:=xi _ _ (yE m) λy J=>by
    obtain⟨k,hk,rfl⟩:=aR.mp J;have:=kr k (my (bu.mp hk).1);exact uJ g R this.1 this.2
   refine⟨l,ai,_,_,rfl,el,s3 _ _ h2,by lia,λl4 H4 n4 s4 e4=>hN _ _ ⟨s3.trans s4,l4,_,s3.free n4,?_,rfl⟩⟩;rw[et,c9,eG (by simpa using C),gH,aE,aF,eu,Mv];exact e4
 .rintro BB B d Ϭ ⟨s3,l,U,nl,el,rfl⟩;refine Ϭ _ _ ?_;rw[ag,bC]at el;walk_at "";exact k l d nl s3 el
def sG(T:Txt K I):Sp:=λb H Q _=>∃(p:Addr)(a:du),b=[.ref p]/\(ν K H p (a.map V.int)\/Κ K H p (a.map V.int))/\Q (.int a.sum) H
abbrev qE:Stmt:=top 25
theorem Px:η ["numbers"] ["numbers"] (aB qE):=.of
theorem SL(T:Txt K I)(g:bU (ψ P w)):Ok P w K I base "total" qE ["numbers"] 1 (sG T):=λ_ _ D=>by
 refine D.F.ϓ Px (by walk_at "v") λd A a s H e Q E f h=>?_;obtain⟨p,c,rfl,b,k⟩:=h;refine⟨_,(aM (bM (pcb (AQ rfl) T.sum (aa (ζ 0) au)))),?_⟩;walk_at "s";walk_at "";exact⟨c,b,k⟩
def oP(T:Txt K I):Nat->Sp
 | 0=>λ_ _ _ _=>False
 | n+1=>λi H Q _=>E18 λ(o p t:Addr)(m:Int)(q:g9)(d:hT)(r:Int)(a:fc)(b:fz)(f:fc)(h g j:Addr)(k:g9)(s:List V)(S:Int->Prop)(v y:Int)=>i=[.ref o,.int v,.int y]/\Ϗ T.Web T.Outlook H o p t m q d r a b f h g j k s S/\(0<=v/\v<m)/\m.toNat<=b v+1+n/\(∀c∈kd m d r a v,S c)/\∀l e,H l=none->δ H e->e l=some (.lst ((ϲ m d r a b f v y).map V.int))->Q (.ref l) e
def pB(T:Txt K I):Sp:=oP T 25
def Jg(T:Txt K I):Nat->Sp
 | 0=>λ_ _ _ _=>False
 | n+1=>λi H Q _=>E19 λ(o p t:Addr)(m:Int)(q:g9)(d:hT)(r:Int)(a:fc)(b:fz)(e:fc)(h g j:Addr)(k:g9)(s:List V)(S:Int->Prop)(v c y:Int)=>i=[.ref o,.int v,.int c,.int y]/\Ϗ T.Web T.Outlook H o p t m q d r a b e h g j k s S/\(0<=v/\v<m)/\c∈kd m d r a v/\m.toNat<=b c+1+n/\(∀c∈kd m d r a v,S c)/\∀l f,H l=none->δ H f->f l=some (.lst ((byK m d r a e (Υ m d r a b e) (ϲ m d r a b e) v y c).map V.int))->Q (.ref l) f
abbrev c8:Stmt:=top 47
theorem sV:η ["outlook","place","over","room","best","kid","load"] ["outlook","place","over"] (aB c8):=.of
theorem Im:NmL (aB c8) "outlook":=.of (by kernel_rfl)
theorem JE:NmL (aB c8) "place":=.of (by kernel_rfl)
theorem Ks:NmL (aB c8) "over":=.of (by kernel_rfl)
theorem Kj:NmL (aB c8) "room":=.of (by kernel_rfl)
theorem Kz:NmL (aB c8) "best":=.of (by kernel_rfl)
theorem Lk:NmL (aB c8) "kid":=.of (by kernel_rfl)
theorem Ko:NmL (aB c8) "load":=.of (by kernel_rfl)
theorem mK:ϛ (aB c8) "idle_kids":=.of (by kernel_rfl)
theorem nX:ϛ (aB c8) "load_by":=.of (by kernel_rfl)
theorem jt:ϛ (aB c8) "total":=.of (by kernel_rfl)
abbrev lh:Stmt:=top 48
theorem Lb:η ["outlook","place","kid","room","given","over"] ["outlook","place","kid","room"] (aB lh):=.of
theorem nu:ϛ (aB lh) "toll":=.of (by kernel_rfl)
theorem sM:ϛ (aB lh) "added":=.of (by kernel_rfl)
theorem nO:ϛ (aB lh) "greatest_load":=.of (by kernel_rfl)
theorem qg:ϛ (aB lh) "idle_kids":=.of (by kernel_rfl)
abbrev p6(P w base)(T:Txt K I):=Cb P w K I base "idle_kids" lG ["outlook","place","left_out"] 2 (nR T)
theorem Iy(T:Txt K I)(B:bU (ψ P w)){f:Addr}{fd:FuncData}(D:Df K I "load_by" lh ["outlook","place","kid","room"] f fd)(U:p5 P w base T)(M:p6 P w base T)(l:jb P w base T){fN:Addr}{fy:FuncData}(V:Df K I "greatest_load" c8 ["outlook","place","over"] fN fy){n N:Nat}(hN:3<=N)(fP:Ψ P w K I base (ψ P w) N fN fy ["outlook","place","over"] (oP T n)):Ψ P w K I base (ψ P w) (N+1) f fd ["outlook","place","kid","room"] (Jg T n):=by
 refine D.F.ϓ Lb (λvs H Q E h=>?_) (λχ A ac s H vs Q E x h=>?_)
 .cases n with
  | zero=>exact h.elim
  | succ n=>
  obtain⟨o,p,t,m,J,q,r,e,u,L,na,Z,ia,kl,bs,S,v,c,y,rfl,_⟩:=h
  rfl
 .cases n with
  | zero=>exact h.elim
  | succ n=>
  obtain⟨o,p,t,m,J,q,r,e,u,L,na,Z,ia,kl,bs,S,v,c,y,rfl,O,C,cm,fu,hS,k⟩:=h;have g:=O.web.go;have R:=O.rt;have Ο:=g.Ο;obtain⟨dx,ob⟩:=O.ob;obtain⟨⟨a,cn,cp⟩,_,_⟩:=fK g R C.1 C.2 cm;obtain⟨k1,i,a0,a1⟩:=yQ g R a.1 a.2 cn;obtain⟨k2,j,b0,b1⟩:=lV g R a.1 a.2 cn;have e1:Ϻ q e c=k1:=by unfold Ϻ;rw[i];rfl
  have e2:Ϡ q e c=k2:=by unfold Ϡ;rw[j];rfl
  rw[cp]at i j;refine⟨_,(aI (Μ 4 (bi jS (ζ 3) (bi lY (Ι cf (dP (ζ 0) rfl) (ζ 2)) (fF l.G (x.mono (by lia)) nu.g l.D.m l.D.F.kp l.D.b .nil (gU B) (aa (dP (ζ 0) rfl) (aa (ζ 1) (aa (ζ 2) au))) (hdb:=nu.d))))) (aI (Μ 5 (bi jS (bi lY (fF l.G (x.mono (by lia)) nu.g l.D.m l.D.F.kp l.D.b .nil (gU B) (aa (dP (ζ 0) rfl) (aa (ζ 2) (aa (ζ 1) au))) (hdb:=nu.d)) (bi ja (ζ 4) aQ)) aQ)) (aM (bM (fF U.G (x.mono (by lia)) sM.g U.D.m U.D.F.kp U.D.b .nil (gU B) (aa (fF fP (x.mono (by lia)) nO.g V.m V.F.kp V.b .nil (gU B) (aa (ζ 0) (aa (ζ 2) (aa (ζ 5) au))) (hdb:=nO.d)) (aa (fF M.G (x.mono (by lia)) qg.g M.D.m M.D.F.kp M.D.b .nil (gU B) (aa (ζ 0) (aa (ζ 1) (aa (ζ 2) au))) (hdb:=qg.d)) au)) (hdb:=sM.d)))))),?_⟩;walk_at "s";walk_at "";refine⟨T.Outlook,dx,_,ob,T.f8,T.yK,_,uE _ _ _ _,Χ O.hn (Di L a.1 a.2) ?_⟩;have W:=O.web;refine⟨T.Outlook,dx,_,ob,T.f8,T.Γ,_,tZ _ _ _ _,?_⟩;refine⟨p,t,m,J,q,v,c,rfl,W,λk' _ _ _ _ h=>?_,λz=>absurd ⟨C,a⟩ z,λ_ _ _ _ z=>by rw[i]at z;cases z⟩;rw[i]at h;cases h;refine⟨_,rfl,_,rfl,.inr ⟨by lia,by lia⟩,?_⟩;refine⟨T.Outlook,dx,_,ob,T.f8,T.Γ,_,tZ _ _ _ _,?_⟩;refine⟨p,t,m,J,q,c,v,rfl,W,λk' _ _ _ _ h=>?_,λz=>absurd ⟨a,C⟩ z,λ_ _ _ _ z=>by rw[j]at z;cases z⟩;rw[j]at h;cases h;refine⟨_,rfl,.inl ⟨by lia,by lia⟩,?_⟩;refine⟨o,p,t,m,J,q,r,e,u,L,na,Z,ia,kl,bs,S,c,_,rfl,O,a,fu,λd hd=>O.cl c a.1 a.2 (hS c cm) d hd,λl1 H1 n1 X h1=>?_⟩;refine⟨o,p,t,m,J,q,r,e,u,L,na,Z,ia,kl,bs,S,v,_,rfl,O.same X,C,.inr ⟨_,rfl⟩,hS,λl2 H2 n2 Y h2=>?_⟩;refine⟨l1,l2,_,_,rfl,Y _ _ h1,h2,by rw[Kq g R a.1 a.2];lia,λl3 H3 n3 s3 h3=>?_⟩;refine k l3 H3 (X.free (Y.free n3)) (X.trans (Y.trans s3)) ?_;unfold byK;rw[e1,e2];exact h3
abbrev q5(P w base)(T:Txt K I):=Cb P w K I base "total" qE ["numbers"] 1 (sG T)
theorem ze(T:Txt K I)(X:bU (ψ P w)){f:Addr}{fd:FuncData}(D:Df K I "greatest_load" c8 ["outlook","place","over"] f fd){rd:Addr}{p8:FuncData}(ml:Df K I "load_by" lh ["outlook","place","kid","room"] rd p8)(kf:p5 P w base T)(M:p6 P w base T)(cg:jb P w base T)(B:q5 P w base T):∀n:Nat,Ψ P w K I base (ψ P w) (2*n+4) f fd ["outlook","place","over"] (oP T n):=by
 intro n;have d8:=D
 induction n with
 | zero=>exact D.F.ϓ sV (λvs H Q E h=>h.elim) (λχ A C s H vs Q E W h=>h.elim)
 | succ n fP=>
 have NM:=Iy T X ml kf M cg d8 (by lia) fP;refine D.F.ϓ sV (by walk_at "v") λχ A C s H vs Q E W h=>?_;obtain⟨o,p,t,m,ps,e,r,a,j,u,na,ka,ia,kl,bs,S,v,y,rfl,O,x,fu,hS,k⟩:=h;have g:=O.web.go;have R:=O.rt;have Ο:=g.Ο;obtain⟨dx,ob⟩:=O.ob;refine⟨_,(aI (Μ 3 (bi ja (Ι cf (dP (ζ 0) rfl) (ζ 1)) (ζ 2))) (aI (Μ 4 (fF M.G (W.mono (by lia)) mK.g M.D.m M.D.F.kp M.D.b .nil (gU X) (aa (ζ 0) (aa (ζ 1) (aa vo au))) (hdb:=mK.d))) (aI (yL (ζ 4) (ζ 1) vU (ζ 3) uS jP) (aI (fV PassesOwn.never rfl (jM (Ι cf (dP (ζ 0) rfl) (ζ 1))) (ϫ 5) (aI (Μ 6 (fF NM (W.mono (by lia)) nX.g ml.m ml.F.kp ml.b .nil (gU X) (aa (ζ 0) (aa (ζ 1) (aa (ζ 5) (aa (ζ 3) au)))) (hdb:=nX.d))) (aM (fh (lE FA (fF B.G (W.mono (by lia)) jt.g B.D.m B.D.F.kp B.D.b .nil (gU X) (aa (ζ 6) au) (hdb:=jt.d)) (fF B.G (W.mono (by lia)) jt.g B.D.m B.D.F.kp B.D.b .nil (gU X) (aa (ζ 4) au) (hdb:=jt.d))) (aM (Μ 4 (ζ 6))) dI)))) (aM (bM (ζ 4))))))),?_⟩;walk_at "s";walk_at "";refine⟨T.Outlook,dx,_,ob,T.f8,T.yK,_,uE _ _ _ _,Χ O.hn (Di u x.1 x.2) ⟨_,rfl,?_⟩⟩;refine⟨o,p,t,m,ps,e,r,a,j,u,na,ka,ia,kl,bs,S,v,_,rfl,O,x,.inl rfl,hS,λY H1 n1 s1 h1=>?_⟩;have bS:(ϭ m e r a (Υ m e r a j u) v V.ς).length=m.toNat:=uN λk hk=>by
  have w:=fK g R x.1 x.2 hk;exact uJ g R w.1.1.1 w.1.1.2
 refine Χ h1 (BV x.1 (by lia)) ⟨_,rfl,sQ h1 x.1 (by rw[ag];lia) ?_⟩;have U:=s1.put n1 (.lst (((ϭ m e r a (Υ m e r a j u) v V.ς).map V.int).set v.toNat (V.int ((ϭ m e r a (Υ m e r a j u) v V.ς).getD v.toNat 0+(u v+y)))));have h2:upd H1 Y (.lst (((ϭ m e r a (Υ m e r a j u) v V.ς).map V.int).set v.toNat (V.int ((ϭ m e r a (Υ m e r a j u) v V.ς).getD v.toNat 0+(u v+y))))) Y=some (.lst ((oO (ϭ m e r a (Υ m e r a j u) v V.ς) v (u v+y)).map V.int)):=by
  rw[az];unfold oO;rw[gB]
 generalize upd H1 Y (.lst (((ϭ m e r a (Υ m e r a j u) v V.ς).map V.int).set v.toNat (V.int ((ϭ m e r a (Υ m e r a j u) v V.ς).getD v.toNat 0+(u v+y)))))=H2 at U h2 ⊢;obtain⟨ak,ae,L⟩:=O.kids x.1 x.2;refine⟨T.Outlook,dx,_,U _ _ ob,T.f8,T.Ν,_,CD _ _ _ _,Χ (U _ _ O.hk) ae ⟨ak,rfl,⟨_,ν.of (U _ _ L)⟩,?_⟩⟩;refine mq (K:=K) (xs:=(kd m e r a v).map V.int) (λi σ J=>δ H J/\E3 λ(l:Addr)(v5 v6:Option V)=>H l=none/\J l=some (.lst (((((kd m e r a v).take i).map (byK m e r a u (Υ m e r a j u) (ϲ m e r a j u) v (u v+y))).foldl mX (oO (ϭ m e r a (Υ m e r a j u) v .ς) v (u v+y))).map V.int))/\σ=[some (V.ref o),some (V.int v),some (V.int y),some (V.int (u v+y)),some (V.ref l),v5,v6]) ⟨U,Y,_,_,n1,h2,rfl⟩ (λi σ J _ z=>ν.of (z.1 _ _ L)) ?_ ?_
 .rintro i y' σ J N BB Ϭ hN hy ⟨s3,l,v5,v6,nl,el,rfl⟩;refine Ϭ _ _ ?_;rw[aG]at hy;obtain⟨c,hc,rfl⟩:=bN.mp hy;have cm:c∈kd m e r a v:=aX hc;have et:(kd m e r a v).take (i+1)=(kd m e r a v).take i++[c]:=by rw[bp,hc];rfl
  have w:=fK g R x.1 x.2 cm;obtain⟨n',rfl⟩:∃n',n=n'+1:=⟨n-1,by lia⟩;walk_at "";refine⟨o,p,t,m,ps,e,r,a,j,u,na,ka,ia,kl,bs,S,v,c,_,rfl,O.same s3,x,cm,by lia,hS,λl4 H4 n4 Z h4=>?_⟩;refine⟨l4,_,rfl,.inl (ν.of h4),l,_,rfl,.inl (ν.of (Z _ _ el)),?_⟩;refine⟨_,rfl,_,rfl,?_⟩;have ef:(((kd m e r a v).take (i+1)).map (byK m e r a u (Υ m e r a j u) (ϲ m e r a j u) v (u v+y))).foldl mX (oO (ϭ m e r a (Υ m e r a j u) v .ς) v (u v+y))=mX ((((kd m e r a v).take i).map (byK m e r a u (Υ m e r a j u) (ϲ m e r a j u) v (u v+y))).foldl mX (oO (ϭ m e r a (Υ m e r a j u) v .ς) v (u v+y))) (byK m e r a u (Υ m e r a j u) (ϲ m e r a j u) v (u v+y) c):=by
   rw[et,aE,List.foldl_append]
   rfl
  split
  .rename_i q
   refine hN _ _ ⟨s3.trans Z,l4,_,_,s3.free n4,?_,rfl⟩;rw[ef,Hy q];exact h4
  .rename_i q
   refine hN _ _ ⟨s3.trans Z,l,_,_,nl,?_,rfl⟩;rw[ef,GG q];exact Z _ _ el
 .rintro BB σ J Ϭ ⟨s3,l,v5,v6,nl,el,rfl⟩;refine Ϭ _ _ ?_;rw[ag,bC]at el;walk_at "";refine k l J nl s3 ?_;rw[tG g R x.1 x.2];exact el
theorem Aw(T:Txt K I)(j:bU (ψ P w)){f:Addr}{a:FuncData}(D:Df K I "greatest_load" c8 ["outlook","place","over"] f a){c:Addr}{g:FuncData}(b:Df K I "load_by" lh ["outlook","place","kid","room"] c g)(i:p5 P w base T)(d:p6 P w base T)(h:jb P w base T)(e:q5 P w base T):Ψ P w K I base (ψ P w) 54 f a ["outlook","place","over"] (pB T):=ze T j D b i d h e 25
def xB(T:Txt K I):Sp:=λi H Q _=>E17 λ(o p t:Addr)(m:Int)(n:g9)(d:hT)(r:Int)(a:fc)(b:fz)(f:fc)(h g j:Addr)(k:g9)(q:List V)(S:Int->Prop)(v:Int)=>i=[.ref o,.int v,.int (a v)]/\Ϗ T.Web T.Outlook H o p t m n d r a b f h g j k q S/\(0<=v/\v<m)/\v≠r/\(∀c∈kd m d r a v,S c)/\∀l e,H l=none->δ H e->e l=some (.lst ((Υ m d r a b f v).map V.int))->Q (.ref l) e
abbrev qR:Stmt:=top 44
theorem F9:η ["outlook","place","front"] ["outlook","place","front"] (aB qR):=.of
theorem FX(T:Txt K I)(n:bU (ψ P w)){N:Addr}{y:FuncData}(V:Df K I "greatest_load" c8 ["outlook","place","over"] N y)(X:Ψ P w K I base (ψ P w) 54 N y ["outlook","place","over"] (pB T))(eK:p6 P w base T)(cg:jb P w base T):Ok P w K I base "idle_load" qR ["outlook","place","front"] 55 (xB T):=λ_ _ D=>by
 refine D.F.ϓ F9 (by walk_at "v") λχ A j s H vs Q E l h=>?_;obtain⟨o,p,t,m,q,i,r,b,e,f,B,x,L,M,U,S,v,rfl,O,a,J,G,k⟩:=h;have g:=O.web.go;have R:=O.rt;have Ο:=g.Ο;have W:=O.web;obtain⟨C,ob⟩:=O.ob;obtain⟨Y,d,b0,b1⟩:=lV g R a.1 a.2 J;have Z:Ϡ i b v=Y:=by unfold Ϡ;rw[d];rfl
 have u:=R.up v a.1 a.2 J;rw[vS g R a.1 a.2]at k;refine⟨_,(aI (fh (lE FA (Ι cf (dP (ζ 0) rfl) (ζ 1)) aQ) (aM (bM (Η eK l n (aa (ζ 0) (aa (ζ 1) (aa vo au)))))) dI) (aM (bM (pcq V X l n (aa (ζ 0) (aa (ζ 1) (aa (bi jS (Η cg l n (aa (dP (ζ 0) rfl) (aa (ζ 1) (aa (ζ 2) au)))) aQ) au))))))),?_⟩;walk_at "s";walk_at "";refine⟨T.Outlook,C,_,ob,T.f8,T.yK,_,uE _ _ _ _,Χ O.hn (Di f a.1 a.2) ⟨_,rfl,?_⟩⟩;by_cases c:0<f v
 .rw[aj c]at k ⊢;exact⟨o,p,t,m,q,i,r,b,e,f,B,x,L,M,U,S,v,_,rfl,O,a,.inl rfl,G,k⟩
 .rw[ah c]at k ⊢;refine⟨T.Outlook,C,_,ob,T.f8,T.Γ,_,tZ _ _ _ _,?_⟩;refine⟨p,t,m,q,i,v,b v,rfl,W,λk' _ _ _ _ h=>?_,λz=>absurd ⟨a,u.1⟩ z,λ_ _ _ _ z=>by rw[d]at z;cases z⟩;rw[d]at h;cases h;refine⟨_,rfl,?_⟩;refine⟨o,p,t,m,q,i,r,b,e,f,B,x,L,M,U,S,v,_,rfl,O,a,by show m.toNat<=e v+1+24;lia,G,?_⟩;rw[<-Z];exact k
theorem Ϗ.put{C O:Addr}{H:Hp}{o p t:Addr}{m:Int}{D:g9}{f:hT}{r:Int}{par:fc}{d:fz}{nd:fc}{i g b:Addr}{s:g9}{bs:List V}{S:Int->Prop}(h:Ϗ C O H o p t m D f r par d nd i g b s bs S)(n:i≠b)(k:g≠b)(y:∀q∈s,q≠b)(hd:∀c,S c->0<=c/\∀a,gT bs c=some (.ref a)->a≠b)(bl:bs.length=m.toNat){v:Int}(v0:0<=v)(v1:v<m)(E:∀c∈kd m f r par v,S c){l:Addr}(F:H l=some (.lst ((Υ m f r par d nd v).map V.int)))(nl:l≠b):Ϗ C O (upd H b (.lst (bs.set v.toNat (.ref l)))) o p t m D f r par d nd i g b s (bs.set v.toNat (.ref l)) (λc=>c=v\/S c) where
 ob:=by
  obtain⟨j,q⟩:=h.ob;exact⟨j,by rw[aL (fS q h.hi (by intro z;cases z))];exact q⟩
 web:=by
  have W:=h.web;refine⟨?_,?_,?_,W.go⟩
  .obtain⟨j,q⟩:=W.ob;exact⟨j,by rw[aL (fS q h.hi (by intro z;cases z))];exact q⟩
  .rw[aL (fS W.tu h.hi (by intro z;cases z))];exact W.tu
  .exact Paired.imp' (λq x e=>by rw[aL (fS e h.hi (by intro z;cases z))];exact e) W.ro
 rt:=h.rt
 hn:=by rw[aL n];exact h.hn
 hk:=by rw[aL k];exact h.hk
 kp:=u4 (λq x G e=>by rw[aL (y q G)];exact e) h.kp
 hi:=az
 done:=λc hc=>by
  by_cases e:c=v
  .subst e;refine⟨l,gn v0 ?_,by rw[aL nl];exact F⟩;rw[dG (by lia)]
  .have hc:=hc.resolve_left e;obtain⟨a,B,L⟩:=h.done c hc;obtain⟨A,J⟩:=hd c hc;refine⟨a,gn A ?_,by rw[aL (J a B)];exact L⟩;rw[cP (by lia)];exact(xc A).symm.trans B
 cl:=λu u0 u1 hu c hc=>by
  rcases hu with rfl|hu
  .exact .inr (E c hc)
  .exact .inr (h.cl u u0 u1 hu c hc)
theorem Ϗ.sub{C O:Addr}{H:Hp}{o p t:Addr}{m:Int}{n:g9}{e:hT}{r:Int}{a:fc}{b:fz}{i:fc}{j g k:Addr}{l:g9}{q:List V}{S:Int->Prop}{d:Int->Prop}(h:Ϗ C O H o p t m n e r a b i j g k l q S)(f:∀c,d c->S c)(s:∀u,0<=u->u<m->d u->∀c∈kd m e r a u,d c):Ϗ C O H o p t m n e r a b i j g k l q d:=⟨h.ob,h.web,h.rt,h.hn,h.hk,h.kp,h.hi,λc v=>h.done c (f c v),s⟩
theorem ι.kpt{C O:Addr}{H c:Hp}{o p:Addr}{m:Int}{t a:Addr}{f:g9}{d:hT}(e:Z3 o H c)(b:H o=some (.ins O a []))(h:ι C H p m t f d):ι C c p m t f d:=⟨let ⟨a,q⟩:=h.ob;⟨a,e _ _ q (fS q b (by intro z;cases z))⟩,e _ _ h.tu (fS h.tu b (by intro z;cases z)),Paired.imp' (λq x z=>e _ _ z (fS z b (by intro z;cases z))) h.ro,h.go⟩
def qv(T:Txt K I):Sp:=λn H Q _=>E11 λ(o l p a t:Addr)(c:Bool)(m:Int)(i:g9)(f:hT)(g:du)(r:Int)=>n=[.ref o,.ref p,.ref a,.int r]/\H o=some (.ins T.Outlook l [])/\ι T.Web H p m t i f/\ϑ K c H a (g.map V.int)/\b9 m g=true/\(0<=r/\r<m)/\∃d e,ε m f r d e/\∀k j q s u h,Ϗ T.Web T.Outlook h o p t m i f r d e (Α m f r d e (λv=>g.getD v.toNat 0) (Z2 f d)) k j q s u (λv=>(0<=v/\v<m)/\v≠r)->(∀b x,H b=some x->b≠o->h b=some x)->Q .ς h
abbrev fX:Stmt:=DB (top 43) 0
theorem wQ:η ["self","web","wish","r","place","front"] ["self","web","wish","r"] (aB fX):=.of
theorem qr:ϛ (aB fX) "enumerate":=.of (by kernel_rfl)
theorem wO(T:Txt K I)(U:bU (ψ P w)){f:Addr}{fd:FuncData}(F:Fun K "__init__" "Outlook.__init__" fX f fd)(kO:i6 P w base T)(uz:Cb P w K I base "idle_load" qR ["outlook","place","front"] 55 (xB T))(fA:jx P w base T)(iZ:i5 P w base T)(sj:Cb P w K I base "needs" vg ["web","wish","r"] 8 (AG T)):Ψ P w K I base (ψ P w) 56 f fd ["self","web","wish","r"] (qv T):=by
 refine F.ϓ wQ (by walk_at "v") λχ A cr s H vs Q E hr h=>?_;obtain⟨o,j,p,a,t,c,m,ps,O,xs,r,rfl,ho,W,ha,fi,rr,par,L,R,k⟩:=h;have g:=W.go;have Ο:=g.Ο;obtain⟨dw,wb⟩:=W.ob;refine⟨_,(aI (mN (ζ 0) (ϙ 1) rfl) (aI (mN (ζ 0) (Η sj hr U (aa (ϙ 1) (aa (ζ 2) (aa (ζ 3) au)))) rfl) (aI (mN (ζ 0) (g6 rfl (Z5 ["place","front","web"] 2 [1]) (yR true qr.g T.enumerate (Η kO hr U (aa (ϙ 1) (aa (ζ 3) au)))) (λ_ _ _ _=>(yA K rfl (n:=2) rfl (dj (eE (i:=0) (show(["place","front","web"]:hO).Nodup from by decide +kernel) rfl (Or.inl rfl)) (dj (eE (i:=1) (show(["place","front","web"]:hO).Nodup from by decide +kernel) rfl (Or.inl rfl)) jH)))) (λ_ _ _ _=>gP) (λ_ _ _ _=>(fF iZ.G (hr.mono (by decide)) (by rfl) iZ.D.m iZ.D.F.kp iZ.D.b .nil (gU U) (aa (pv 2) (aa (pv 0) (aa (pv 1) au)))))) rfl) (aI (mN (ζ 0) (bi pY (fG (aa vo au)) (dP (ϙ 1) rfl)) rfl) (aM (fV PassesOwn.never rfl (jM (Η fA hr U (aa (ϙ 1) (aa (ζ 3) au)))) (nM (n:=2) rfl (dj (ϫ 4) (dj (ϫ 5) jH))) (aM (rc (Η uz hr U (aa (ζ 0) (aa (ζ 4) (aa (ζ 5) au)))) (rB (dP (ζ 0) rfl) (ζ 4) jP))))))))),?_⟩;walk_at "s";walk_at "";have xl:(xs.length:Int)=m:=by
  have fi:=fi;unfold b9 at fi;rw[bD]at fi;exact bF fi.1
 refine⟨T.Outlook,j,[],ho,T.f8,T.Γ,by decide,?_⟩;have k1:Z3 o H (upd H o (.ins T.Outlook j (bf "web" (.ref p) []))):=Z3.refl.put _;have o1:upd H o (.ins T.Outlook j (bf "web" (.ref p) [])) o=some (.ins T.Outlook j (bf "web" (.ref p) [])):=az;generalize upd H o (.ins T.Outlook j (bf "web" (.ref p) []))=H1 at k1 o1 ⊢;refine⟨p,a,t,c,m,ps,O,xs,r,rfl,W.kpt k1 ho,k1.Ac ho ha,by lia,λ_ _ _=>⟨par,L,R,λB H2 n2 s2 e2=>?_⟩,λz=>(by rw[fi]at z;cases z),λ_ z=>absurd rr z⟩;have k2:=k1.then s2;refine⟨T.Outlook,j,_,s2 _ _ o1,T.f8,T.yK,by show 1<1000;decide,?_⟩;have ad:B≠o:=λz=>by rw[z,o1]at n2;cases n2
 have k3:=k2.put (.ins T.Outlook j (bf "needs" (.ref B) (bf "web" (.ref p) [])));have o3:upd H2 o (.ins T.Outlook j (bf "needs" (.ref B) (bf "web" (.ref p) []))) o=some (.ins T.Outlook j (bf "needs" (.ref B) (bf "web" (.ref p) []))):=az;have e3:upd H2 o (.ins T.Outlook j (bf "needs" (.ref B) (bf "web" (.ref p) []))) B=_:=(aL ad).trans e2;generalize upd H2 o (.ins T.Outlook j (bf "needs" (.ref B) (bf "web" (.ref p) [])))=H3 at k3 o3 e3 ⊢;have W3:=W.kpt k3 ho;refine⟨p,t,m,ps,O,r,rfl,W3,λ_ _=>⟨par,L,R,λla H4 n4 s4 e4=>⟨la,rfl,⟨_,ν.of e4⟩,λC af=>?_⟩⟩,λz=>absurd rr z⟩;have eo:=s4.free af;refine Ek (K:=K) (c:=true) (xs:=m5 m r par) (λi ys σ X=>δ H4 X/\X C=some (.lst ys)/\(∃S:List Addr,ys=S.map V.ref/\Paired (λa v=>X a=some (.lst ((kd m O r par v).map V.int))) S ((bG m.toNat).take i)/\∀q∈S,q≠C)/\∃v w,σ=[v,w,some (V.ref p)]) ⟨δ.new _ af,az,⟨[],rfl,.nil,by simp⟩,_,_,rfl⟩ (λi ys σ X z=>ν.of (z.1 _ _ e4)) ?_ ?_
 .rintro i x ys σ X q N hN hx ⟨s5,e5,⟨S,rfl,pk,hkq⟩,v,w,rfl⟩ nq;have il:i<m.toNat:=by
   have:=(aw.mp hx).1;unfold m5 at this
   rwa [ag,bR]at this
  have ex:x=Pb.front r par (i:Int):=by
   have:=wm (m:=m) (r:=r) (par:=par) (v:=(i:Int)) (by lia) (by lia);rw[show((i:Int)).toNat=i from rfl,hx]at this;exact bq this
  have qe:=s5 _ _ e4;have s6:=δ.new (.tup [V.int i,x]) nq;have cp:=s5.trans s6;have et:(bG m.toNat).take (i+1)=(bG m.toNat).take i++[(i:Int)]:=by rw[bp,fq il];rfl
  have eb:S.length<=24:=by
   have:=Paired.length pk;rw[bA]at this
   lia
  walk_at "";refine⟨_,Κ.of az,rfl,_,_,rfl,_,_,rfl,rfl,?_⟩;refine⟨p,t,m,ps,O,i,x,rfl,W3.same (s4.trans cp),by lia,by lia,?_,λl6 H6 n6 s7 e7=>?_⟩
  .rw[ex];unfold Pb.front;split
   .exact .inl rfl
   .exact .inr ⟨_,rfl⟩
  have ak:=s6.trans s7;refine⟨ak _ _ e5,eW (by rw[ag];lia),hN _ _ _ ⟨(s5.trans ak).put af _,az,⟨S++[l6],by rw[aE];rfl,?_,λq U=>?_⟩,_,_,rfl⟩⟩;have nk:l6≠C:=λz=>by rw[z,s6 _ _ e5]at n6;cases n6
  rotate_left
  .rcases bd.mp U with h|h
   .exact hkq q h
   .rw[aO.mp h];exact λz=>by rw[z,s6 _ _ e5]at n6;cases n6
  rw[et];refine sJ (by rw[aL nk,e7,ex]) (u4 (λq v U h=>?_) pk);have e:q≠C:=λz=>hkq q U z;rw[aL e];exact ak _ _ h
 .rintro ys σ X ⟨s5,e5,⟨S,rfl,pk,hkq⟩,v,w,rfl⟩;rw[show(m5 m r par).length=m.toNat by unfold m5;rw[ag,bR],cw (by rw[bR];exact aJ _)]at pk;have o5:=s5 _ _ (s4 _ _ o3);have k5:=(k3.then s4).then s5;have c5:=s5 _ _ (s4 _ _ e3);refine⟨T.Outlook,j,_,o5,T.f8,T.Ν,by show 2<1000;decide,by decide,λl1 n1=>?_⟩;have av:C≠o:=λz=>by rw[z,o5]at e5;cases e5
  have k6:=k5.put (.ins T.Outlook j (bf "kids" (.ref C) (bf "needs" (.ref B) (bf "web" (.ref p) []))));have o6:upd X o (.ins T.Outlook j (bf "kids" (.ref C) (bf "needs" (.ref B) (bf "web" (.ref p) [])))) o=some (.ins T.Outlook j (bf "kids" (.ref C) (bf "needs" (.ref B) (bf "web" (.ref p) [])))):=az;have e6:upd X o (.ins T.Outlook j (bf "kids" (.ref C) (bf "needs" (.ref B) (bf "web" (.ref p) [])))) C=_:=(aL av).trans e5;have ae:upd X o (.ins T.Outlook j (bf "kids" (.ref C) (bf "needs" (.ref B) (bf "web" (.ref p) [])))) B=_:=(aL ad).trans c5;have ai:Paired (λa v=>upd X o (.ins T.Outlook j (bf "kids" (.ref C) (bf "needs" (.ref B) (bf "web" (.ref p) [])))) a=some (.lst ((kd m O r par v).map V.int))) S (bG m.toNat):=Paired.imp' (λq v h=>by rw[aL (fS h o5 (by intro z;cases z))];exact h) pk;generalize upd X o (.ins T.Outlook j (bf "kids" (.ref C) (bf "needs" (.ref B) (bf "web" (.ref p) []))))=H6 at k6 o6 e6 ae ai n1 ⊢;have s7:=δ.new (.lst [V.ς]) n1;obtain⟨cS,cc⟩:=(W.kpt k6 ho).ob;refine⟨T.Web,cS,_,s7 _ _ cc,T.jA,T.ό,_,hZ _ _,?_⟩;refine⟨l1,m,[V.ς],rfl,rfl,az,by lia,by lia,dL (by simp;lia),λJ a3=>?_⟩;rw[wo];have s8:=s7.trans (δ.new (.lst (List.replicate m.toNat V.ς)) a3);have i8:upd (upd H6 l1 (.lst [V.ς])) J (.lst (List.replicate m.toNat V.ς)) J=some (.lst (List.replicate m.toNat V.ς)):=az;have Z:=s7.free a3;generalize upd (upd H6 l1 (.lst [V.ς])) J (.lst (List.replicate m.toNat V.ς))=H8 at s8 i8 ⊢;have o8:=s8 _ _ o6;refine⟨T.Outlook,j,_,o8,T.f8,T.aaD,by show 3<1000;decide,?_⟩;have k8:=(k6.then s8).put (.ins T.Outlook j (ow p B C J));have a6:J≠o:=λz=>by rw[z,o6]at Z;cases Z
  have O9:Ϗ T.Web T.Outlook (upd H8 o (.ins T.Outlook j (ow p B C J))) o p t m ps O r par L (Α m O r par L (λv=>xs.getD v.toNat 0) (Z2 O par)) B C J S (List.replicate m.toNat V.ς) (λ_=>False):=⟨⟨j,az⟩,W.kpt k8 ho,R,(aL ad).trans (s8 _ _ ae),(aL av).trans (s8 _ _ e6),Paired.imp' (λq v h=>by rw[aL (fS h o6 (by intro z;cases z))];exact s8 _ _ h) ai,(aL a6).trans i8,λc z=>z.elim,λu _ _ z=>z.elim⟩
  have k9:=k8;show kT T [V.ref p,V.int r] (upd H8 o (.ins T.Outlook j (ow p B C J))) _ _;generalize upd H8 o (.ins T.Outlook j (ow p B C J))=H9 at O9 k9 ⊢;have cv:H J=none:=by
   cases e:H J with
   | none=>rfl
   | some x=>rw[k6 _ _ e a6]at Z;cases Z
  have b6:B≠J:=λz=>by rw[<-z,ae]at Z;cases Z
  have c1:C≠J:=λz=>by rw[<-z,e6]at Z;cases Z
  have cz:∀q∈S,q≠J:=λq U z=>by
   obtain⟨v,hv⟩:=DK ai U;rw[z,Z]at hv;cases hv
  refine⟨p,t,m,ps,O,r,rfl,O9.web,λ_ _=>⟨par,L,R,λlq qs tl ef et a7 a8 a9 pa Or=>⟨lq,rfl,⟨_,ν.of a9⟩,?_⟩⟩,λz=>absurd rr z⟩;have cs:lq≠J:=λz=>by rw[z,O9.hi]at a7;cases a7
  refine mq (K:=K) (xs:=qs.map V.ref) (λi σ M=>Z3 o H M/\M lq=some (.lst (qs.map V.ref))/\ω M par qs tl.reverse/\E3 λ(bs:List V)(v4 v5:Option V)=>Ϗ T.Web T.Outlook M o p t m ps O r par L (Α m O r par L (λv=>xs.getD v.toNat 0) (Z2 O par)) B C J S bs (λc=>c∈tl.drop (tl.length-i))/\bs.length=m.toNat/\(∀c,c∈tl.drop (tl.length-i)->∀a,gT bs c=some (.ref a)->a≠J)/\σ=[some (V.ref o),some (V.ref p),some (V.ref a),some (V.int r),v4,v5]) ⟨k9.then a8,a9,pa,List.replicate m.toNat V.ς,_,_,(O9.same a8).sub (λc d=>?_) (λu _ _ hu=>?_),cD,λc d=>?_,rfl⟩ (λi σ M _ z=>ν.of z.2.1) ?_ ?_
  .rw[fH,dR]at d;cases d
  .rw[fH,dR]at hu;cases hu
  .rw[fH,dR]at d;cases d
  .rintro i x σ M N BB Ϭ hN hx ⟨k11,e11,adb,bs,v4,v5,O11,bl,hda,rfl⟩;refine Ϭ _ _ ?_;obtain⟨q,v,rfl,U,hv,eq⟩:=adb.get hx;obtain⟨⟨vr,vn⟩,ed,_,aS,b1⟩:=Or.cut R hv;have hS:∀c∈kd m O r par v,c∈tl.drop (tl.length-i):=λc d=>by
    have w:=(ce g R vr.1 vr.2).mp d;exact b1 c w.1.1 w.1.2 w.2.1 w.2.2
   walk_at "";refine⟨_,Κ.of eq,rfl,_,_,rfl,_,_,rfl,rfl,?_⟩;refine⟨o,p,t,m,ps,O,r,par,L,_,B,C,J,S,bs,_,v,rfl,O11,vr,vn,hS,λl d1 aT ϻ b3=>?_⟩;have Y:=O11.same ϻ;obtain⟨ca,cd⟩:=Y.ob;have nl:l≠J:=λz=>by rw[z,O11.hi]at aT;cases aT
   refine⟨T.Outlook,ca,_,cd,T.f8,T.aaD,_,B5 _ _ _ _,sQ Y.hi vr.1 (by lia) (hN _ _ ⟨?_,?_,?_,_,_,_,(Y.put b6 c1 cz (λc d=>⟨(aS c d).1.1,hda c d⟩) bl vr.1 vr.2 hS b3 nl).sub (λc d=>?_) (λu u0 u1 hu c d=>?_),?_,?_,rfl⟩)⟩
   .exact λb y hb nb=>by rw[aL (cJ hb cv)];exact ϻ _ _ (k11 b y hb nb)
   .rw[aL cs];exact ϻ _ _ e11
   .exact Paired.imp' (λa b h=>by rw[aL (fS (ϻ _ _ h) Y.hi (by intro z;cases z))];exact ϻ _ _ h) adb
   .rw[ed]at d;exact aD.mp d
   .rw[ed];rw[ed]at hu;rcases aD.mp hu with rfl|hu
    .exact aq _ (hS c d)
    .exact aq _ (O11.cl u u0 u1 hu c d)
   .rw[b8];exact bl
   .intro c d a' ha';rw[ed]at d;by_cases e:c=v
    .subst e;rw[xc vr.1,dG (by lia)]at ha';cases ha';exact nl
    .have d:=(aD.mp d).resolve_left e;have c0:=(aS c d).1.1;rw[xc c0,cP (by lia),<-xc c0]at ha';exact hda c d a' ha'
  .rintro BB σ M Ϭ ⟨k11,e11,adb,bs,v4,v5,O11,bl,hda,rfl⟩;refine Ϭ _ _ ?_;have ql:qs.length=tl.reverse.length:=Paired.length adb;rw[ag,ql,aZ,d9,gh]at O11;walk_at "";refine k B C J S bs M (O11.sub (λc d=>?_) (λu u0 u1 hu c d=>?_)) k11
   .exact(Or.all c d.1.1 d.1.2).resolve_left d.2
   .have w:=(ce g R u0 u1).mp d;exact⟨w.1,w.2.1⟩
def Cp(T:Txt K I):Sp:=λi H Q _=>E9 λ(p a t:Addr)(c:Bool)(m:Int)(h:g9)(e:hT)(g:du)(r:Int)=>i=[.ref p,.ref a,.int r]/\ι T.Web H p m t h e/\ϑ K c H a (g.map V.int)/\b9 m g=true/\(0<=r/\r<m)/\∃b d,ε m e r b d/\∀l f,H l=none->δ H f->f l=some (.tup ((ϲ m e r b d (qU m e r b d g) r (-1)).map V.int))->Q (.ref l) f
abbrev qY:Stmt:=top 42
theorem LX:η ["web","wish","r"] ["web","wish","r"] (aB qY):=.of
theorem qZ:ϛ (aB qY) "Outlook":=.of (by kernel_rfl)
theorem Ms(T:Txt K I)(G:bU (ψ P w)){q:Addr}{z:FuncData}(kU:Fun K "__init__" "Outlook.__init__" fX q z)(yi:Binds K z ["self","web","wish","r"] [])(xR:Mk K T.Outlook q)(Ϝ:Ψ P w K I base (ψ P w) 56 q z ["self","web","wish","r"] (qv T)){S:Addr}{B:FuncData}(Z:Df K I "greatest_load" c8 ["outlook","place","over"] S B)(fP:Ψ P w K I base (ψ P w) 54 S B ["outlook","place","over"] (pB T)):Ok P w K I base "failing" qY ["web","wish","r"] 58 (Cp T):=λ_ _ D=>by
 refine D.F.ϓ LX (by walk_at "v") λχ A n s H vs Q E C h=>?_;obtain⟨p,a,t,c,m,V,U,xs,r,rfl,W,ha,fi,i,f,e,R,k⟩:=h;have Ο:=W.go.Ο;refine⟨_,(aM (bM (pct mO T.tuple (aa (pcq Z fP C G (aa (yD xR Ϝ (C.mono (by decide)) qZ.g T.OO yi .nil (gU G) (aa (ζ 0) (aa (ζ 1) (aa (ζ 2) au))) (hdb:=qZ.d)) (aa (ζ 2) (aa (yP uP aQ) au)))) au)))),?_⟩;walk_at "s";walk_at "";intro o j L v ne;have u:upd H j (.own o) o=none:=by rw[aL ne.symm];exact L
 have y:δ H (upd (upd H j (.own o)) o (.ins T.Outlook j [])):=(δ.new _ v).trans (δ.new _ u);refine⟨o,j,p,a,t,c,m,V,U,xs,r,rfl,az,W.same y,δ.Ac y ha,fi,i,f,e,R,λna Y ia kl bs H1 O kp=>?_⟩;have J:δ H H1:=λb x X=>kp b x (y b x X) (cJ X L);refine⟨rfl,?_⟩;refine⟨o,p,t,m,V,U,r,f,e,_,na,Y,ia,kl,bs,_,r,_,rfl,O,i,by show m.toNat<=e r+1+24;lia,λc hc=>?_,λl H2 n2 M h2=>?_⟩
 .have w:=(ce W.go R i.1 i.2).mp hc;exact⟨w.1,w.2.1⟩
 .refine⟨l,rfl,_,.inl ⟨ν.of h2,λl3 N=>k l3 _ (J.free (M.free N)) ((J.trans M).trans (δ.new _ N)) az⟩⟩
def wu(T:Txt K I):Sp:=λg H Q E=>E8 λ(p a t:Addr)(c:Bool)(m:Int)(f:g9)(e:hT)(d:du)=>g=[.ref p,.ref a]/\ι T.Web H p m t f e/\ϑ K c H a (d.map V.int)/\d.length<=1000/\(b9 m d=true->∀b,δ H b->Q (.bl (decide (d.sum=0))) b)/\(b9 m d=false->∀b,δ H b->E (.ref T.BadWish) none b)
abbrev qW:Stmt:=top 41
theorem Mz:η ["web","wish"] ["web","wish"] (aB qW):=.of
theorem L8(T:Txt K I)(B:bU (ψ P w))(g:q5 P w base T)(n:oy P w base T):Ok P w K I base "is_idle" qW ["web","wish"] 3 (wu T):=λ_ _ D=>by
 refine D.F.Io Mz (by walk_at "v") λx A d s H y Q E f h=>?_;obtain⟨p,a,t,c,m,u,r,b,rfl,W,j,v,k,e⟩:=h;refine⟨_,(aM (bM (ss kG (Ϛ g f dq (aa (Ϛ n f dq (aa (ζ 0) (aa (ζ 1) au))) au)) aQ (oY _)))),?_⟩;walk_at "s";walk_at "";refine⟨p,a,t,c,m,u,r,b,rfl,W,j,v,λfi l i o q=>?_,e⟩;refine⟨l,_,rfl,.inr q,?_⟩;refine⟨rfl,?_⟩;rw[show decide (V.int b.sum=V.int 0)=decide (b.sum=0) by by_cases z:b.sum=0<;>simp[z]];exact k fi i o
def Ie(T:Txt K I):Sp:=λi H Q E=>E8 λ(p a t:Addr)(c:Bool)(m:Int)(h:g9)(g:hT)(b:du)=>i=[.ref p,.ref a]/\ι T.Web H p m t h g/\ϑ K c H a (b.map V.int)/\b.length<=1000/\(b9 m b=true->b.sum≠0->∃e f,ε m g (pX m b) e f/\∀l d,H l=none->δ H d->d l=some (.tup ((ϲ m g (pX m b) e f (qU m g (pX m b) e f b) (pX m b) (-1)).map V.int))->Q (.ref l) d)/\(b9 m b=false->∀d,δ H d->E (.ref T.BadWish) none d)/\(b9 m b=true->b.sum=0->∀d,δ H d->E (.ref T.NoWorst) none d)
abbrev qx:Stmt:=top 40
theorem Il:η ["web","wish","wanted_at"] ["web","wish"] (aB qx):=.of
theorem yx:NmL (aB qx) "wanted_at":=.of (by kernel_rfl)
theorem tp:ϛ (aB qx) "NoWorst":=.of (by kernel_rfl)
theorem Dm:ϛ (aB qx) "range":=.of (by kernel_rfl)
theorem Rb(T:Txt K I)(hq:bU (ψ P w))(yc:Cb P w K I base "failing" qY ["web","wish","r"] 58 (Cp T))(pI:Cb P w K I base "is_idle" qW ["web","wish"] 3 (wu T)):Ok P w K I base "fails" qx ["web","wish"] 59 (Ie T):=λ_ _ D=>by
 refine D.F.Io Il (by walk_at "v") λχ A r s H vs Q E L h=>?_;obtain⟨p,a,t,c,m,O,M,f,rfl,W,x,hz,k,e,S⟩:=h;have g:=W.go;have Ο:=g.Ο;obtain⟨U,wb⟩:=W.ob;refine⟨_,(aI (fh (pR (Ϛ pI L dq (aa (ζ 0) (aa (ϙ 1) au)))) (aM (qB T.xN rfl sg tp.g T.MW (aa uK au) (hdb:=tp.d))) dI) (aI (rP (i:=2) Il.nd rfl yx.l rfl (Z5 ["place","wish"] 1 [1]) (j9 Dm.g T.range (aa (dP (ζ 0) rfl) au)) (λ_ _ _ _=>(eE (i:=0) (show(["place","wish"]:hO).Nodup from by decide +kernel) rfl (Or.inl rfl))) (λ_ _ _ _=>(C3 (lE FA (Ι (Ue c K rfl) (pv 1) (pv 0)) aQ))) (λ_ _ _ _=>(pv 0))) (aM (bM (Ϛ yc L dq (aa (ζ 0) (aa (ϙ 1) (aa (Ι cf (ζ 2) aQ) au)))))))),?_⟩;walk_at "s";walk_at "";refine⟨p,a,t,c,m,O,M,f,rfl,W,x,hz,λfi J j=>?_,e⟩;refine⟨_,rfl,?_⟩;by_cases z:f.sum=0
 .rw[aj (by simpa using z)];exact⟨by decide,S fi z J j⟩
 .rw[ah (by simpa using z)];obtain⟨y,G,R,k⟩:=k fi z;have xl:=Lj fi;have nn:=OE fi;obtain⟨tl,C,X,x0⟩:=C4 xl nn z;refine⟨T.Web,U,_,j _ _ wb,T.jA,T.ό,_,hZ _ _,m,rfl,by lia,by lia,λpc B=>?_⟩;have am:=j.free B;refine lm (λi o u n=>δ J n/\n pc=some (.lst o)/\o=((bG i).filter λv=>decide (0<f.getD v.toNat 0)).map V.int/\∃v,u=[v,some (V.ref a)]) ⟨δ.new _ B,az,rfl,_,rfl⟩ ?_ ?_
  .rintro i o u n N hN hi ⟨s3,e3,rfl,v,rfl⟩;have ll:((bG i).filter λv=>decide (0<f.getD v.toNat 0)).length<=24:=by
    have h1:=dM (λv=>decide (0<f.getD v.toNat 0)) (bG i);rw[bR]at h1
    lia
   walk_at "";rw[dC];refine ixX (δ.Ac (j.trans s3) x) (BV (by lia) (by lia)) ⟨_,rfl,?_⟩;rw[show((i:Int)).toNat=i from rfl];by_cases q:0<f.getD i 0
   .rw[aj q];refine⟨e3,eW (by rw[ag];lia),hN _ _ _ ⟨s3.put B _,az,?_,_,rfl⟩⟩;rw[Bt,c9,eG (by simpa using q),gH,aE]
    rfl
   .rw[ah q];refine hN _ _ _ ⟨s3,e3,?_,_,rfl⟩;rw[Bt,c9,eF (by simpa using q),gH,b4]
  .rintro o u n ⟨s3,e3,rfl,v,rfl⟩;rw[C]at e3;have b:=j.trans s3;refine Χ (v:=V.int (pX m f)) e3 (gn (by decide) rfl) ?_;exact⟨p,a,t,c,m,O,M,f,_,rfl,W.same b,δ.Ac b x,fi,X,y,G,R,λl Z n4 Y h4=>k l Z (b.free n4) (b.trans Y) h4⟩
def Ex(T:Txt K I):Sp:=λi H Q E=>E8 λ(p a t:Addr)(c:Bool)(m:Int)(h:g9)(g:hT)(b:du)=>i=[.ref p,.ref a]/\ι T.Web H p m t h g/\ϑ K c H a (b.map V.int)/\b.length<=1000/\(b9 m b=true->b.sum≠0->∃e f,ε m g (pX m b) e f/\∀d,δ H d->Q (.int ((ϲ m g (pX m b) e f (qU m g (pX m b) e f b) (pX m b) (-1)).sum+1)) d)/\(b9 m b=true->b.sum=0->∀d,δ H d->Q (.int 0) d)/\(b9 m b=false->∀d,δ H d->E (.ref T.BadWish) none d)
abbrev vV:Stmt:=top 39
theorem OD:η ["web","wish"] ["web","wish"] (aB vV):=.of
theorem NZ(T:Txt K I)(O:bU (ψ P w))(C:Cb P w K I base "fails" qx ["web","wish"] 59 (Ie T))(y:Cb P w K I base "is_idle" qW ["web","wish"] 3 (wu T))(v:q5 P w base T):Ok P w K I base "always" vV ["web","wish"] 60 (Ex T):=λ_ _ D=>by
 refine D.F.Io OD (by walk_at "v") λM A f s H N Q E i h=>?_;obtain⟨p,a,t,c,m,q,o,d,rfl,W,n,r,k,e,u⟩:=h;refine⟨_,(aI (fh (pR (Ϛ y i dq (aa (ζ 0) (aa (ζ 1) au)))) (aM (bM aQ)) dI) (aM (bM (bi ja (Ϛ v i dq (aa (Ϛ C i dq (aa (ζ 0) (aa (ζ 1) au))) au)) aQ)))),?_⟩;walk_at "s";walk_at "";refine⟨p,a,t,c,m,q,o,d,rfl,W,n,r,λfi x b=>?_,u⟩;refine⟨_,rfl,?_⟩;by_cases z:d.sum=0
 .rw[aj (by simpa using z)];exact e fi z x b
 .rw[ah (by simpa using z)];obtain⟨g,j,R,k⟩:=k fi z;refine⟨p,a,t,c,m,q,o,d,rfl,W.same b,δ.Ac b n,r,λ_ _=>⟨g,j,R,λl B S L G=>?_⟩,λz=>(by rw[fi]at z;cases z),λ_ J=>absurd J z⟩;refine⟨l,_,rfl,.inr (Κ.of G),_,rfl,k B (b.trans L)⟩
def oQ(T:Txt K I):Sp:=λa H Q _=>∃(i j:Int),a=[.int i,.int j]/\Q (.int (i.gcd j:Int)) H
abbrev ku:Stmt:=top 62
theorem y8:η ["one","two","rest"] ["one","two"] (aB ku):=.of
theorem yU(T:Txt K I)(R:bU (ψ P w)):Ok P w K I base "common_divisor" ku ["one","two"] 1 (oQ T):=λ_ _ D=>by
 refine D.F.ϓ y8 (by walk_at "v") λJ A a s H M Q E O h=>?_;obtain⟨i,j,rfl,k⟩:=h;refine⟨_,(aI (tx PassesOwn.never (lE vE (ζ 1) aQ) (aI (Μ 2 (bi TQ (ζ 0) (ζ 1))) (aI (Μ 0 (ζ 1)) (aM (Μ 1 (ζ 2)))))) (aM (bM (pcb QQ T.abs (aa (ζ 0) au))))),?_⟩;walk_at "s";refine gJ λL C=>?_;refine Dt (λn o r=>r=H/\E3 λ(x y:Int)(v:Option V)=>n=y.natAbs/\x.gcd y=i.gcd j/\o=[some (V.int x),some (V.int y),v]) j.natAbs ⟨rfl,i,j,_,rfl,rfl,rfl⟩ ?_;rintro n o r N U G u b ⟨rfl,x,y,v,rfl,e,rfl⟩;refine G _ _ _ ?_;walk_at "";by_cases c:y=0
 .subst c;rw[ah (λz=>z rfl)];refine C _ _ ?_;walk_at "";rw[WN,show(x.natAbs:Int)=(i.gcd j:Int) by rw[<-e,Int.gcd_zero_right]];exact k
 .rw[aj c];refine⟨N,λB S w=>?_,c,u (x.fmod y).natAbs _ _ (NG c) ⟨rfl,y,x.fmod y,_,rfl,by rw[WT];exact e,rfl⟩⟩;obtain⟨d,lt,p,m,g,q,t,l,f⟩:=b _ _ w
  first|exact⟨d,lt,p,m,g,q,t,l,f⟩|exact⟨d,lt,p,m,g,t,l,q,f⟩
def uy(T:Txt K I):Sp:=λa H Q _=>∃(i j:Int),a=[.int i,.int j]/\j≠0/\j.natAbs<2^4000/\∀(p q:Int)(r:Addr),Frc i j p q->H r=none->Q (.ref r) (upd H r (.tup [.int p,.int q]))
abbrev qd:Stmt:=top 61
theorem Jy:η ["top","bottom","common"] ["top","bottom"] (aB qd):=.of
theorem IM(T:Txt K I)(r:bU (ψ P w))(t:Cb P w K I base "common_divisor" ku ["one","two"] 1 (oQ T)):Ok P w K I base "fraction" qd ["top","bottom"] 2 (uy T):=λ_ _ D=>by
 refine D.F.ϓ Jy (by walk_at "v") λu A e s H x Q E q h=>?_;obtain⟨i,j,rfl,l,B,k⟩:=h;refine⟨_,(aI (Μ 2 (Η t q r (aa (ζ 0) (aa (ζ 1) au)))) (aI (fh (lE Fz (ζ 1) aQ) (aM (Μ 2 (yP uP (ζ 2)))) dI) (aM (bM (tj (aa (bi Es (ζ 0) (ζ 2)) (aa (bi Es (ζ 1) (ζ 2)) au))))))),?_⟩;walk_at "s";have y:=fJ i l;have z:=lJ i l;refine gJ λv a=>?_;walk_at "";refine⟨i,j,rfl,a _ _ ?_⟩;have m:∀c:Int,c.natAbs=i.gcd j->(0<c↔0<j)->FF i c/\FF j c/\Frc i j (i.fdiv c) (j.fdiv c):=λc a b=>by
  have d:c≠0:=by lia
  have o:c.natAbs.log2<9000:=AU d (n:=4000) (by lia) (by decide);exact⟨⟨d,o⟩,⟨d,o⟩,Vu l a b⟩
 walk_at "";by_cases c:j<0
 .rw[aj c];obtain⟨a,b,g⟩:=m (-(i.gcd j:Int)) (by lia) (by lia);exact⟨a,b,dL (by simp),λp f=>k _ _ p g f⟩
 .rw[ah c];obtain⟨a,b,g⟩:=m (i.gcd j:Int) (by lia) (by lia);exact⟨a,b,dL (by simp),λp f=>k _ _ p g f⟩
def tN(T:Txt K I):Sp:=λg H Q _=>E5 λ(a:Addr)(c:Bool)(e:g9)(b:List (Int×Int))(n:Nat)=>g=[.ref a]/\AtX c H a (e.map V.ref)/\X9 K H e b/\(∀f∈b,FrB n f)/\b.length*n<=3000/\n<=1000/\b.length<=1000/\∀(p q:Int)(r:Addr)(d:Hp),Frc (tq b (0,1)).1 (tq b (0,1)).2 p q->H r=none->δ H d->d r=some (.tup [.int p,.int q])->Q (.ref r) d
abbrev pC:Stmt:=top 65
theorem xY:η ["some","bottom","part"] ["some"] (aB pC):=.of
theorem sR:NmC (aB pC) "bottom":=.of (by kernel_rfl)
theorem MY(T:Txt K I)(X:bU (ψ P w))(jk:Cb P w K I base "common_divisor" ku ["one","two"] 1 (oQ T))(oE:Cb P w K I base "fraction" qd ["top","bottom"] 2 (uy T)):Ok P w K I base "sum_up" pC ["some"] 3 (tN T):=λ_ _ D=>by
 refine D.F.ϓ xY (by walk_at "v") λχ A M s H vs Q E W h=>?_;obtain⟨a,c,u,fs,n,rfl,ha,J,Z,fl,n1,f1,k⟩:=h;refine⟨_,(aI (pV (i:=1) xY.nd rfl (Or.inr sR.l) aQ) (aI (fV PassesOwn.never rfl (u8 c (ζ 0)) (ϫ 2) (aM (pV (i:=1) xY.nd rfl (Or.inr sR.l) (bi oz (ϙ 1) (bi F1 (Ι jT (ζ 2) aQ) (Η jk W X (aa (ϙ 1) (aa (Ι jT (ζ 2) aQ) au)))))))) (aM (bM (Η oE W X (aa (pcb (AQ rfl) T.sum (aa (g6 rfl (Z5 ["part","bottom"] 1 [1]) (u8 c (ζ 0)) (λ_ _ _ _=>(eE (i:=0) (show(["part","bottom"]:hO).Nodup from by decide +kernel) rfl (Or.inl rfl))) (λ_ _ _ _=>gP) (λ_ _ _ _=>(bi oz (Ι (pH K rfl) (pv 0) aQ) (bi F1 (pv 1) (Ι (pH K rfl) (pv 0) aQ))))) au)) (aa (ϙ 1) au))))))),?_⟩;walk_at "s";have sq:∀{b:Hp},δ H b->ϑ K c b a (u.map V.ref):=λ{b} s2=>AtX.sq (K:=K) (show AtX c b a (u.map V.ref)from s2 _ _ ha);have ql:u.length=fs.length:=Paired.length J;refine gJ λN1 h1=>?_;walk_at "";refine h1 _ _ (gJ λN2 h2=>?_);walk_at "";refine⟨⟨_,sq (δ.refl _)⟩,?_⟩;refine S0 (K:=K) (c:=c) (xs:=u.map V.ref) (λi e b=>b=H/\∃(B:Int)(v:Option V),0<B/\B.natAbs<=2^(i*n)/\(∀f∈fs.take i,f.2 ∣ B)/\e=[some (V.ref a),some (V.int B),v]) ⟨rfl,1,_,by decide,by simp,λf J=>by simp at J,rfl⟩ (λi e b _ z=>by rw[z.1];exact sq (δ.refl _)) ?_ ?_
 .rintro i x e b N hN hx ⟨rfl,B,v,B0,Bb,Bd,rfl⟩;rw[aG]at hx;obtain⟨q,U,rfl⟩:=bN.mp hx;obtain⟨f,j,eq⟩:=HH J U;have O:=aX j;obtain⟨R,C,G⟩:=Z f O;have il:=(aw.mp j).1;have gp:=fJ B (show f.2≠0 by lia);have gl:=lJ B (show f.2≠0 by lia);obtain⟨l0,l1⟩:=Qv B0 R;have gd:(0:Int)<=f.2/(B.gcd f.2:Int):=fL (by lia) (by lia);have L:f.2/(B.gcd f.2:Int)<=f.2:=lA _ (by lia);have qb:(f.2/(B.gcd f.2:Int)).natAbs<=2^n:=by lia
  have aS:i*n<=fs.length*n:=mi _ (by lia);have d:B.natAbs<2^4000:=bK Bb (fU (by decide) (by lia));walk_at "";refine xO eq rfl (xO eq rfl ⟨_,_,rfl,_,rfl,_,rfl,⟨by lia,AU (n:=n) (by lia) (by lia) (by lia)⟩,BH d (bK qb (fU (by decide) (by lia))),hN _ _ ⟨rfl,_,_,l0,?_,?_,rfl⟩⟩)
  .rw[iK,m7,nW];exact dH Bb qb
  .intro g hg;rw[bp,j]at hg;rcases bd.mp hg with hg|hg
   .exact Int.dvd_mul_of_dvd_left (Bd g hg)
   .rw[show g=f by simpa using hg];exact l1
 .rintro e b ⟨rfl,B,v,B0,Bb,Bd,rfl⟩;refine h2 _ _ ?_;rw[ag,ql]at Bb Bd;rw[bC]at Bd;have d:B.natAbs<2^4000:=bK Bb (fU (by decide) (by lia));walk_at "";refine⟨⟨_,sq (δ.refl _)⟩,λp Y=>?_⟩;refine nS (K:=K) (c:=c) (xs:=u.map V.ref) (λi m e t=>δ b t/\t p=some (.lst m)/\m=((fs.take i).map λf=>f.1*(B/f.2)).map V.int/\∃v,e=[v,some (V.int B)]) ⟨δ.new _ Y,az,rfl,_,rfl⟩ (λi m e t _ z=>sq z.1) ?_ ?_
  .rintro i x m e t N hN hx ⟨s3,e3,rfl,v,rfl⟩;rw[aG]at hx;obtain⟨q,U,rfl⟩:=bN.mp hx;obtain⟨f,j,eq⟩:=HH J U;have O:=aX j;obtain⟨R,C,G⟩:=Z f O;have il:=(aw.mp j).1;have L:B/f.2<=B:=lA _ (by lia);have am:0<=B/f.2:=fL (by lia) (by lia);have o:=δ.tup s3 eq;have Bq:(B/f.2).natAbs<2^4000:=bK (show(B/f.2).natAbs<=B.natAbs by lia) d;walk_at "";refine xO o rfl (xO o rfl ⟨_,rfl,⟨R,AU (n:=n) (by lia) G (by lia)⟩,_,rfl,BH (oF C (by lia)) Bq,e3,eW (by rw[ag,ag,bA];lia),hN _ _ _ ⟨s3.put Y _,az,?_,_,rfl⟩⟩);rw[bp,j,aE,aE]
   rfl
  .rintro m e t ⟨s3,e3,rfl,v,rfl⟩;rw[ag,ql,bC]at e3;refine⟨p,rfl,_,.inl (ν.of e3),_,_,rfl,by lia,d,λx y r fr nr=>k x y r _ ?_ (s3.free nr) (s3.trans (δ.new _ nr)) az⟩;have ms:=GC (B:=B) (fs:=fs) (S:=0) (tb:=(0,1)) Bd (by rw[ff,ff]);rw[dC]at ms;exact Ww fr ms (by lia)
def JY(T:Txt K I):Sp:=λd H Q _=>E5 λ(a b:Addr)(f g:Int×Int)(n:Nat)=>d=[.ref a,.ref b]/\Κ K H a [.int f.1,.int f.2]/\Κ K H b [.int g.1,.int g.2]/\FrB n f/\FrB n g/\n<=1000/\∀(p q:Int)(r:Addr)(c:Hp),Frc (f.1*g.2+g.1*f.2) (f.2*g.2) p q->H r=none->δ H c->c r=some (.tup [.int p,.int q])->Q (.ref r) c
abbrev Cy:Stmt:=top 63
theorem UG:η ["one","two"] ["one","two"] (aB Cy):=.of
abbrev sX(P w base)(T:Txt K I):=Cb P w K I base "sum_up" pC ["some"] 3 (tN T)
theorem UA(T:Txt K I)(z:bU (ψ P w))(t:sX P w base T):Ok P w K I base "plus" Cy ["one","two"] 4 (JY T):=λ_ _ D=>by
 refine D.F.ϓ UG (by walk_at "v") λM A d s H N Q E u h=>?_;obtain⟨a,b,f,g,n,rfl,m,G,B,y,o,k⟩:=h;refine⟨_,(aM (bM (Η t u z (aa (fG (aa (ζ 0) (aa (ζ 1) au))) au)))),?_⟩;walk_at "s";walk_at "";refine⟨dL (by simp),λl nl=>?_⟩;have c:=δ.new (.lst [V.ref a,V.ref b]) nl;refine⟨l,true,[a,b],[f,g],n,rfl,az,.cons (δ.tup c m) (.cons (δ.tup c G) .nil),λx i=>?_,by simp;lia,o,by simp,λp q r C j J v e=>k p q r C ?_ (c.free J) (c.trans v) e⟩
 .simp only[aD,df,or_false]at i;rcases i with rfl|rfl
  .exact B
  .exact y
 .have e1:(tq [f,g] (0,1)).1=f.1*g.2+g.1*f.2:=by
   show(0*f.2+f.1*1)*g.2+g.1*(1*f.2)=_;rw[ff,dC,eU,gA]
  have L:(tq [f,g] (0,1)).2=f.2*g.2:=by
   show 1*f.2*g.2=_;rw[gA]
  rw[e1,L]at j;exact j
def Aj(T:Txt K I):Sp:=λd H Q _=>E5 λ(a b:Addr)(f g:Int×Int)(n:Nat)=>d=[.ref a,.ref b]/\Κ K H a [.int f.1,.int f.2]/\Κ K H b [.int g.1,.int g.2]/\FrB n f/\FrB n g/\n<=1000/\∀(p q:Int)(r:Addr)(c:Hp),Frc (f.1*g.2-g.1*f.2) (f.2*g.2) p q->H r=none->δ H c->c r=some (.tup [.int p,.int q])->Q (.ref r) c
abbrev u5:Stmt:=top 64
theorem QO:η ["one","two"] ["one","two"] (aB u5):=.of
theorem SG(T:Txt K I)(x:bU (ψ P w))(y:Cb P w K I base "plus" Cy ["one","two"] 4 (JY T)):Ok P w K I base "minus" u5 ["one","two"] 5 (Aj T):=λ_ _ D=>by
 refine D.F.ϓ QO (by walk_at "v") λG A c s H J Q E u h=>?_;obtain⟨a,b,f,g,n,rfl,o,j,z,d,t,k⟩:=h;refine⟨_,(aM (bM (Η y u x (aa (ζ 0) (aa (tj (aa (yP uP (Ι jT (ζ 1) aQ)) (aa (Ι jT (ζ 1) aQ) au))) au))))),?_⟩;walk_at "s";walk_at "";refine xO j rfl ?_;refine⟨_,rfl,xO j rfl ⟨dL (by simp),λl nl=>?_⟩⟩;have i:=δ.new (.tup [V.int (-g.1),V.int g.2]) nl;refine⟨a,l,f,(-g.1,g.2),n,rfl,δ.tup i o,Κ.of az,z,⟨d.1,by show(-g.1).natAbs<_;rw[mB];exact d.2.1,d.2.2⟩,t,λp q r B m C v e=>k p q r B ?_ (i.free C) (i.trans v) e⟩;rw[show f.1*g.2-g.1*f.2=f.1*g.2 + -g.1*f.2 by rw[gY];lia];exact m
def sS(T:Txt K I):Sp:=λa H Q _=>∃(i j:Int),a=[.int i,.int j]/\(2<=i/\i<=1000000)/\(2<=j/\j<=1000000)/\∀(p q:Int)(r:Addr),Frc (i-1) (i*j-1) p q->H r=none->Q (.ref r) (upd H r (.tup [.int p,.int q]))
abbrev oU:Stmt:=top 72
theorem Hr:η ["one","other"] ["one","other"] (aB oU):=.of
theorem FQ(T:Txt K I)(g:bU (ψ P w))(d:Cb P w K I base "fraction" qd ["top","bottom"] 2 (uy T)):Ok P w K I base "road_part" oU ["one","other"] 3 (sS T):=λ_ _ D=>by
 refine D.F.ϓ Hr (by walk_at "v") λo A a s H q Q E f h=>?_;obtain⟨i,j,rfl,l,e,k⟩:=h;refine⟨_,(aM (bM (Η d f g (aa (bi jS (ζ 0) aQ) (aa (bi jS (bi oz (ζ 0) (ζ 1)) aQ) au))))),?_⟩;walk_at "s";have c:i.natAbs<2^20:=by lia
 have b:j.natAbs<2^20:=by lia
 have p:4<=i*j:=by have:=ft l.1 e.1 (by decide) (by lia);lia
 have r:(i*j).natAbs<2^40:=qJ (m:=20) (n:=20) c b;walk_at "";exact⟨BH (oF c (by decide)) (oF b (by decide)),i-1,i*j-1,rfl,by lia,oF (m:=40) (by lia) (by decide),k⟩
def wx(T:Txt K I):Sp:=λd H Q _=>E6 λ(p t:Addr)(m:Int)(c:g9)(a:hT)(u:Int)=>d=[.ref p,.int u]/\ι T.Web H p m t c a/\0<=u/\u<m/\∀(f:Int×Int)(r:Addr)(b:Hp),FrB 990 f->f.1.gcd f.2=1->(f.1:Rat)/f.2=shr m a (evp a) u->H r=none->δ H b->b r=some (.tup [.int f.1,.int f.2])->Q (.ref r) b
abbrev qo:Stmt:=top 69
theorem E1:η ["web","place","near"] ["web","place"] (aB qo):=.of
theorem Ft(T:Txt K I)(R:bU (ψ P w))(sy:Cb P w K I base "minus" u5 ["one","two"] 5 (Aj T))(iL:iH P w base T)(X:Cb P w K I base "road_part" oU ["one","other"] 3 (sS T))(mF:sX P w base T)(r:jb P w base T):Ok P w K I base "even_share" qo ["web","place"] 6 (wx T):=λ_ _ D=>by
 refine D.F.ϓ E1 (by walk_at "v") λχ A an s H vs Q E O h=>?_;obtain⟨p,t,m,ps,d,u,rfl,W,u0,u1,k⟩:=h;have g:=W.go;have Ο:=g.Ο;refine⟨_,(aI (Μ 2 (Η iL O R (aa (ϙ 0) (aa (ϙ 1) au)))) (aM (bM (Η sy O R (aa (pgl T.TB) (aa (Η mF O R (aa (g6 rfl (Z5 ["other","web","place"] 1 [0,1]) (u8 true (ζ 2)) (λ_ _ _ _=>(eE (i:=0) (show(["other","web","place"]:hO).Nodup from by decide +kernel) rfl (Or.inl rfl))) (λ_ _ _ _=>gP) (λ_ _ _ _=>(fF X.G (O.mono (by decide)) (by rfl) X.D.m X.D.F.kp X.D.b .nil (gU R) (aa (fF r.G (O.mono (by decide)) (by rfl) r.D.m r.D.F.kp r.D.b .nil (gU R) (aa (pv 1) (aa (pv 2) (aa (pv 0) au)))) (aa (fF r.G (O.mono (by decide)) (by rfl) r.D.m r.D.F.kp r.D.b .nil (gU R) (aa (pv 1) (aa (pv 0) (aa (pv 2) au)))) au))))) au)) au)))))),?_⟩;walk_at "s";refine gJ λN1 h1=>?_;walk_at "";refine⟨p,t,m,ps,d,u,rfl,W,λl H1 _ _ nl s1 el=>h1 _ _ ?_,λz=>absurd ⟨u0,u1⟩ z⟩;have W1:=W.same s1;have cp:(ie m d u).length<=24:=by
  have:=dM (λq=>decide (q∈fM d u)) (bG m.toNat);rw[bR]at this;have e:(ie m d u).length=((bG m.toNat).filter λq=>decide (q∈fM d u)).length:=rfl
  lia
 walk_at "";refine⟨⟨_,ν.of el⟩,λpc Zm=>?_⟩;refine nS (K:=K) (c:=true) (xs:=(ie m d u).map V.int) (λi U Z S=>δ H1 S/\S pc=some (.lst U)/\E3 λ(C:g9)(fs:List (Int×Int))(v:Option V)=>U=C.map V.ref/\C.length=i/\ϕ S C fs/\(∀f∈fs,FrB 40 f)/\oN fs (λf=>(f.1:Rat)/f.2)=oN ((ie m d u).take i) (evp d u)/\Z=[v,some (V.ref p),some (V.int u)]) ⟨δ.new _ Zm,az,[],[],_,rfl,rfl,.nil,(λf J=>nomatch J),rfl,rfl⟩ (λi U Z S _ z=>ν.of (z.1 _ _ el)) ?_ ?_
 .rintro i x U Z S N hN hx ⟨s3,e3,C,fs,v,rfl,qi,J,fb,su,rfl⟩;rw[aG]at hx;obtain⟨o,go,rfl⟩:=bN.mp hx;have ad:=(ij g).mp (aX go);obtain⟨_,or,_⟩:=g.ZG ad;obtain⟨b,eb,b2,b6⟩:=lD g ad;obtain⟨a,ea,Y,a6⟩:=lD g ad.symm;have il:=(aw.mp go).1;have W3:=W1.same s3;walk_at "";refine⟨p,t,m,ps,d,u,o,rfl,W3,λb' _ _ _ _ e=>?_,(λz=>absurd ⟨⟨u0,u1⟩,or⟩ z),(λ_ _ _ _ z=>by rw[eb]at z;cases z)⟩;rw[eb]at e;cases e;refine⟨p,t,m,ps,d,o,u,rfl,W3,λa' _ _ _ _ e=>?_,(λz=>absurd ⟨or,⟨u0,u1⟩⟩ z),(λ_ _ _ _ z=>by rw[ea]at z;cases z)⟩;rw[ea]at e;cases e;refine⟨b,a,rfl,⟨b2,b6⟩,⟨Y,a6⟩,λx y rr M nr=>?_⟩;have B:=δ.new (.tup [V.int x,V.int y]) nr;have cn:4<=b*a:=by have:=ft b2 Y (by decide) (by lia);lia
  have ca:(b*a).natAbs<2^40:=qJ (m:=20) (n:=20) (by lia) (by lia);obtain⟨l1,l2⟩:=uO M (by lia);have aT:pc≠rr:=λz=>by rw[z]at e3;rw[e3]at nr;cases nr
  refine⟨B _ _ e3,eW (by rw[ag];lia),hN _ _ _ ⟨(s3.trans B).put Zm _,az,C++[rr],fs++[(x,y)],_,by rw[aE];rfl,by rw[aN,qi];rfl,?_,λf J=>?_,?_,rfl⟩⟩
  .refine vf (by rw[aL aT.symm];exact az) (Paired.imp' (λq f h=>?_) J);rw[aL (fS (B _ _ h) (B _ _ e3) (by intro z;cases z))];exact B _ _ h
  .rcases bd.mp J with h|h
   .exact fb f h
   .rw[aO.mp h];exact⟨M.pos,by show x.natAbs<2^40;lia,by show y.natAbs<2^40;lia⟩
  .rw[bp,go,jW,tM,tM,su,sk M (by lia)]
   congr 1
   unfold evp fQ;rw[eb,ea];show((b-1:Int):Rat)/((b*a-1:Int):Rat)=_;rw[Rat.intCast_sub,Rat.intCast_sub,Rat.intCast_mul]
   rfl
 .rintro U Z S ⟨s3,e3,C,fs,v,rfl,qi,J,fb,su,rfl⟩;rw[ag,bC]at su;rw[ag]at qi;have fl:C.length=fs.length:=Paired.length J;obtain⟨ak,ar⟩:=xM (n:=40) (fs:=fs) (tb:=(0,1)) (b:=1) fb (by decide) (by decide);have mp:=AR (fs:=fs) (tb:=(0,1)) (λf h=>(fb f h).1) (by decide);have mr:=zV (fs:=fs) (tb:=(0,1)) (λf h=>cH (fb f h).1) (by decide);refine⟨pc,true,C,fs,40,rfl,e3,ϕ.k J,fb,by lia,by decide,by lia,λx y r1 H4 M nr B er=>?_⟩;obtain⟨l1,l2⟩:=uO M (cH mp);have rr:=sk M (cH mp);have bx:x.natAbs<2^985:=bK l1 (aP ak (cN (by decide) (by lia)));have L:y.natAbs<2^985:=bK l2 (aP ar (cN (by decide) (by lia)))
  have yp:=M.pos;have one:(1:Int).natAbs<2^985:=Nat.one_lt_two_pow (by decide);refine⟨T.ONE,r1,(1,1),(x,y),985,rfl,T.Tr.sq,Κ.of er,⟨by decide,one,one⟩,⟨yp,bx,L⟩,by decide,λx2 y2 r2 H5 j ao s5 ac=>k (x2,y2) r2 H5 ?_ j.one ?_ (s1.free (s3.free (B.free ao))) (s1.trans (s3.trans (B.trans s5))) ac⟩
  .obtain⟨a1,Y⟩:=uO j (show(1:Int)*y≠0 by lia);have b1:(1*y-x*1:Int).natAbs<2^986:=by
    have:=AN (a:=y) (b:=-x) (n:=985) L (by rw[mB];exact bx)
    rwa [show 1*y-x*1=y + -x by lia]
   refine⟨j.pos,bK a1 (oF b1 (by decide)),bK Y (oF (m:=985) (by rw[gA];exact L) (by decide))⟩
  .rw[sk j (show(1:Int)*y≠0 by lia)];unfold shr;rw[<-su];have e0:(((0:Int):Rat)/((1:Int):Rat))=0:=(by rw[show((0:Int):Rat)=0 from rfl,Rat.div_def,Rat.zero_mul]);have n1:=pG (cH yp);show((1*y-x*1:Int):Rat)/((1*y:Int):Rat)=_;rw[gA,eU,Rat.intCast_sub]
   grind
def vh(T:Txt K I):Sp:=λg H Q _=>E5 λ(p t:Addr)(m:Int)(e:g9)(c:hT)=>g=[.ref p]/\ι T.Web H p m t e c/\∀(l:Addr)(d:g9)(b:List (Int×Int))(a:Hp),H l=none->δ H a->a l=some (.lst (d.map V.ref))->ϕ a d b->(b.length:Int)=m->(∀f∈b,FrB 990 f/\f.1.gcd f.2=1)->(∀(i:Nat) f,b[i]?=some f->(f.1:Rat)/f.2=shr m c (evp c) i)->Q (.ref l) a
abbrev mP:Stmt:=top 68
theorem C2:η ["web"] ["web"] (aB mP):=.of
theorem vT:ϛ (aB mP) "range":=.of (by kernel_rfl)
theorem Dx(T:Txt K I)(hq:bU (ψ P w))(u:Cb P w K I base "even_share" qo ["web","place"] 6 (wx T)):Ok P w K I base "even_shares" mP ["web"] 7 (vh T):=λ_ _ D=>by
 refine D.F.ϓ C2 (by walk_at "v") λχ A y s H vs Q E hr h=>?_;obtain⟨p,t,m,ps,M,rfl,W,k⟩:=h;have g:=W.go;have Ο:=g.Ο;have m1:=g.m1;refine⟨_,(aM (bM (g6 rfl (Z5 ["place","web"] 1 [0]) (j9 vT.g T.range (aa (dP (ϙ 0) rfl) au)) (λ_ _ _ _=>(eE (i:=0) (show(["place","web"]:hO).Nodup from by decide +kernel) rfl (Or.inl rfl))) (λ_ _ _ _=>gP) (λ_ _ _ _=>(fF u.G (hr.mono (by decide)) (by rfl) u.D.m u.D.F.kp u.D.b .nil (gU hq) (aa (pv 1) (aa (pv 0) au))))))),?_⟩;walk_at "s";obtain⟨Y,ob⟩:=W.ob;walk_at "";refine⟨T.Web,Y,_,ob,T.jA,T.ό,_,hZ m t,m,rfl,by lia,by lia,λL J=>?_⟩;refine lm (λi x C l=>δ H l/\l L=some (.lst x)/\E3 λ(d:g9)(a:List (Int×Int))(v:Option V)=>x=d.map V.ref/\d.length=i/\ϕ l d a/\(∀f∈a,FrB 990 f/\f.1.gcd f.2=1)/\(∀(i:Nat) f,a[i]?=some f->(f.1:Rat)/f.2=shr m M (evp M) i)/\C=[v,some (V.ref p)]) ⟨δ.new _ J,az,[],[],_,rfl,rfl,.nil,(λf e=>nomatch e),(λi f h=>by simp at h),rfl⟩ ?_ ?_
 .rintro i x C l N hN hi ⟨s3,e3,d,a,v,rfl,qi,e,fb,fv,rfl⟩;rw[dC];have U:(0:Int)<=(i:Int):=by lia
  have Z:(i:Int)<m:=by lia
  have fl:d.length=a.length:=Paired.length e;walk_at "";refine⟨p,t,m,ps,M,(i:Int),rfl,W.same s3,U,Z,λf r H4 fB fg X S n er=>?_⟩;have R:r≠L:=λz=>by rw[z,e3]at S;cases S
  refine⟨n _ _ e3,eW (by rw[ag];lia),hN _ _ _ ⟨(s3.trans n).put J _,az,d++[r],a++[f],_,by rw[aE];rfl,by rw[aN,qi];rfl,?_,λO B=>?_,λj O o=>?_,rfl⟩⟩
  .refine vf (by rw[aL R];exact er) (Paired.imp' (λq f h=>?_) e);rw[aL (fS (n _ _ h) (n _ _ e3) (by intro z;cases z))];exact n _ _ h
  .rcases bd.mp B with h|h
   .exact fb O h
   .rw[aO.mp h];exact⟨fB,fg⟩
  .by_cases c:j<a.length
   .rw[cU c]at o;exact fv j O o
   .have jl:=(aw.mp o).1;rw[aN,ji]at jl;have:j=i:=(by lia);subst this;rw[cM (by lia),show j-a.length=0 by lia]at o;cases o;exact X
 .rintro x C l ⟨s3,e3,d,a,v,rfl,qi,e,fb,fv,rfl⟩;have fl:d.length=a.length:=Paired.length e;exact k L d a l J s3 e3 e (by lia) fb fv
def t7(T:Txt K I):Sp:=λd H Q _=>E6 λ(p t:Addr)(m:Int)(c:g9)(a:hT)(u:Int)=>d=[.ref p,.int u]/\ι T.Web H p m t c a/\0<=u/\u<m/\∀(f:Int×Int)(r:Addr)(b:Hp),FrB 990 f->f.1.gcd f.2=1->(f.1:Rat)/f.2=shr m a (sep a) u->H r=none->δ H b->b r=some (.tup [.int f.1,.int f.2])->Q (.ref r) b
abbrev oG:Stmt:=top 71
theorem BP:η ["web","place","near"] ["web","place"] (aB oG):=.of
theorem CK(T:Txt K I)(R:bU (ψ P w))(sy:Cb P w K I base "minus" u5 ["one","two"] 5 (Aj T))(iL:iH P w base T)(X:Cb P w K I base "road_part" oU ["one","other"] 3 (sS T))(mF:sX P w base T)(r:jb P w base T):Ok P w K I base "second_share" oG ["web","place"] 6 (t7 T):=λ_ _ D=>by
 refine D.F.ϓ BP (by walk_at "v") λχ A an s H vs Q E O h=>?_;obtain⟨p,t,m,ps,d,u,rfl,W,u0,u1,k⟩:=h;have g:=W.go;have Ο:=g.Ο;refine⟨_,(aI (Μ 2 (Η iL O R (aa (ϙ 0) (aa (ϙ 1) au)))) (aM (bM (Η sy O R (aa (pgl T.TB) (aa (Η mF O R (aa (g6 rfl (Z5 ["other","web","place"] 1 [0,1]) (u8 true (ζ 2)) (λ_ _ _ _=>(eE (i:=0) (show(["other","web","place"]:hO).Nodup from by decide +kernel) rfl (Or.inl rfl))) (λ_ _ _ _=>gP) (λ_ _ _ _=>(fF X.G (O.mono (by decide)) (by rfl) X.D.m X.D.F.kp X.D.b .nil (gU R) (aa (fF r.G (O.mono (by decide)) (by rfl) r.D.m r.D.F.kp r.D.b .nil (gU R) (aa (pv 1) (aa (pv 0) (aa (pv 2) au)))) (aa (fF r.G (O.mono (by decide)) (by rfl) r.D.m r.D.F.kp r.D.b .nil (gU R) (aa (pv 1) (aa (pv 2) (aa (pv 0) au)))) au))))) au)) au)))))),?_⟩;walk_at "s";refine gJ λN1 h1=>?_;walk_at "";refine⟨p,t,m,ps,d,u,rfl,W,λl H1 _ _ nl s1 el=>h1 _ _ ?_,λz=>absurd ⟨u0,u1⟩ z⟩;have W1:=W.same s1;have cp:(ie m d u).length<=24:=by
  have:=dM (λq=>decide (q∈fM d u)) (bG m.toNat);rw[bR]at this;have e:(ie m d u).length=((bG m.toNat).filter λq=>decide (q∈fM d u)).length:=rfl
  lia
 walk_at "";refine⟨⟨_,ν.of el⟩,λpc Zm=>?_⟩;refine nS (K:=K) (c:=true) (xs:=(ie m d u).map V.int) (λi U Z S=>δ H1 S/\S pc=some (.lst U)/\E3 λ(C:g9)(fs:List (Int×Int))(v:Option V)=>U=C.map V.ref/\C.length=i/\ϕ S C fs/\(∀f∈fs,FrB 40 f)/\oN fs (λf=>(f.1:Rat)/f.2)=oN ((ie m d u).take i) (sep d u)/\Z=[v,some (V.ref p),some (V.int u)]) ⟨δ.new _ Zm,az,[],[],_,rfl,rfl,.nil,(λf J=>nomatch J),rfl,rfl⟩ (λi U Z S _ z=>ν.of (z.1 _ _ el)) ?_ ?_
 .rintro i x U Z S N hN hx ⟨s3,e3,C,fs,v,rfl,qi,J,fb,su,rfl⟩;rw[aG]at hx;obtain⟨o,go,rfl⟩:=bN.mp hx;have ad:=(ij g).mp (aX go);obtain⟨_,or,_⟩:=g.ZG ad;obtain⟨b,eb,b2,b6⟩:=lD g ad.symm;obtain⟨a,ea,Y,a6⟩:=lD g ad;have il:=(aw.mp go).1;have W3:=W1.same s3;walk_at "";refine⟨p,t,m,ps,d,o,u,rfl,W3,λb' _ _ _ _ e=>?_,(λz=>absurd ⟨or,⟨u0,u1⟩⟩ z),(λ_ _ _ _ z=>by rw[eb]at z;cases z)⟩;rw[eb]at e;cases e;refine⟨p,t,m,ps,d,u,o,rfl,W3,λa' _ _ _ _ e=>?_,(λz=>absurd ⟨⟨u0,u1⟩,or⟩ z),(λ_ _ _ _ z=>by rw[ea]at z;cases z)⟩;rw[ea]at e;cases e;refine⟨b,a,rfl,⟨b2,b6⟩,⟨Y,a6⟩,λx y rr M nr=>?_⟩;have B:=δ.new (.tup [V.int x,V.int y]) nr;have cn:4<=b*a:=by have:=ft b2 Y (by decide) (by lia);lia
  have ca:(b*a).natAbs<2^40:=qJ (m:=20) (n:=20) (by lia) (by lia);obtain⟨l1,l2⟩:=uO M (by lia);have aT:pc≠rr:=λz=>by rw[z]at e3;rw[e3]at nr;cases nr
  refine⟨B _ _ e3,eW (by rw[ag];lia),hN _ _ _ ⟨(s3.trans B).put Zm _,az,C++[rr],fs++[(x,y)],_,by rw[aE];rfl,by rw[aN,qi];rfl,?_,λf J=>?_,?_,rfl⟩⟩
  .refine vf (by rw[aL aT.symm];exact az) (Paired.imp' (λq f h=>?_) J);rw[aL (fS (B _ _ h) (B _ _ e3) (by intro z;cases z))];exact B _ _ h
  .rcases bd.mp J with h|h
   .exact fb f h
   .rw[aO.mp h];exact⟨M.pos,by show x.natAbs<2^40;lia,by show y.natAbs<2^40;lia⟩
  .rw[bp,go,jW,tM,tM,su,sk M (by lia)]
   congr 1
   unfold sep fQ;rw[eb,ea];show((b-1:Int):Rat)/((b*a-1:Int):Rat)=_;rw[Rat.intCast_sub,Rat.intCast_sub,Rat.intCast_mul]
   rfl
 .rintro U Z S ⟨s3,e3,C,fs,v,rfl,qi,J,fb,su,rfl⟩;rw[ag,bC]at su;rw[ag]at qi;have fl:C.length=fs.length:=Paired.length J;obtain⟨ak,ar⟩:=xM (n:=40) (fs:=fs) (tb:=(0,1)) (b:=1) fb (by decide) (by decide);have mp:=AR (fs:=fs) (tb:=(0,1)) (λf h=>(fb f h).1) (by decide);have mr:=zV (fs:=fs) (tb:=(0,1)) (λf h=>cH (fb f h).1) (by decide);refine⟨pc,true,C,fs,40,rfl,e3,ϕ.k J,fb,by lia,by decide,by lia,λx y r1 H4 M nr B er=>?_⟩;obtain⟨l1,l2⟩:=uO M (cH mp);have rr:=sk M (cH mp);have bx:x.natAbs<2^985:=bK l1 (aP ak (cN (by decide) (by lia)));have L:y.natAbs<2^985:=bK l2 (aP ar (cN (by decide) (by lia)))
  have yp:=M.pos;have one:(1:Int).natAbs<2^985:=Nat.one_lt_two_pow (by decide);refine⟨T.ONE,r1,(1,1),(x,y),985,rfl,T.Tr.sq,Κ.of er,⟨by decide,one,one⟩,⟨yp,bx,L⟩,by decide,λx2 y2 r2 H5 j ao s5 ac=>k (x2,y2) r2 H5 ?_ j.one ?_ (s1.free (s3.free (B.free ao))) (s1.trans (s3.trans (B.trans s5))) ac⟩
  .obtain⟨a1,Y⟩:=uO j (show(1:Int)*y≠0 by lia);have b1:(1*y-x*1:Int).natAbs<2^986:=by
    have:=AN (a:=y) (b:=-x) (n:=985) L (by rw[mB];exact bx)
    rwa [show 1*y-x*1=y + -x by lia]
   refine⟨j.pos,bK a1 (oF b1 (by decide)),bK Y (oF (m:=985) (by rw[gA];exact L) (by decide))⟩
  .rw[sk j (show(1:Int)*y≠0 by lia)];unfold shr;rw[<-su];have e0:(((0:Int):Rat)/((1:Int):Rat))=0:=(by rw[show((0:Int):Rat)=0 from rfl,Rat.div_def,Rat.zero_mul]);have n1:=pG (cH yp);show((1*y-x*1:Int):Rat)/((1*y:Int):Rat)=_;rw[gA,eU,Rat.intCast_sub]
   grind
def sZ(T:Txt K I):Sp:=λg H Q _=>E5 λ(p t:Addr)(m:Int)(e:g9)(c:hT)=>g=[.ref p]/\ι T.Web H p m t e c/\∀(l:Addr)(d:g9)(b:List (Int×Int))(a:Hp),H l=none->δ H a->a l=some (.lst (d.map V.ref))->ϕ a d b->(b.length:Int)=m->(∀f∈b,FrB 990 f/\f.1.gcd f.2=1)->(∀(i:Nat) f,b[i]?=some f->(f.1:Rat)/f.2=shr m c (sep c) i)->Q (.ref l) a
abbrev kW:Stmt:=top 70
theorem AM:η ["web"] ["web"] (aB kW):=.of
theorem um:ϛ (aB kW) "range":=.of (by kernel_rfl)
theorem Af(T:Txt K I)(hq:bU (ψ P w))(u:Cb P w K I base "second_share" oG ["web","place"] 6 (t7 T)):Ok P w K I base "second_shares" kW ["web"] 7 (sZ T):=λ_ _ D=>by
 refine D.F.ϓ AM (by walk_at "v") λχ A y s H vs Q E hr h=>?_;obtain⟨p,t,m,ps,M,rfl,W,k⟩:=h;have g:=W.go;have Ο:=g.Ο;have m1:=g.m1;refine⟨_,(aM (bM (g6 rfl (Z5 ["place","web"] 1 [0]) (j9 um.g T.range (aa (dP (ϙ 0) rfl) au)) (λ_ _ _ _=>(eE (i:=0) (show(["place","web"]:hO).Nodup from by decide +kernel) rfl (Or.inl rfl))) (λ_ _ _ _=>gP) (λ_ _ _ _=>(fF u.G (hr.mono (by decide)) (by rfl) u.D.m u.D.F.kp u.D.b .nil (gU hq) (aa (pv 1) (aa (pv 0) au))))))),?_⟩;walk_at "s";obtain⟨Y,ob⟩:=W.ob;walk_at "";refine⟨T.Web,Y,_,ob,T.jA,T.ό,_,hZ m t,m,rfl,by lia,by lia,λL J=>?_⟩;refine lm (λi x C l=>δ H l/\l L=some (.lst x)/\E3 λ(d:g9)(a:List (Int×Int))(v:Option V)=>x=d.map V.ref/\d.length=i/\ϕ l d a/\(∀f∈a,FrB 990 f/\f.1.gcd f.2=1)/\(∀(i:Nat) f,a[i]?=some f->(f.1:Rat)/f.2=shr m M (sep M) i)/\C=[v,some (V.ref p)]) ⟨δ.new _ J,az,[],[],_,rfl,rfl,.nil,(λf e=>nomatch e),(λi f h=>by simp at h),rfl⟩ ?_ ?_
 .rintro i x C l N hN hi ⟨s3,e3,d,a,v,rfl,qi,e,fb,fv,rfl⟩;rw[dC];have U:(0:Int)<=(i:Int):=by lia
  have Z:(i:Int)<m:=by lia
  have fl:d.length=a.length:=Paired.length e;walk_at "";refine⟨p,t,m,ps,M,(i:Int),rfl,W.same s3,U,Z,λf r H4 fB fg X S n er=>?_⟩;have R:r≠L:=λz=>by rw[z,e3]at S;cases S
  refine⟨n _ _ e3,eW (by rw[ag];lia),hN _ _ _ ⟨(s3.trans n).put J _,az,d++[r],a++[f],_,by rw[aE];rfl,by rw[aN,qi];rfl,?_,λO B=>?_,λj O o=>?_,rfl⟩⟩
  .refine vf (by rw[aL R];exact er) (Paired.imp' (λq f h=>?_) e);rw[aL (fS (n _ _ h) (n _ _ e3) (by intro z;cases z))];exact n _ _ h
  .rcases bd.mp B with h|h
   .exact fb O h
   .rw[aO.mp h];exact⟨fB,fg⟩
  .by_cases c:j<a.length
   .rw[cU c]at o;exact fv j O o
   .have jl:=(aw.mp o).1;rw[aN,ji]at jl;have:j=i:=(by lia);subst this;rw[cM (by lia),show j-a.length=0 by lia]at o;cases o;exact X
 .rintro x C l ⟨s3,e3,d,a,v,rfl,qi,e,fb,fv,rfl⟩;have fl:d.length=a.length:=Paired.length e;exact k L d a l J s3 e3 e (by lia) fb fv
theorem Kc{H:Hp}{q:Addr}{x:Road}(e:H q=some (.tup (lL x))):∀{b:g9}{a:hT},ξ H b a->ξ H (b++[q]) (a++[x])
 | _,_,.nil=>.cons e .nil
 | _,_,.cons y ys=>.cons y (Kc e ys)
def FC(K:gx):Sp:=λd H Q _=>∃(a:Addr)(b:du),d=[.ref a]/\ν K H a (b.map V.int)/\b.length<=63/\∀c,Q (.bl true) c
def V9(T:Txt K I):Sp:=FC K
abbrev mD:Stmt:=top 97
theorem HY:η ["script","many","roads","bound","laying","wish","order","turned","webs","layings_two","wishes_two","r","told"] ["script"] (aB mD):=.of
theorem Gg:NmC (aB mD) "order":=.of (by kernel_rfl)
theorem Fu:NmL (aB mD) "turned":=.of (by kernel_rfl)
theorem BO:ϛ (aB mD) "reversed":=.of (by kernel_rfl)
theorem r9:ϛ (aB mD) "Web":=.of (by kernel_rfl)
theorem Iv:ϛ (aB mD) "range":=.of (by kernel_rfl)
theorem XM(T:Txt K I)(G:bU (ψ P w)){f:Addr}{fd:FuncData}(D:Df K I "law" mD ["script"] f fd){υ:Addr}{qa:FuncData}(oC:Fun K "__init__" "Web.__init__" je υ qa)(Fx:Binds K qa ["self","many","roads"] [])(Fy:Mk K T.Web υ)(Ϫ:Ψ P w K I base (ψ P w) 3 υ qa ["self","many","roads"] (qk T))(oj:Cb P w K I base "_law_all_told" om ["web","laying","wish","r"] 13 (tP T))(ut:Cb P w K I base "_law_bound" qQ ["script"] 2 (yh T))(dQ:p3 P w base T)(sL:Cb P w K I base "_law_laying" nY ["script","many","bound"] 2 (wC T))(uw:Cb P w K I base "_law_order" oZ ["cell","many"] 1 (xH T))(pK:Cb P w K I base "_law_put" rm ["numbers","order"] 1 (Cw T))(ux:Cb P w K I base "_law_roads" oV ["script","many","shape"] 2 (yt T))(vJ:Cb P w K I base "_law_wish" pQ ["script","many","bound"] 2 (zP T))(wg:Cb P w K I base "always" vV ["web","wish"] 60 (Ex T))(pA:Cb P w K I base "even_shares" mP ["web"] 7 (vh T))(nG:Cb P w K I base "second_shares" kW ["web"] 7 (sZ T)):Ψ P w K I base (ψ P w) 61 f fd ["script"] (V9 T):=by
 refine D.F.ϓ HY (by walk_at "v") λχ A ht s H vs Q E B h=>?_;obtain⟨a,ns,rfl,ha,hn,k⟩:=h;have hv:=B.units;refine⟨_,(aI (Μ 1 (bi ja aQ (bi fW (bi iT (Η dQ B G (aa (ζ 0) (aa aQ au))) aQ) aQ))) (aI (Μ 2 (Η ux B G (aa (ζ 0) (aa (ζ 1) (aa (bi fW (bi iT (Η dQ B G (aa (ζ 0) (aa aQ au))) aQ) aQ) au))))) (aI (Μ 3 (Η ut B G (aa (ζ 0) au))) (aI (Μ 4 (Η sL B G (aa (ζ 0) (aa (ζ 1) (aa (ζ 3) au))))) (aI (Μ 5 (Η vJ B G (aa (ζ 0) (aa (ζ 1) (aa (ζ 3) au))))) (aI (pV (i:=6) HY.nd rfl (Or.inr Gg.l) (Η uw B G (aa (bi iT (Η dQ B G (aa (ζ 0) (aa aQ au))) aQ) (aa (ζ 1) au)))) (aI (rP (i:=7) HY.nd rfl Fu.l rfl (Z5 ["road","order"] 1 [6]) (vk BO.g T.reversed (ζ 2)) (λ_ _ _ _=>(eE (i:=0) (show(["road","order"]:hO).Nodup from by decide +kernel) rfl (Or.inl rfl))) (λ_ _ _ _=>gP) (λ_ _ _ _=>(tj (aa (Ι (nJ K rfl) (pv 1) (qO (pH K rfl) (pv 0) aQ (λ_ _=>rfl))) (aa (Ι (nJ K rfl) (pv 1) (qO (pH K rfl) (pv 0) aQ (λ_ _=>rfl))) (aa (Ι (pH K rfl) (pv 0) aQ) (aa (Ι (pH K rfl) (pv 0) aQ) au))))))) (aI (Μ 8 (fG (aa (yD Fy Ϫ (B.mono (by decide)) r9.g T.Tv Fx .nil (gU G) (aa (ζ 1) (aa (pct pZ T.list (aa (ζ 2) au)) au)) (hdb:=r9.d)) (aa (yD Fy Ϫ (B.mono (by decide)) r9.g T.Tv Fx .nil (gU G) (aa (ζ 1) (aa (ζ 7) au)) (hdb:=r9.d)) au)))) (aI (Μ 9 (fG (aa (ζ 4) (aa (Η pK B G (aa (ζ 4) (aa (ϙ 6) au))) au)))) (aI (Μ 10 (fG (aa (ζ 5) (aa (Η pK B G (aa (ζ 5) (aa (ϙ 6) au))) au)))) (aI (fV PassesOwn.never rfl (j9 Iv.g T.range (aa (ζ 1) au)) (ϫ 11) (aI (Μ 12 (Η oj B G (aa (Ι cf (ζ 8) aQ) (aa (Ι cf (ζ 9) aQ) (aa (Ι cf (ζ 10) aQ) (aa (ζ 11) au)))))) (aM (fh (yz (GW hv) (Η oj B G (aa (Ι cf (ζ 8) aQ) (aa (Ι cf (ζ 9) aQ) (aa (Ι cf (ζ 10) aQ) (aa (Ι cf (ϙ 6) (ζ 11)) au))))) (ζ 12) (oY _)) (aM (bM Cd)) dI)))) (aI (fh (yz (GW hv) (Η pK B G (aa (Η pA B G (aa (Ι cf (ζ 8) aQ) au)) (aa (ϙ 6) au))) (Η pA B G (aa (Ι cf (ζ 8) aQ) au)) (oY _)) (aM (bM Cd)) dI) (aI (fh (yz (GW hv) (Η pK B G (aa (Η nG B G (aa (Ι cf (ζ 8) aQ) au)) (aa (ϙ 6) au))) (Η nG B G (aa (Ι cf (ζ 8) aQ) au)) (oY _)) (aM (bM Cd)) dI) (aM (bM (ss kG (Η wg B G (aa (Ι cf (ζ 8) aQ) (aa (Ι cf (ζ 10) aQ) au))) (Η wg B G (aa (Ι cf (ζ 8) aQ) (aa (Ι cf (ζ 10) aQ) au))) (oY _))))))))))))))))),?_⟩;walk_at "s";refine gJ λN1 h1=>?_;walk_at "";refine⟨a,ns,0,rfl,ha,by decide,by decide,λc c0=>⟨_,rfl,⟨by decide,by decide⟩,by decide,h1 _ _ (gJ λN2 h2=>?_)⟩⟩;have k0:=b5 (c/2) (show(6:Int)≠0 by decide);have ll:=bX (c/2) (show(0:Int)<6 by decide);obtain⟨m,em⟩:∃m,m=1+c/2%6:=⟨_,rfl⟩;rw[<-em];have m1:1<=m:=by lia
 have Ο:m<=24:=by lia
 walk_at "";refine⟨a,ns,0,rfl,ha,by decide,by decide,λc2 km=>⟨_,rfl,⟨by decide,by decide⟩,by decide,?_⟩⟩;have gd:=b5 (c2/600) (show(4:Int)≠0 by decide);have gr:=bX (c2/600) (show(0:Int)<4 by decide);refine⟨a,ns,m,_,rfl,ha,m1,Ο,gd,gr,λl ps t H1 nl s1 el ro g=>h2 _ _ (gJ λN3 h3=>?_)⟩;walk_at "";refine⟨a,ns,rfl,δ.seq s1 ha,λb H2 b2 ke s2=>h3 _ _ (gJ λN4 h4=>?_)⟩;have ϻ:=s1.trans s2;walk_at "";refine⟨a,ns,m,b,rfl,δ.seq ϻ ha,hn,m1,Ο,by lia,λla xs H3 k3 s3 ea xl x0=>h4 _ _ (gJ λN5 h5=>?_)⟩;have ck:=ϻ.trans s3;walk_at "";refine⟨a,ns,m,b,rfl,δ.seq ck ha,hn,m1,Ο,by lia,λlw ys H4 jj s4 ew yl y0=>h5 _ _ (gJ λN6 h6=>?_)⟩;have j:=ck.trans s4;walk_at "";refine⟨a,ns,0,rfl,δ.seq j ha,by decide,by decide,λc3 kp=>⟨_,rfl,⟨by decide,by decide⟩,?_⟩⟩;refine⟨_,m,rfl,m1,Ο,λlo os H5 kj s5 eo L=>h6 _ _ (gJ λN7 h7=>?_)⟩;obtain⟨ρ,N⟩:=L.ren;have cd:=s2.trans (s3.trans (s4.trans s5));have an:=s1.trans cd;have bx:=cd _ _ el;have br:=ξ.same cd ro;have fm:=(s4.trans s5) _ _ ea;have fj:=s5 _ _ ew;clear h1 h2 h3 h4 h5 h6 ϻ ck j s1 s2 s3 s4 s5 cd el ro ea ew;walk_at "";have pl:ps.length=t.length:=Paired.length br;have rl:=g.len;have ol:=L.len;have eg:ξ H5 ps.reverse t.reverse:=C8 br;refine⟨_,ν.of bx,λlt eh=>?_⟩;refine Ir (K:=K) (xs:=ps.map V.ref) (λi zs σ H6=>δ H5 H6/\H6 lt=some (.lst zs)/\(∃qs:List Addr,zs=qs.map V.ref/\ξ H6 qs ((ϐ (rw_ os) t).take i))/\∃v,σ=[v,some (V.ref lo)]) ⟨δ.new _ eh,az,⟨[],rfl,.nil⟩,_,rfl⟩ (λi zs σ H6 _ z=>ν.of (z.1 _ _ bx)) ?_ ?_
 .rintro i x zs σ H6 NN hNN hx ⟨s6,e6,⟨qs,rfl,rq⟩,v,rfl⟩;rw[<-eC]at hx;obtain⟨q,y,rfl,G,hy,ey⟩:=eg.get hx;have bt:=s6 _ _ ey;have o:=g.ok y (cY.mp (aX hy));have il:=(aw.mp hy).1;rw[aZ]at il;have ql:qs.length=((ϐ (rw_ os) t).take i).length:=Paired.length rq;rw[bA]at ql;have ao:=o.a0;have a1:=o.a1;have bo:=o.b0;have b1:=o.b1;walk_at "";refine ixT bt rfl (Χ (s6 _ _ eo) (BV bo (by lia)) (ixT bt rfl (Χ (s6 _ _ eo) (BV ao (by lia)) (ixT bt rfl (ixT bt rfl ⟨dL (by simp),λq7 d2=>?_⟩)))));have s7:=δ.new (HO.tup (lL (swp (rw_ os) y))) d2;have e7:upd H6 q7 (HO.tup (lL (swp (rw_ os) y))) lt=some (.lst (qs.map V.ref)):=s7 _ _ e6;have hg:q7≠lt:=λz=>by rw[z,e6]at d2;cases d2
  refine⟨e7,eW (by rw[ag];lia),hNN _ _ _ ⟨(s6.trans s7).put eh _,az,⟨qs++[q7],by rw[aE];rfl,?_⟩,_,rfl⟩⟩;have et:(ϐ (rw_ os) t).take (i+1)=(ϐ (rw_ os) t).take i++[swp (rw_ os) y]:=by
   rw[List.take_add_one,show(ϐ (rw_ os) t)[i]?=some (swp (rw_ os) y) by unfold ϐ;rw[aG,hy];rfl]
   rfl
  rw[et];refine Kc (by rw[aL hg];exact az) (Paired.imp' (λp r z=>?_) rq);rw[aL λw=>?_]
  .exact s7 _ _ z
  .rw[w,e6]at z;cases z
 .rintro zs σ H6 ⟨s6,e6,⟨qs,rfl,rq⟩,v,rfl⟩;rw[ag,pl,show t.length=(ϐ (rw_ os) t).length by unfold ϐ;rw[ag,aZ],bC]at rq;have g':=N.good g;have X:=an.trans s6;have ez:=s6 _ _ bx;have eN:=ξ.same s6 br;have eD:=s6 _ _ fm;have eX:=s6 _ _ fj;have ef:=s6 _ _ eo;refine h7 _ _ (gJ λN8 h8=>?_);clear h7 an s6 bx br fm fj eo eg;walk_at "";refine⟨_,.inl (ν.of ez),λlc fg=>?_⟩;have t1:=δ.new (.lst (ps.map V.ref)) fg;refine MX T (c:=true) (ν.of az) (ξ.same t1 eN) g λw1 av H7 f2 gp t2 W1=>?_;have cg:=t1.trans t2;refine MX T (c:=true) (ν.of (cg _ _ e6)) (ξ.same cg rq) g' λw2 a7 H8 gC gk t3 W2=>⟨dL (by simp),λlb eK=>h8 _ _ (gJ λN9 h9=>?_)⟩;have u9:=δ.new (HO.lst [V.ref w1,V.ref w2]) eK;have eb:upd H8 lb (HO.lst [V.ref w1,V.ref w2]) lb=some (.lst [V.ref w1,V.ref w2]):=az;have t9:=cg.trans (t3.trans u9);generalize upd H8 lb (HO.lst [V.ref w1,V.ref w2])=H9 at u9 eb t9 ⊢;have V1:=W1.same (t3.trans u9);have V2:=W2.same u9;have a6:=X.trans t9;have dO:=t9 _ _ eD;have e2:=t9 _ _ eX;have c5:=t9 _ _ ef;clear h8 t1 t2 t3 cg u9 t9 W1 W2 X ez eN eD eX ef rq e6 f2 gp gC gk fg eK;have lx:Ε (xs.map V.int).length os:=by rw[ag,show xs.length=m.toNat by lia];exact L
  have ly:Ε (ys.map V.int).length os:=by rw[ag,show ys.length=m.toNat by lia];exact L
  have Δ:∀v,0<=v->v<m->0<=rw_ os v/\rw_ os v<m:=λv v0 v1=>(N.p v v0 v1).1;walk_at "";refine⟨la,lo,_,os,rfl,dO,c5,lx,by rw[ag];lia,λa5 zs fk kr es cx zl M=>⟨dL (by simp),λbs gE=>h9 _ _ (gJ λkx ep=>?_)⟩⟩;rw[N.put 0 xl zl M]at cx;obtain⟨ak,a2⟩:∃ak,ak=(bG m.toNat).map λw=>xs.getD (ρ w).toNat 0:=⟨_,rfl⟩;rw[<-a2]at cx;have hx:∀v,0<=v->v<m->ak.getD (rw_ os v).toNat 0=xs.getD v.toNat 0:=λv v0 v1=>by rw[a2,wp (Δ v v0 v1).1 (Δ v v0 v1).2,(N.p v v0 v1).2]
  have hd:(ak.length:Int)=m:=by rw[a2,ag,bR];lia
  have hj:∀z∈ak,0<=z:=λz M=>by
   rw[a2]at M;obtain⟨w,_,rfl⟩:=aR.mp M;exact DT x0 _
  clear a2 M zl;have dV:=δ.new (HO.lst [V.ref la,V.ref a5]) gE;have dd:upd fk bs (HO.lst [V.ref la,V.ref a5]) bs=some (.lst [V.ref la,V.ref a5]):=az;have dr:=dV _ _ cx;have ZU:=es.trans dV;generalize upd fk bs (HO.lst [V.ref la,V.ref a5])=j2 at dd dr ZU ⊢;have U1:=V1.same ZU;have U2:=V2.same ZU;have ej:=a6.trans ZU;have fb:=ZU _ _ eb;have e9:=ZU _ _ dO;have dk:=ZU _ _ e2;have d5:=ZU _ _ c5;clear h9 dV cx ZU a6 es V1 V2 eb dO e2 c5;walk_at "";refine⟨lw,lo,_,os,rfl,dk,d5,ly,by rw[ag];lia,λZ zs eS k6 ϻ bS zl M=>⟨dL (by simp),λcn hc=>ep _ _ (gJ λkw gv=>?_)⟩⟩;rw[N.put 0 yl zl M]at bS;obtain⟨ϒ,be⟩:∃ϒ,ϒ=(bG m.toNat).map λw=>ys.getD (ρ w).toNat 0:=⟨_,rfl⟩;rw[<-be]at bS;have hy:∀v,0<=v->v<m->ϒ.getD (rw_ os v).toNat 0=ys.getD v.toNat 0:=λv v0 v1=>by rw[be,wp (Δ v v0 v1).1 (Δ v v0 v1).2,(N.p v v0 v1).2]
  have cp:(ϒ.length:Int)=m:=by rw[be,ag,bR];lia
  have cm:∀z∈ϒ,0<=z:=λz M=>by
   rw[be]at M;obtain⟨w,_,rfl⟩:=aR.mp M;exact DT y0 _
  clear be M zl;have d3:=δ.new (HO.lst [V.ref lw,V.ref Z]) hc;have am:upd eS cn (HO.lst [V.ref lw,V.ref Z]) cn=some (.lst [V.ref lw,V.ref Z]):=az;have b6:=d3 _ _ bS;have Zn:=ϻ.trans d3;generalize upd eS cn (HO.lst [V.ref lw,V.ref Z])=gO at am b6 Zn ⊢;have W1:=U1.same Zn;have W2:=U2.same Zn;have ck:=ej.trans Zn;have ZV:=Zn _ _ fb;have fe:=Zn _ _ dd;have hp:=Zn _ _ e9;have go:=Zn _ _ dr;have dm:=Zn _ _ dk;have d7:=Zn _ _ d5;clear ep d3 bS Zn ej ϻ U1 U2 fb dd e9 dk d5 dr;walk_at "";refine⟨by lia,by lia,?_⟩;refine qj (lo:=0) (λi σ d4=>δ gO d4/\∃dT d1,σ=[some (V.ref a),some (V.int m),some (V.ref l),some (V.int b),some (V.ref la),some (V.ref lw),some (V.ref lo),some (V.ref lt),some (V.ref lb),some (V.ref bs),some (V.ref cn),dT,d1]) ⟨δ.refl _,_,_,rfl⟩ ?_ ?_
  .rintro i σ d4 NI hNI hi ⟨j,dT,d1,rfl⟩;have r0:0<=0+(i:Int):=(by lia);have r1:0+(i:Int)<m:=(by lia);generalize 0+(i:Int)=r at r0 r1 ⊢;obtain⟨Y,af,R⟩:=Ω g r0 r1;have pr:=Δ r r0 r1;have R':=N.Ω g R r0 r1;obtain⟨n,en⟩:∃n:Nat,(n:Int)=ys.getD r.toNat 0%10^Int.toNat 9:=⟨(ys.getD r.toNat 0%10^Int.toNat 9).toNat,bW (b5 _ (by decide))⟩;refine gJ λM1 k1=>?_;walk_at "";refine Χ (j _ _ ZV) rfl (Χ (j _ _ fe) rfl (Χ (j _ _ am) rfl ?_));refine⟨w1,la,lw,av,m,_,t,xs,ys,r,n,rfl,W1.same j,j _ _ hp,j _ _ dm,xl,yl,x0,y0,⟨r0,r1⟩,en,Y,af,R,λbv tl hh et O lk an ad=>k1 _ _ ?_⟩;have C:=j.trans an;walk_at "";refine Χ (C _ _ ZV) rfl (Χ (C _ _ fe) rfl (Χ (C _ _ am) rfl (Χ (C _ _ d7) (BV r0 (by lia)) ?_)));refine⟨w2,a5,Z,a7,m,_,ϐ (rw_ os) t,ak,ϒ,rw_ os r,n,rfl,W2.same C,C _ _ go,C _ _ b6,hd,cp,hj,cm,pr,by rw[hy r r0 r1];exact en,hV (rw_ os) ρ Y,ng ρ af,R',λeQ gy hl f8 O' lj X U=>?_⟩;rw[N.ώ g R r0 r1 hx hy,N.Α g R r0 r1 (held:=λv=>xs.getD v.toNat 0) (con:=giv t Y) hx (λc z c0 c1 cr=>by unfold giv;rw[(N.ϟ g R c0 c1 cr).1]) _ r rfl r0 r1,N.Α g R r0 r1 (held:=λv=>ys.getD v.toNat 0) (con:=Z2 t Y) hy (λc z c0 c1 cr=>by unfold Z2;rw[(N.ϟ g R c0 c1 cr).2]) _ r rfl r0 r1,N.bnd g R r0 r1,show wyT m (ϐ (rw_ os) t) (rw_ os r) (hV (rw_ os) ρ Y) (ng ρ af) gy (rw_ os r) n=wyT m t r Y af tl r n from congrFun (N.wy g R r0 r1 (ZJ.mk et O (λ_=>rfl) (λ_=>rfl) λ_=>rfl) (ZJ.mk f8 O' (λ_=>rfl) (λ_=>rfl) λ_=>rfl) _ r rfl r0 r1) n]at U;refine Tf U (X _ _ ad) ⟨_,rfl,?_⟩;rw[ah (by decide)];exact hNI _ _ ⟨C.trans X,_,_,rfl⟩
  .rintro σ d4 ⟨j,dT,d1,rfl⟩;refine gv _ _ (gJ λkO hC=>?_);have same:∀{F F':Int->Int->Rat},(∀u x,0<=u->u<m->0<=x->x<m->F' (rw_ os u) (rw_ os x)=F u x)->∀{fs b3:List (Int×Int)}{qs fa:g9}{zs:List V}{lP lB:Addr}{H':Hp}{Q':VK},Shs m t F fs->Shs m (ϐ (rw_ os) t) F' b3->ϕ H' qs fs->ϕ H' fa b3->zs.length=(qs.map V.ref).length->(∀(i:Nat)(x:V),(qs.map V.ref)[i]?=some x->zs[(os.getD i 0).toNat]?=some x)->H' lP=some (.lst zs)->H' lB=some (.lst (fa.map V.ref))->Q' (.bl false) H'->RL K (.ref lP) (.ref lB) H' Q':=λhF _ _ _ _ _ _ _ _ _ S S' fr ac zl M eP eB q'=>by
    have ql:(_:Nat)=_:=Paired.length fr;have sl:=S.len;rw[N.put 0 (by lia) zl M]at eP;have e:=(N.shs g S hF).eq S';refine⟨_,_,.lst (ν.of eP) (Am (Ia (h:=λw=>List.getD _ (ρ w).toNat (0,1)) λw hw=>Hu fr ?_)),.lst (ν.of eB) (Am ac),?_,?_⟩
    .have hw:=dX.mp hw;have:=(N.q w hw.1 (by lia)).1
     lia
    .simp only[PyData.depth];exact bw (Nat.add_le_add_right (D7 _) 1) (by decide)
    .rw[e,show ∀gs:List (Int×Int),(!PyData.eqv (.list (gs.map dFr)) (.list (gs.map dFr)))=false from λgs=>by simp only[PyData.eqv];rw[Kr];rfl];exact q'
   have Ϥ:∀{fs:List (Int×Int)},(∀f∈fs,FrB 990 f/\f.1.gcd f.2=1)->∀f∈fs,0<f.2/\f.1.gcd f.2=1:=λh f hf=>⟨(h f hf).1.1,(h f hf).2⟩;have gf:∀u x,0<=u->u<m->0<=x->x<m->evp (ϐ (rw_ os) t) (rw_ os u) (rw_ os x)=evp t u x:=λu x u0 u1 x0 x1=>by
    unfold evp fQ;rw[N.toll g u0 u1 x0 x1,N.toll g x0 x1 u0 u1]
   have ho:∀u x,0<=u->u<m->0<=x->x<m->sep (ϐ (rw_ os) t) (rw_ os u) (rw_ os x)=sep t u x:=λu x u0 u1 x0 x1=>by
    unfold sep fQ;rw[N.toll g u0 u1 x0 x1,N.toll g x0 x1 u0 u1]
   walk_at "";refine Χ (j _ _ ZV) rfl ⟨w1,av,m,_,t,rfl,W1.same j,λbv ds fs hh hB an ad fr fl f1 fv=>?_⟩;have C:=j.trans an;have ql:ds.length=fs.length:=Paired.length fr;refine⟨bv,lo,_,os,rfl,ad,C _ _ d7,by rw[ag,ql,show fs.length=m.toNat by lia];exact L,by rw[ag];lia,λeQ zs hl f5 X U zl M=>?_⟩;have d0:=C.trans X;refine Χ (d0 _ _ ZV) rfl ⟨w2,a7,m,_,_,rfl,W2.same d0,λgl g7 b3 kv ga dn a4 ac d6 ar aS=>?_⟩;have dK:=d0.trans dn;refine same gf ⟨fl,Ϥ f1,fv⟩ ⟨d6,Ϥ ar,aS⟩ (fr.same (X.trans dn)) ac zl M (dn _ _ U) a4 ⟨_,rfl,?_⟩;rw[ah (by decide)];refine hC _ _ (gJ λk4 hD=>?_);clear ad U a4 fr ac zl M fv aS f1 ar ql;walk_at "";refine Χ (dK _ _ ZV) rfl ⟨w1,av,m,_,t,rfl,W1.same dK,λbv ds fs ky hB hk ad fr fl f1 fv=>?_⟩;have ei:=dK.trans hk;have ql:ds.length=fs.length:=Paired.length fr;refine⟨bv,lo,_,os,rfl,ad,ei _ _ d7,by rw[ag,ql,show fs.length=m.toNat by lia];exact L,by rw[ag];lia,λeQ zs jn f5 a6 U zl M=>?_⟩;have dx:=ei.trans a6;refine Χ (dx _ _ ZV) rfl ⟨w2,a7,m,_,_,rfl,W2.same dx,λgl g7 b3 k8 ga dc a4 ac d6 ar aS=>?_⟩;have W:=dx.trans dc;refine same ho ⟨fl,Ϥ f1,fv⟩ ⟨d6,Ϥ ar,aS⟩ (fr.same (a6.trans dc)) ac zl M (dc _ _ U) a4 ⟨_,rfl,?_⟩;rw[ah (by decide)];refine hD _ _ ?_;clear ad U a4 fr ac zl M fv aS f1 ar ql;have eY:=tW yl y0;have ek:=tW cp cm;have sm:=N.sum (by lia) yl cp hy;walk_at "";refine Χ (W _ _ ZV) rfl (Χ (W _ _ am) rfl ?_);by_cases z:ys.sum=0
   .refine⟨w1,lw,av,true,m,_,t,ys,rfl,W1.same W,ν.of (W _ _ dm),by lia,λ_ y=>absurd z y,λ_ _ f3 dt=>?_,λy=>(by rw[eY]at y;cases y)⟩;have J:=W.trans dt;refine Χ (J _ _ ZV) rfl (Χ (J _ _ am) rfl ?_);refine⟨w2,Z,a7,true,m,_,_,ϒ,rfl,W2.same J,ν.of (J _ _ b6),by lia,λ_ y=>absurd (sm.trans z) y,λ_ _ dp gb=>⟨rfl,k dp⟩,λy=>(by rw[ek]at y;cases y)⟩
   .have z':ϒ.sum≠0:=λy=>z (sm.symm.trans y);obtain⟨_,_,⟨q0,q1⟩,qy⟩:=C4 yl y0 z;obtain⟨_,_,⟨p0,p1⟩,py⟩:=C4 cp cm z';obtain⟨Y,af,R⟩:=Ω g q0 q1;obtain⟨e0,Zv,R'⟩:=Ω g' p0 p1;refine⟨w1,lw,av,true,m,_,t,ys,rfl,W1.same W,ν.of (W _ _ dm),by lia,λ_ _=>⟨Y,af,R,λf3 dt=>?_⟩,λ_ y=>absurd y z,λy=>(by rw[eY]at y;cases y)⟩;have J:=W.trans dt;refine Χ (J _ _ ZV) rfl (Χ (J _ _ am) rfl ?_);refine⟨w2,Z,a7,true,m,_,_,ϒ,rfl,W2.same J,ν.of (J _ _ b6),by lia,λ_ _=>⟨e0,Zv,R',λdp gb=>⟨rfl,?_⟩⟩,λ_ y=>absurd y z',λy=>(by rw[ek]at y;cases y)⟩;rw[N.always g R q0 q1 y0 cm hy qy R' p0 p1 py,bE rfl];exact k dp
end
theorem Y4:bU CX0:=λ_ _ _ _ _ h=>h
structure FI(K:gx)(x:Str)(st:Stmt)(f:Addr)(fd:FuncData):Prop where
 a:PySem.W.nsIn K mainGlobals x=some (some (.ref f))
 F:Fun K x x st f fd
theorem fi{K:gx}{x:Str}{st:Stmt}{f:Addr}{m:Value}{j g:Option Addr}{d:Array (Option Value)}{kV b h e i:Value}(a:PySem.W.nsIn K mainGlobals x=some (some (.ref f)):=by k_is)(l:K.lookup f=some ⟨m,j,.func (PySem.W.fnOf x x (jh st) (iq st) (aB st) .none kV b h g e i),d⟩:=by k_is)(c:PySem.W.codeIn K e x=true:=by k_is)(k:PySem.W.keepIn K (.ref f)=true:=by k_is):FI K x st f (PySem.W.fnOf x x (jh st) (iq st) (aB st) .none kV b h g e i):=⟨a,xt (st:=st) l c k⟩
theorem FI.df1{K:gx}{h:Heap}{m:hL}{x:Str}{st:Stmt}{f:Addr}{l:FuncData}(y:FI K x st f l)(X:K.In h)(G:h.Ns mainGlobals m)(k:hO)(p:k.length=1:=by rfl)(s:∀(kV j o:Value) (r:Option Addr) (n q i:Value),bindArgs (PySem.W.fnOf x x (jh st) (iq st) (aB st) .none kV j o r n q) ⟨[i],[]⟩=pure (k.zip [i]):=by intros;rfl):Df K m x st k f l:=⟨y.F,bP X G y.a,y.F.binds λa b c d e g t z=>by obtain⟨i,rfl⟩:=us1 (z.trans p);exact s a b c d e g i⟩
theorem FI.ϵ{K:gx}{h:Heap}{n:hL}{x:Str}{st:Stmt}{f:Addr}{m:FuncData}(y:FI K x st f m)(X:K.In h)(G:h.Ns mainGlobals n)(l:hO)(q:l.length=2:=by rfl)(t:∀(kV k p:Value) (s:Option Addr) (o r j i:Value),bindArgs (PySem.W.fnOf x x (jh st) (iq st) (aB st) .none kV k p s o r) ⟨[j,i],[]⟩=pure (l.zip [j,i]):=by intros;rfl):Df K n x st l f m:=⟨y.F,bP X G y.a,y.F.binds λa b c d e g u z=>by obtain⟨j,i,rfl⟩:=us2 (z.trans q);exact t a b c d e g j i⟩
theorem FI.ZW{K:gx}{h:Heap}{o:hL}{x:Str}{st:Stmt}{f:Addr}{n:FuncData}(y:FI K x st f n)(X:K.In h)(G:h.Ns mainGlobals o)(m:hO)(r:m.length=3:=by rfl)(u:∀(kV l q:Value) (t:Option Addr) (p s k j i:Value),bindArgs (PySem.W.fnOf x x (jh st) (iq st) (aB st) .none kV l q t p s) ⟨[k,j,i],[]⟩=pure (m.zip [k,j,i]):=by intros;rfl):Df K o x st m f n:=⟨y.F,bP X G y.a,y.F.binds λa b c d e g v z=>by obtain⟨k,j,i,rfl⟩:=us3 (z.trans r);exact u a b c d e g k j i⟩
theorem FI.df4{K:gx}{h:Heap}{p:hL}{x:Str}{st:Stmt}{f:Addr}{o:FuncData}(y:FI K x st f o)(X:K.In h)(G:h.Ns mainGlobals p)(n:hO)(s:n.length=4:=by rfl)(v:∀(kV m r:Value) (u:Option Addr) (q t l j i k:Value),bindArgs (PySem.W.fnOf x x (jh st) (iq st) (aB st) .none kV m r u q t) ⟨[l,j,i,k],[]⟩=pure (n.zip [l,j,i,k]):=by intros;rfl):Df K p x st n f o:=⟨y.F,bP X G y.a,y.F.binds λa b c d e g w z=>by obtain⟨l,j,i,k,rfl⟩:=us4 (z.trans s);exact v a b c d e g l j i k⟩
theorem all_mk{l:PySem.W.OpenLaw}{w:World}{K:gx}{h:Heap}{j:hL}{U:Addr}{f:Addr}{A:Addr}{u:Addr}{m:Addr}{o:Addr}{p:Addr}{q:Addr}{c:Addr}{b:Addr}{a:Addr}{Dl Ls Gz G7 CV Fq Ff HC W0 Ut Wo O5 XZ UL Lc Bl Oz Fs Mu CL MQ Jr Rs KQ Nz GJ Mw CP Lg Pa Ji Jj MD WP Nb UM Jq I0 Jz LJ HD C9 Jl JC Hw Je Nq MA JL LZ Ve Jk U3 rd fN IK NK Nt UD OU Ao LB Si VW TZ Jf HK Fn Dz Ci:Addr}{BF JD Fg E2 BS Dq DI EN Uo Rp UH NT TR QM JH AJ MB Dv IV Cm Lp Hm Og JG Li Fl IZ Cv Ix M8 G8 FG Jn Uh Ma RX Iu FV G4 Jp Fa Ct Gm F4 Fk HE Mp IJ Go Jv P9 Gp Pu p8 fy Gb LQ Mc Rj MR zb IQ NC TX OW GX EO C7 BG Az:FuncData}{t:Addr}{Y6 Cc:Option Addr}{CG:Array (Option Value)}{Y7 Ce Bz CA tU Cr:Value}{n:Addr}{iO yX:Option Addr}{y7:Array (Option Value)}{iS yV yT zd rJ yS:Value}{k:Addr}{Ϸ wI:Option Addr}{wL:Array (Option Value)}{ϸ wK wS wP qw wM:Value}{Mi:Addr}{ai Oe:Option Addr}{Wp:Array (Option Value)}{S ND Ou Nx H On:Value}{Zy:Tok}{ZX:Tok}{V:Tok}{L5:Addr}{XO XQ:Tok}{Yz:Nat}{Yj:Option Addr}{Yr:Array (Option Value)}(X:K.In h)(G:h.Ns mainGlobals j)(B:j "law"=some (.ref U))(G5:PySem.W.nsIn K mainGlobals "TollError"=some (some (.ref f)))(OG:PySem.W.nsIn K mainGlobals "BadWeb"=some (some (.ref A)))(LV:PySem.W.nsIn K mainGlobals "NoPlace"=some (some (.ref u)))(NX:PySem.W.nsIn K mainGlobals "NoRoad"=some (some (.ref m)))(HW:PySem.W.nsIn K mainGlobals "BadLaying"=some (some (.ref o)))(LY:PySem.W.nsIn K mainGlobals "BadWish"=some (some (.ref p)))(My:PySem.W.nsIn K mainGlobals "NoWorst"=some (some (.ref q)))(XW:PySem.W.nsIn K mainGlobals "Web"=some (some (.ref c)))(K6:PySem.W.nsIn K mainGlobals "Outlook"=some (some (.ref b)))(Sg:PySem.W.nsIn K mainGlobals "Tally"=some (some (.ref a)))(zt:aes K f)(Ik:As K f A)(D8:As K f u)(xT:rD K u)(Gu:As K f m)(AE:rD K m)(zL:As K f o)(uF:rD K o)(Eb:As K f p)(tJ:rD K p)(Ey:As K f q)(xN:rD K q)(C:[f,A,u,m,o,p,q].Nodup)(CN:FI K "check_counts" md Dl BF)(LU:FI K "is_place" qp Ls JD)(Hf:FI K "check_ends" pP Gz Fg)(FW:FI K "other_ends" nN G7 E2)(DS:FI K "check_joined" ou CV BS)(Fb:FI K "check_tolls" kM Fq Dq)(C1:PySem.W.findIn K (.ref c) "__init__"=some (some (.ref t)))(DP:PySem.W.isFn K (.ref t)=true)(CY:K.lookup t=some ⟨Y7,Y6,.func (PySem.W.fnOf "__init__" "Web.__init__" (jh je) (iq je) (aB je) .none Ce Bz CA Cc tU Cr),CG⟩)(Dp:PySem.W.codeIn K tU "Web.__init__"=true)(Du:PySem.W.keepIn K (.ref t)=true)(ES:FI K "check_place" iU Ff DI)(HL:FI K "neighbours" lZ HC EN)(V5:FI K "kids" sE W0 Uo)(U4:FI K "ahead" qK Ut Rp)(Xg:FI K "down" vA Wo UH)(R7:FI K "inward" jN O5 NT)(XF:FI K "toll" jU XZ TR)(Uk:FI K "borne" uW UL QM)(Lw:FI K "is_heavy" pW Lc JH)(BU:FI K "least_weights" jK Bl AJ)(Nd:FI K "bearers" rp Oz MB)(EX:FI K "differences" kN Fs Dv)(Lv:FI K "value_at" mG Mu IV)(DN:FI K "first_values" lU CL Cm)(OA:FI K "is_free" uf MQ Lp)(IB:FI K "parted_at" o9 Jr Hm)(Q9:FI K "parted" sN Rs Og)(KW:FI K "held_for" rR KQ JG)(Oj:FI K "ways_of" qX Nz Li)(Gr:FI K "ways_given" qh GJ Fl)(Lo:FI K "rests_of" jr Mw IZ)(AW:PySem.W.findIn K (.ref a) "__init__"=some (some (.ref n)))(AD:PySem.W.isFn K (.ref n)=true)(AO:K.lookup n=some ⟨iS,iO,.func (PySem.W.fnOf "__init__" "Tally.__init__" (jh f9) (iq f9) (aB f9) .none yV yT zd yX rJ yS),y7⟩)(Aq:PySem.W.codeIn K rJ "Tally.__init__"=true)(Ay:PySem.W.keepIn K (.ref n)=true)(Da:FI K "check_wanted" ko CP Cv)(L3:FI K "bound_by" pU Lg Ix)(RP:FI K "enough" vI Pa M8)(Jx:FI K "is_filled" oX Ji G8)(JJ:FI K "laying_of" mS Jj FG)(KY:FI K "gathered" rT MD Jn)(Wz:FI K "most" Bn WP Uh)(M7:FI K "wish_of" nI Nb Ma)(UJ:FI K "needs" vg UM RX)(Jb:FI K "pile_need" qN Jq Iu)(IU:FI K "handed_on" qP I0 FV)(IG:FI K "standings" j8 Jz G4)(LH:FI K "standing" rO LJ Jp)(FK:FI K "worst_many" nU HD Fa)(DG:FI K "_law_all_told" om C9 Ct)(JI:FI K "_law_drawn" j7 Jl Gm)(IL:FI K "_law_bound" qQ JC F4)(GZ:FI K "_law_laying" nY Hw Fk)(Js:FI K "_law_order" oZ Je HE)(Ng:FI K "_law_put" rm Nq Mp)(Lz:FI K "_law_toll" rY MA IJ)(Iw:FI K "_law_roads" oV JL Go)(MF:FI K "_law_wish" pQ LZ Jv)(UE:FI K "added" pL Ve P9)(Ja:FI K "idle_kids" lG Jk Gp)(Ub:FI K "total" qE U3 Pu)(Ov:FI K "load_by" lh rd p8)(CC:FI K "greatest_load" c8 fN fy)(JF:FI K "idle_load" qR IK Gb)(xP:PySem.W.findIn K (.ref b) "__init__"=some (some (.ref k)))(wY:PySem.W.isFn K (.ref k)=true)(wW:K.lookup k=some ⟨ϸ,Ϸ,.func (PySem.W.fnOf "__init__" "Outlook.__init__" (jh fX) (iq fX) (aB fX) .none wK wS wP wI qw wM),wL⟩)(yy:PySem.W.codeIn K qw "Outlook.__init__"=true)(wX:PySem.W.keepIn K (.ref k)=true)(Nu:FI K "failing" qY NK LQ)(M4:FI K "is_idle" qW Nt Mc)(Ur:FI K "fails" qx UD Rj)(QZ:FI K "always" vV OU MR)(AB:FI K "common_divisor" ku Ao zb)(LI:FI K "fraction" qd LB IQ)(SJ:FI K "sum_up" pC Si NC)(WV:FI K "plus" Cy VW TX)(T8:FI K "minus" u5 TZ OW)(JA:FI K "road_part" oU Jf GX)(FZ:FI K "even_share" qo HK EO)(EV:FI K "even_shares" mP Fn C7)(Dg:FI K "second_share" oG Dz BG)(BC:FI K "second_shares" kW Ci Az)(Tz:PySem.W.nsIn K mainGlobals "law"=some (some (.ref Mi)))(Yh:K.lookup Mi=some ⟨S,ai,.func (PySem.W.fnOf "law" "law" (jh mD) (iq mD) (aB mD) .none ND Ou Nx Oe H On),Wp⟩)(Yx:PySem.W.codeIn K H "law"=true)(Yi:PySem.W.keepIn K (.ref Mi)=true)(Xf:PySem.W.plainGet K c Str.empty=true)(V4:PySem.W.hasDictIn K c=true)(VI:PySem.W.plainOver K c=true)(Wj:PySem.W.findIn K (.ref c) "__setattr__"=some (some (.builtin "object.__setattr__")))(Wf:PySem.W.makesIn K c=true)(WX:PySem.W.keepIn K (.ref c)=true)(av:PySem.W.findIn K (.ref c) "many"=some none)(ar:PySem.W.findIn K (.ref c) "roads"=some none)(Mt:PySem.W.plainGet K b Str.empty=true)(Lh:PySem.W.hasDictIn K b=true)(MH:PySem.W.plainOver K b=true)(KZ:PySem.W.findIn K (.ref b) "__setattr__"=some (some (.builtin "object.__setattr__")))(K4:PySem.W.makesIn K b=true)(LD:PySem.W.keepIn K (.ref b)=true)(Γ:PySem.W.findIn K (.ref b) "web"=some none)(Y8:PySem.W.findIn K (.ref b) "needs"=some none)(Ν:PySem.W.findIn K (.ref b) "kids"=some none)(Zo:PySem.W.findIn K (.ref b) "idle"=some none)(Pl:PySem.W.plainGet K a Str.empty=true)(SZ:PySem.W.hasDictIn K a=true)(Sh:PySem.W.plainOver K a=true)(Qu:PySem.W.findIn K (.ref a) "__setattr__"=some (some (.builtin "object.__setattr__")))(Sm:PySem.W.makesIn K a=true)(SO:PySem.W.keepIn K (.ref a)=true)(Φ:PySem.W.findIn K (.ref a) "web"=some none)(ZY:PySem.W.findIn K (.ref a) "down"=some none)(Y9:PySem.W.findIn K (.ref a) "weights"=some none)(Za:PySem.W.findIn K (.ref a) "bearers"=some none)(Ϙ:PySem.W.findIn K (.ref a) "kids"=some none)(Zz:PySem.W.findIn K (.ref a) "rests"=some none)(Q:PySem.W.nsIn K mainGlobals "range"=some none)(O:PySem.W.nsIn K mainGlobals "zip"=some none)(ad:PySem.W.nsIn K mainGlobals "len"=some none)(L:PySem.W.nsIn K mainGlobals "all"=some none)(aS:PySem.W.nsIn K mainGlobals "int"=some none)(a1:PySem.W.nsIn K mainGlobals "tuple"=some none)(an:PySem.W.nsIn K mainGlobals "list"=some none)(Y:PySem.W.nsIn K mainGlobals "reversed"=some none)(a3:PySem.W.nsIn K mainGlobals "sorted"=some none)(ak:PySem.W.nsIn K mainGlobals "min"=some none)(ae:PySem.W.nsIn K mainGlobals "max"=some none)(af:PySem.W.nsIn K mainGlobals "enumerate"=some none)(J:PySem.W.nsIn K mainGlobals "sum"=some none)(ao:PySem.W.nsIn K mainGlobals "abs"=some none)(I:PySem.W.nsIn K mainGlobals "set"=some none)(ZA:PySem.W.nsIn K mainGlobals "MOST_PLACES"=some (some (.int 24 Zy)))(ZZ:PySem.W.nsIn K mainGlobals "LEAST_TOLL"=some (some (.int 2 ZX)))(ab:PySem.W.nsIn K mainGlobals "MOST_TOLL"=some (some (.int 1000000 V)))(Yt:PySem.W.nsIn K mainGlobals "ONE"=some (some (.ref L5)))(VJ:K.lookup L5=some ⟨.type "tuple",Yj,.seq #[.int 1 XO,.int 1 XQ] Yz,Yr⟩):∃fd:FuncData,(∀(s:Shared)(v:Value),BindsTo s fd ⟨[v],[]⟩ [("script",v)])/\∀base:Heap,K.In base->base.Ns mainGlobals j->Ψ l.prog w K j base (ψ l.prog w) 61 U fd ["script"] (FC K):=by
 have e:=B.symm.trans (bP X G Tz);cases e
 let T:Txt K j:=⟨f,bP X G G5,A,bP X G OG,u,bP X G LV,m,bP X G NX,o,bP X G HW,p,bP X G LY,q,bP X G My,c,bP X G XW,b,bP X G K6,a,bP X G Sg,zt,Ik,D8,xT,Gu,AE,zL,uF,Eb,tJ,Ey,xN,C,PySem.W.mg_none_of X G Q,PySem.W.mg_none_of X G O,PySem.W.mg_none_of X G ad,PySem.W.mg_none_of X G L,PySem.W.mg_none_of X G aS,PySem.W.mg_none_of X G a1,PySem.W.mg_none_of X G an,PySem.W.mg_none_of X G Y,PySem.W.mg_none_of X G a3,PySem.W.mg_none_of X G ak,PySem.W.mg_none_of X G ae,PySem.W.mg_none_of X G af,PySem.W.mg_none_of X G J,PySem.W.mg_none_of X G ao,PySem.W.mg_none_of X G I,⟨_,bP X G ZA⟩,⟨_,bP X G ZZ⟩,⟨_,bP X G ab⟩,L5,bP X G Yt,Yp VJ,⟨Xf,V4,VI,Wj⟩,av,ar,⟨Mt,Lh,MH,KZ⟩,Γ,Y8,Ν,Zo,⟨Pl,SZ,Sh,Qu⟩,Φ,ZY,Y9,Za,Ϙ,Zz⟩
 have va:=CN.ϵ X G ["many","roads"];have Ca:=LU.ϵ X G ["many","number"];have yf:=Hf.ϵ X G ["many","road"];have ye:=FW.ϵ X G ["roads","place"];have vq:=DS.ϵ X G ["many","roads"];have wz:=Fb.df1 X G ["road"];have oC:=xt (st:=je) CY Dp Du;have Fx:=oC.binds (ps:=["self","many","roads"]) λ_ _ _ _ _ _ E i=>by obtain⟨F,u1,u2,rfl⟩:=us3 i;rfl
 have wG:=ES.ϵ X G ["web","number"];have xC:=HL.ϵ X G ["web","a"];have NS:=V5.ZW X G ["web","place","front"];have JR:=U4.ϵ X G ["web","r"];have Ni:=Xg.ϵ X G ["web","r"];have F6:=R7.ϵ X G ["web","r"];have M9:=XF.ZW X G ["web","a","b"];have Kd:=Uk.df4 X G ["web","weights","place","front"];have Cs:=Lw.df4 X G ["web","weights","place","front"];have tX:=BU.ϵ X G ["web","r"];have EF:=Nd.ϵ X G ["web","r"];have wF:=EX.df1 X G ["values"];have BA:=Lv.ϵ X G ["found","at"];have uT:=DN.ϵ X G ["found","many"];have DY:=OA.ZW X G ["tally","place","kid"];have zN:=IB.ZW X G ["one","other","at"];have GI:=Q9.ϵ X G ["one","other"];have Ch:=KW.df4 X G ["tally","place","kid","given"];have Ec:=Oj.ZW X G ["tally","place","held"];have xV:=Gr.df4 X G ["tally","place","kid","given"];have BW:=Lo.ϵ X G ["tally","place"];have mI:=xt (st:=f9) AO Aq Ay;have DF:=mI.binds (ps:=["self","web","r"]) λ_ _ _ _ _ _ E i=>by obtain⟨F,u1,u2,rfl⟩:=us3 i;rfl
 have uL:=Da.ZW X G ["web","r","wanted"];have Cj:=L3.df4 X G ["web","r","wanted","weights"];have FE:=RP.ZW X G ["web","r","wanted"];have zi:=Jx.ϵ X G ["web","numbers"];have zp:=JJ.ϵ X G ["web","numbers"];have Bj:=KY.ZW X G ["web","laying","r"];have Nj:=Wz.ZW X G ["web","laying","r"];have D6:=M7.ϵ X G ["web","numbers"];have J8:=UJ.ZW X G ["web","wish","r"];have zF:=Jb.ZW X G ["web","wish","v"];have zk:=IU.df4 X G ["web","over","place","front"];have zC:=IG.df4 X G ["web","laying","wish","r"];have BD:=LH.df4 X G ["web","laying","wish","r"];have yg:=FK.ZW X G ["web","r","wanted"];have uQ:=DG.df4 X G ["web","laying","wish","r"];have zu:=JI.ϵ X G ["script","k"];have zG:=IL.df1 X G ["script"];have xF:=GZ.ZW X G ["script","many","bound"];have zr:=Js.ϵ X G ["cell","many"];have Et:=Ng.ϵ X G ["numbers","order"];have BE:=Lz.df1 X G ["part"];have zD:=Iw.ZW X G ["script","many","shape"];have B7:=MF.ZW X G ["script","many","bound"];have JX:=UE.ϵ X G ["one","other"];have zI:=Ja.ZW X G ["outlook","place","left_out"];have JP:=Ub.df1 X G ["numbers"];have ml:=Ov.df4 X G ["outlook","place","kid","room"];have M:=CC.ZW X G ["outlook","place","over"];have zK:=JF.ZW X G ["outlook","place","front"];have N:=xt (st:=fX) wW yy wX;have yi:=N.binds (ps:=["self","web","wish","r"]) λ_ _ _ _ _ _ E i=>by obtain⟨F,u1,u2,u3,rfl⟩:=us4 i;rfl
 have D2:=Nu.ZW X G ["web","wish","r"];have DU:=M4.ϵ X G ["web","wish"];have KI:=Ur.ϵ X G ["web","wish"];have Hl:=QZ.ϵ X G ["web","wish"];have sI:=AB.ϵ X G ["one","two"];have Bo:=LI.ϵ X G ["top","bottom"];have Gy:=SJ.df1 X G ["some"];have Nk:=WV.ϵ X G ["one","two"];have Ky:=T8.ϵ X G ["one","two"];have zf:=JA.ϵ X G ["one","other"];have xG:=FZ.ϵ X G ["web","place"];have ww:=EV.df1 X G ["web"];have vx:=Dg.ϵ X G ["web","place"];have tT:=BC.df1 X G ["web"];have Ts:=xt (st:=mD) Yh Yx Yi;have Ym:=Ts.binds (ps:=["script"]) λ_ _ _ _ _ _ E i=>by obtain⟨F,rfl⟩:=us1 i;rfl
 have Ys:Df K j "law" mD ["script"] U _:=⟨Ts,bP X G Tz,Ym⟩;refine⟨PySem.W.fnOf "law" "law" (jh mD) (iq mD) (aB mD) .none ND Ou Nx Oe H On,λs v=>.of_eq rfl,λbase _ _=>?_⟩;have Fy:Mk K T.Web t:=⟨Wf,C1,DP,WX⟩;have xR:Mk K T.Outlook k:=⟨K4,xP,wY,LD⟩;have De:Mk K T.Tally n:=⟨Sm,AW,AD,SO⟩;have qD:=cb va (Bm (P:=l.prog) (w:=w) (base:=base) T bL _ _ va);have mC:=cb Ca (Iz (P:=l.prog) (w:=w) (base:=base) T bL _ _ Ca);have tz:=cb yf (Fv T bL mC _ _ yf);have lX:=cb ye (EY (P:=l.prog) (w:=w) (base:=base) T bL _ _ ye);have qG:=cb vq (Bf T bL lX _ _ vq);have rF:=cb wz (CO (P:=l.prog) (w:=w) (base:=base) T bL _ _ wz);have Ϫ:=AY (P:=l.prog) (w:=w) (base:=base) T bL oC qD tz qG rF;have x:=cb wG (CZ T bL mC _ _ wG);have iL:=cb xC (EM T bL x lX _ _ xC);have z:=cb NS (Ua T bL iL _ _ NS);have y:=cb JR (Q8 T bL x z _ _ JR);have vd:=cb Ni (U0 T bL y z _ _ Ni);have g:=cb F6 (Om T bL y vd _ _ F6);have d:=cb M9 (Vf T bL x _ _ M9);have sv:=cb Kd (Ph T bL d _ _ Kd);have oh:=cb Cs (JM T bL sv _ _ Cs);have gC:=cb tX (zS T bL sv g _ _ tX);have wV:=cb EF (Ln T bL g oh gC _ _ EF);have pj:=cb wF (CU (P:=l.prog) (w:=w) (base:=base) T bL _ _ wF);have j2:=cb BA (IT (P:=l.prog) (w:=w) (base:=base) T bL _ _ BA);have qL:=cb uT (Ba T bL j2 _ _ uT);have xE:=cb DY (L1 T bL oh _ _ DY);have mR:=cb zN (GM (P:=l.prog) (w:=w) (base:=base) T bL _ _ zN);have AV:=cb GI (No T bL mR _ _ GI);have vZ:=cb Ch (IE T bL d _ _ Ch);have pM:=cb Ec (Mh T bL j2 _ _ Ec);have lS:=cb xV (EU T bL vZ pM _ _ xV);have vN:=cb BW (JK T bL pj qL xE AV lS _ _ BW);have ϩ:=y3 (P:=l.prog) (w:=w) (base:=base) T bL mI y wV vd z gC vN;have kh:=cb uL (Bc T bL x _ _ uL);have wn:=cb Cj (JN T bL kh g d _ _ Cj);have Ai:=cb FE (Np T bL wn gC _ _ FE);have mW:=cb zi (FM (P:=l.prog) (w:=w) (base:=base) T bL _ _ zi);have mU:=cb zp (Ga T bL mW _ _ zp);have vG:=cb Bj (JB T bL g mU d _ _ Bj);have HG:=cb Nj (UZ T bL vG _ _ Nj);have R:=cb D6 (L9 T bL mW _ _ D6);have sj:=cb J8 (Pi T bL g d R _ _ J8);have uv:=cb zF (G1 T bL sj _ _ zF);have ug:=cb zk (FP T bL d _ _ zk);have ui:=cb zC (Gi T bL ug g mU R _ _ zC);have vY:=cb BD (IX T bL ui _ _ BD);have sO:=cb yg (Fm T bL mI DF De ϩ kh pM _ _ yg);have oj:=cb uQ (BK T bL Ai HG uv vY sO _ _ uQ);have r:=cb zu (Gs (P:=l.prog) (w:=w) (base:=base) T bL _ _ zu);have ut:=cb zG (GF T bL r _ _ zG);have sL:=cb xF (Fp T bL r _ _ xF);have uw:=cb zr (FL (P:=l.prog) (w:=w) (base:=base) T bL _ _ zr);have pK:=cb Et (ME (P:=l.prog) (w:=w) (base:=base) T bL _ _ Et);have rQ:=cb BE (IC (P:=l.prog) (w:=w) (base:=base) T bL _ _ BE);have ux:=cb zD (GY T bL r rQ _ _ zD);have vJ:=cb B7 (Jc T bL r _ _ B7);have kf:=cb JX (R5 (P:=l.prog) (w:=w) (base:=base) T bL _ _ JX);have eK:=cb zI (GN T bL kf _ _ zI);have Z:=cb JP (SL (P:=l.prog) (w:=w) (base:=base) T bL _ _ JP);have fP:=Aw (P:=l.prog) (w:=w) (base:=base) T bL M ml kf eK d Z;have uz:=cb zK (FX T bL M fP eK d _ _ zK);have Ϝ:=wO (P:=l.prog) (w:=w) (base:=base) T bL N y uz g z sj;have yc:=cb D2 (Ms (P:=l.prog) (w:=w) (base:=base) T bL N yi xR Ϝ M fP _ _ D2);have pI:=cb DU (L8 T bL Z R _ _ DU);have DC:=cb KI (Rb T bL yc pI _ _ KI);have wg:=cb Hl (NZ T bL DC pI Z _ _ Hl);have jk:=cb sI (yU (P:=l.prog) (w:=w) (base:=base) T bL _ _ sI);have oE:=cb Bo (IM T bL jk _ _ Bo);have D:=cb Gy (MY T bL jk oE _ _ Gy);have Gq:=cb Nk (UA T bL D _ _ Nk);have sy:=cb Ky (SG T bL Gq _ _ Ky);have gO:=cb zf (FQ T bL oE _ _ zf);have lO:=cb xG (Ft T bL sy iL gO D d _ _ xG);have pA:=cb ww (Dx T bL lO _ _ ww);have kj:=cb vx (CK T bL sy iL gO D d _ _ vx);have nG:=cb tT (Af T bL kj _ _ tT);have Yk:=XM (P:=l.prog) (w:=w) (base:=base) T bL Ys oC Fx Fy Ϫ oj ut r sL uw pK ux vJ wg pA nG;exact Yk
theorem walk{l:PySem.W.OpenLaw}{q:Program}{c:hO}{y:(Str->Option Value)->Heap->Prop}{i:World->Heap->Prop}{d:DefRec}{K:Params->PySem.W.Frag}(o:l.most=some 63)(g:d.params.defaults=[])(p:∀(w:World) (h:Heap),i w h->(K w.params).In h)(F:∀(w:World) (e:hL) (j:Addr) (h:Heap),(K w.params).In h->h.Ns mainGlobals e->e d.name=some (.ref j)->∃m:FuncData,(∀(s:Shared) (u:Value),BindsTo s m ⟨[u],[]⟩ [("script",u)])/\∀b:Heap,(K w.params).In b->b.Ns mainGlobals e->Ψ l.prog w (K w.params) e b (ψ l.prog w) 61 j m ["script"] (FC (K w.params))):PySem.W.WalkO q c y i l.row.toRowW d [] (λf r=>PySem.call f r):=L2.acD (n:=63) (k:=61) (x:="script") (CX:=λw=>(ψ l.prog w)) (sp:=λw=>FC (K w.params)) o (by decide) g ⟨rfl,by decide,by decide⟩ p F (λ_ _ a A v _ t=>⟨a,A,rfl,t,v,λ_=>rfl⟩) λ_ _ _ _ _ z=>bL _ _ _ _ _ z
end Pk
open L2
open PySem PySem.W PyProof.Rows
set_option maxRecDepth 100000 in
set_option maxHeartbeats 0 in
theorem PySem.Challenge.cw_pebbletoll_k69_whole_told_otherwise_holds : PySem.Challenge.rw_pebbletoll_k69_whole_told_otherwise.Holds := by
 w_on;refine PySem.W.holds_law Hd.ws λarU=>?_
 refine PySem.W.holds_open (q:=Hd.qq) (loose:=[]) (Xt:=(λs=>PySem.W.xlAt Hd.qq [] s&&PySem.W.recOk (PySem.W.RowW.records (PySem.W.OpenRow.toRowW (PySem.Challenge.rw_pebbletoll_k69_whole_told_otherwise).row)) s)) (XP:=PySem.W.XL Hd.qq []) (Yf:=PySem.W.Hook.obs (PySem.W.kHook Hd.KK Hd.asK Hd.ϥ)) (Ya:=PySem.W.Hook.val (PySem.W.kHook Hd.KK Hd.asK Hd.ϥ)) (YP:=PySem.W.Hook.says (PySem.W.kHook Hd.KK Hd.asK Hd.ϥ)) (N:=9026) Hd.left (PySem.W.Hook.of (PySem.W.kHook Hd.KK Hd.asK Hd.ϥ)) (PySem.W.Hook.keeps (PySem.W.kHook Hd.KK Hd.asK Hd.ϥ)) (λs e=>PySem.W.xl_of s (nC.mp e).1) PySem.W.XL.keeps (by rfl) (by rfl) (by rfl) (λs e=>PySem.W.recFacts_of (nC.mp e).2) (by rfl) (by assumption) (by decide +kernel) ⟨rfl,rfl,rfl,rfl,rfl,by decide +kernel⟩ ?hw ?hc
 (case hw=>w_witness2)
 k_fill
 refine Pk.walk (l:=PySem.Challenge.rw_pebbletoll_k69_whole_told_otherwise) rfl rfl (λw h Y=>PySem.W.kIn_of Y) ?F
 case F=>
  intro w mg fa h KX G hmg;refine' Pk.all_mk KX G hmg ?_ ?_ ?_ ?_ ?_ ?_ ?_ ?_ ?_ ?_ ?_ ?_ ?_ ?_ ?_ ?_ ?_ ?_ ?_ ?_ ?_ ?_ ?_ ?_ ?_ ?_ ?_ ?_ ?_ ?_ ?_ ?_ ?_ ?_ ?_ ?_ ?_ ?_ ?_ ?_ ?_ ?_ ?_ ?_ ?_ ?_ ?_ ?_ ?_ ?_ ?_ ?_ ?_ ?_ ?_ ?_ ?_ ?_ ?_ ?_ ?_ ?_ ?_ ?_ ?_ ?_ ?_ ?_ ?_ ?_ ?_ ?_ ?_ ?_ ?_ ?_ ?_ ?_ ?_ ?_ ?_ ?_ ?_ ?_ ?_ ?_ ?_ ?_ ?_ ?_ ?_ ?_ ?_ ?_ ?_ ?_ ?_ ?_ ?_ ?_ ?_ ?_ ?_ ?_ ?_ ?_ ?_ ?_ ?_ ?_ ?_ ?_ ?_ ?_ ?_ ?_ ?_ ?_ ?_ ?_ ?_ ?_ ?_ ?_ ?_ ?_ ?_ ?_ ?_ ?_ ?_ ?_ ?_ ?_ ?_ ?_ ?_ ?_ ?_ ?_ ?_ ?_ ?_ ?_ ?_ ?_ ?_ ?_ ?_ ?_ ?_ ?_ ?_ ?_ ?_ ?_ ?_ ?_ ?_ ?_ ?_ ?_
  any_goals first|exact UY (by k_is) (by k_is) (by k_is) (by k_is) (by k_is) (by k_is) (by k_is) (by k_is) (by rfl)|exact US (by k_is) (by k_is) (by k_is) (by k_is) (by k_is) (by k_is) (by k_is) (by k_is) (by rfl)|exact UB _ _ _ _ _ _ _ _ _ _ _ _ _ _ _ _ (by k_is) (by rfl) (by kernel_rfl) (by k_is) (by kernel_rfl)|exact Pk.fi|k_is|decide
#print axioms PySem.Challenge.cw_pebbletoll_k69_whole_told_otherwise_holds